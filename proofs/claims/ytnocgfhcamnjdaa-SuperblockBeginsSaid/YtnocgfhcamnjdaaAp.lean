/- Superblock: newest 34. -/
import Derived.Test.YtnocgfhcamnjdaaAo
import Derived.WalkMore
namespace Go.Proofs.Ytnocgfhcamnjdaa
open Go.RowKit Go.Lib

theorem z33_len : z33.length = 33 := by kernel_rfl
theorem z33_one : ∀ v ∈ z33, v.oneCell' = true := by rw [← cBlk_z]; exact cBlk_one _ _
theorem run_s2ap (g c : Nat) (W : World) : (Instr.arrayAt 67 (.slice (some ⟨g, 0, none⟩) 32 c)).run Try.prog W = .ok (.pointer (some ⟨g, 0, none⟩)) W := by
  simp [Instr.arrayAt, run_underlying Try.underlying67, Sem.run_bind]
theorem run_half (b off c k : Nat) (x y : Int) (hx : x = ((8 * k : Nat) : Int)) (hy : y = ((8 * k + 8 : Nat) : Int)) (hk : k < 2) (hc : 16 ≤ c) (W : World) : (Instr.slice 32 (.slice (some ⟨b, off, none⟩) 16 c) (some (.int .i64 x)) (some (.int .i64 y)) none).run Try.prog W = .ok (.slice (some ⟨b, off + 64 * k, none⟩) 8 (c - 8 * k)) W := by
  subst hx hy
  simp [Instr.slice, run_underlying Try.underlying32, Instr.sliceBounds, Sem.run_bind, run_sliceBound_if]
  rw [if_pos (by omega), if_pos (by omega)]
  simp
  rw [if_neg (by omega), add_at, show (8 * (k : Int)).toNat = 8 * k by omega, show (8 * (k : Int) + 8).toNat = 8 * k + 8 by omega, show 8 * k * 8 = 64 * k by omega]
  exact ⟨rfl, by omega, rfl⟩
theorem cut4 {G : World → Nat → Nat → Nat → Prop} {R : Prop} (F : World → Nat → Nat → Nat → Prop) (main : (∀ X p g c, F X p g c → G X p g c) → R) (cont : ∀ X p g c, F X p g c → G X p g c) : R := main cont
set_option maxHeartbeats 4000000 in
set_option maxRecDepth 100000 in
theorem sbNewest_any (l : List Sect) (v : Value) (w : World) (hv : Sec w v l) (hl : l.length = 16) :
    Calls Try.prog 34 #[v] w fun e w' => e = .returned (.tuple #[.int .i64 ((newS l).1 : Int), .agg (cBlk (newS l).2.1 (newS l).2.2).toArray, .bool (decide (0 < (newS l).2.2))]) ∧ Below w.heap.size w w' := by
  obtain ⟨A, c, rfl⟩ := sec_form hv
  obtain ⟨b, off, rfl, hbl, hcl⟩ := arr_at1 hv.2 (by rw [List.length_map, hl]; decide)
  have hcap : 16 ≤ c := by
    obtain ⟨_, _, e, h1, _⟩ := hv.2
    injection e with _ e2 e3
    rw [List.length_map, hl] at h1
    omega
  have HNG := hid (nst_good hv.1 hl)
  have HV := hid hv
  have HL := hid hl
  rw [hl] at HV ⊢
  obtain ⟨p3, hp3⟩ : ∃ p, w.heap.size = p := ⟨_, rfl⟩
  obtain ⟨W1, hW1⟩ : ∃ X, w.alloc (.cells z33.toArray 71) = X := ⟨_, rfl⟩
  obtain ⟨W2, hW2⟩ : ∃ X, W1.alloc (.cells z33.toArray 71) = X := ⟨_, rfl⟩
  obtain ⟨p6, hp6⟩ : ∃ p, W1.heap.size = p := ⟨_, rfl⟩
  have hb1 : Below w.heap.size w W1 := by rw [← hW1]; exact al1 _ _
  have hb2 : Below W1.heap.size W1 W2 := by rw [← hW2]; exact al1 _ _
  have hx1 : W1.heap[p3]? = some (.cells z33.toArray 71) := by rw [← hW1, ← hp3]; exact heap_alloc_new _ _
  have hx2 : W2.heap[p3]? = some (.cells z33.toArray 71) := (hb2.block _ (box_lt hx1)).trans hx1
  have hy2 : W2.heap[p6]? = some (.cells z33.toArray 71) := by rw [← hW2, ← hp6]; exact heap_alloc_new _ _
  have hlt : p3 < p6 := by have := box_lt hx1; omega
  have hg6 : w.heap.size ≤ p6 := by rw [← hp6]; exact hb1.size
  obtain ⟨W3, hr3, hy3, ho3, hbw3⟩ := set_row71 (cs := z33) hy2 z33_len z33_len z33_one
  have hb3 : Below w.heap.size w W3 := hbw3 _ _ (hb1.trans (hb2.mono hb1.size)) hg6
  have hx3 : W3.heap[p3]? = some (.cells z33.toArray 71) := (ho3 p3 (by omega)).trans hx2
  have HA1 := hid (show (Instr.alloc 71 true (.tuple #[])).run Try.prog w = .ok (.pointer (some ⟨p3, 0, none⟩)) W1 from by rw [← hW1, ← hp3]; exact run_alloc71 w)
  have HA2 := hid (show (Instr.alloc 71 true (.tuple #[])).run Try.prog W1 = .ok (.pointer (some ⟨p6, 0, none⟩)) W2 from by rw [← hW2, ← hp6]; exact run_alloc71 W1)
  have HR3 := hid hr3
  have HX3 := hid hx3
  have HY3 : Hid (W3.heap[p6]? = some (.cells (cBlk (nst l 0).2.1 (nst l 0).2.2).toArray 71)) := hid (by
    rw [show cBlk (nst l 0).2.1 (nst l 0).2.2 = z33 from cBlk_z]
    exact hy3)
  have HB3 := hid hb3
  have HLT := hid hlt
  have HG6 := hid hg6
  have HG3 : Hid (w.heap.size ≤ p3) := hid (Nat.le_of_eq hp3)
  clear hv hl hbl hcl hp3 hW1 hW2 hp6 hb1 hb2 hx1 hx2 hy2 hlt hg6 hr3 hy3 ho3 hbw3 hb3 hx3
  go_enter Try.func34, Try.ntmps34
  go_upto_region 1 with (refine wpl_alloc rfl 71 rfl _ HA1.out ?_)
  go_step3
  go_wp2_with (first
    | (refine wpl_alloc rfl 71 rfl _ HA2.out ?_)
    | (refine wpl_build0 (by rfl) 71 (by rfl) _ (run_build71e _) ?_)
    | (refine wpl_store rfl 71 (.tmp 6) (.tmp 12) rfl _ _ rfl rfl HR3.out ?_)
    | fail)
  go_step3
  go_upto_region 3 with fail
  go_loopw [13, 5] (fun kv iv wr => ∃ k i : Nat, k ≤ 2 ∧ kv = .int .i64 (k : Int) ∧ iv = .int .i64 (i : Int) ∧ Hid ((nst l k).1 = i) ∧ Hid (wr.heap[p6]? = some (.cells (cBlk (nst l k).2.1 (nst l k).2.2).toArray 71)) ∧ Hid (wr.heap[p3]? = some (.cells z33.toArray 71)) ∧ Hid (Below w.heap.size w wr)) (fun kv _ _ => 2 - (Go.RowKit.intOf kv).toNat)
  case atStart => exact ⟨0, 0, by omega, rfl, rfl, hid rfl, HY3, HX3, HB3⟩
  case round =>
    obtain ⟨k, i, hk, rfl, rfl, HI, HY, HX, HB⟩ := hrel
    by_cases hk2 : k < 2
    · have d0 : decide ((k : Int) < 2) = true := decide_eq_true (by omega)
      have hsl := fun W => run_half b off c k (8 * (k : Int)) (8 * (k : Int) + 8) (by omega) (by omega) hk2 hcap W
      have hm8 : (k : Int) * 8 = 8 * (k : Int) := by omega
      have hm9 : ((k : Int) + 1) * 8 = 8 * (k : Int) + 8 := by omega
      obtain ⟨H, hH⟩ : ∃ H, (l.drop (8 * k)).take 8 = H := ⟨_, rfl⟩
      have hHL : H.length = 8 := by rw [← hH, List.length_take, List.length_drop, HL.out]; omega
      have hsh : Sec wr (.slice (some ⟨b, off + 64 * k, none⟩) 8 (c - 8 * k)) H := by
        have hv := HV.out.below HB.out
        have h := arr_mid hv.2 (8 * k) (8 * k + 8) (by omega) (by rw [List.length_map, HL.out]; omega)
        rw [show 8 * k + 8 - 8 * k = 8 by omega, ← List.map_drop, ← List.map_take, hH] at h
        unfold fromN at h
        rw [if_neg (by omega), Option.map_some, add_at, show 8 * k * 8 = 64 * k by omega] at h
        exact ⟨hH ▸ secs_mid hv.1 _ _, h⟩
      obtain ⟨s, hs0⟩ : ∃ s, H[0]? = some s := ⟨H[0]'(by omega), List.getElem?_eq_getElem _⟩
      have hs8 := hsh.1 s (List.mem_of_getElem? hs0)
      obtain ⟨n4, hn4⟩ : ∃ n, num4 s = n := ⟨_, rfl⟩
      have hn4l : n4 < 4294967296 := hn4 ▸ num4_lt hs8.2
      obtain ⟨D, hD⟩ : ∃ D, dat H = D := ⟨_, rfl⟩
      have hDl : D.length = 32 := by rw [← hD, dat_len hsh.1, hHL]
      have hD8 : B8 D := hD ▸ dat_b8 hsh.1
      obtain ⟨DB, hDB⟩ : ∃ X, D.map byteV = X := ⟨_, rfl⟩
      obtain ⟨BB, hBB⟩ : ∃ X, cBlk D n4 = X := ⟨_, rfl⟩
      have HDL : Hid (DB.length = 32) := hid (by rw [← hDB, List.length_map]; exact hDl)
      have HBL : Hid (BB.length = 33) := hid (by rw [← hBB]; exact cBlk_len hDl)
      have HB1c : Hid (∀ v ∈ BB, v.oneCell' = true) := hid (by rw [← hBB]; exact cBlk_one _ _)
      have HBB : Hid (∀ W, (Instr.build 71 #[(0, .agg DB.toArray), (1, .int .u32 (n4 : Int))]).run Try.prog W = .ok (.agg BB.toArray) W) := hid (fun W => by
        rw [← hBB, ← hDB]
        exact run_build71 W _ (by rw [List.length_map]; exact hDl) _ ⟨_, rfl⟩)
      have HBX : Hid (∀ (W : World) (p : Nat), W.heap[p]? = some (.cells BB.toArray 71) → W.cell? ⟨p, 32, none⟩ = some (.int .u32 (n4 : Int)) ∧ ∀ (j : Nat) (u : Value), DB[j]? = some u → W.cell? ⟨p, j, none⟩ = some u) := hid (fun W p h => by
        rw [← hBB] at h
        exact ⟨cBlk_gen h hDl, hDB ▸ cBlk_con h⟩)
      have HD : Hid (∀ X, Below wr.heap.size wr X → Calls Try.prog 45 #[.slice (some ⟨b, off + 64 * k, none⟩) 8 (c - 8 * k)] X fun e w' => ∃ gd cd, e = .returned (.slice (some ⟨gd, 0, none⟩) 32 cd) ∧ (∀ Y, Below w'.heap.size w' Y → ∀ (j : Nat) (u : Value), DB[j]? = some u → Y.cell? ⟨gd, j, none⟩ = some u) ∧ Below X.heap.size X w') := hid (fun X hX => by
        refine (data_any H _ X (hsh.below hX) (by omega)).mono ?_
        rintro e w' ⟨u, rfl, ho, hb⟩
        rw [hHL, hD, hDB] at ho
        rcases ho.2 with ⟨_, h0⟩ | ⟨gd, cap, cur, rfl, _, hg, _, _, _, ht⟩
        · omega
        · refine ⟨gd, cap, rfl, fun Y hY j u hu => ?_, hb⟩
          rw [cell_of_row _ _ _ _ _ _ ((hY.block gd (box_lt hg)).trans hg)]
          have hu' := hu
          rw [← ht, List.getElem?_take] at hu'
          split at hu'
          · simpa using hu'
          · cases hu')
      obtain ⟨s0, s1, s2, s3, s4, s5, s6, s7, rfl⟩ := list8 hs8.1
      have HK : Hid (∀ X, Below wr.heap.size wr X → X.cell? ⟨b, off + 64 * k, none⟩ = some (.int .u8 (s0 : Int)) ∧ X.cell? ⟨b, off + 64 * k + 1, none⟩ = some (.int .u8 (s1 : Int)) ∧ X.cell? ⟨b, off + 64 * k + 2, none⟩ = some (.int .u8 (s2 : Int)) ∧ X.cell? ⟨b, off + 64 * k + 3, none⟩ = some (.int .u8 (s3 : Int)) ∧ X.cell? ⟨b, off + 64 * k + 4, none⟩ = some (.int .u8 (s4 : Int)) ∧ X.cell? ⟨b, off + 64 * k + 5, none⟩ = some (.int .u8 (s5 : Int)) ∧ X.cell? ⟨b, off + 64 * k + 6, none⟩ = some (.int .u8 (s6 : Int)) ∧ X.cell? ⟨b, off + 64 * k + 7, none⟩ = some (.int .u8 (s7 : Int))) := hid (fun X hX => by
        obtain ⟨b', off', e, _, hc⟩ := arr_at1 (hsh.below hX).2 (by rw [List.length_map]; omega)
        injection e with e
        injection e with e1 e2
        subst e1 e2
        have hc := fun (t : Nat) (u : Value) (hu : (cSec [s0, s1, s2, s3, s4, s5, s6, s7])[t]? = some u) => hc 0 _ (by rw [List.getElem?_map, hs0]; rfl) t u hu
        simp only [Nat.zero_mul, Nat.add_zero] at hc
        exact ⟨hc 0 _ rfl, hc 1 _ rfl, hc 2 _ rfl, hc 3 _ rfl, hc 4 _ rfl, hc 5 _ rfl, hc 6 _ rfl, hc 7 _ rfl⟩)
      have HN46 : Hid (∀ X, Calls Try.prog 46 #[.agg #[.int .u8 (s0 : Int), .int .u8 (s1 : Int), .int .u8 (s2 : Int), .int .u8 (s3 : Int), .int .u8 (s4 : Int), .int .u8 (s5 : Int), .int .u8 (s6 : Int), .int .u8 (s7 : Int)]] X fun e w' => e = .returned (.int .u32 (n4 : Int)) ∧ Below X.heap.size X w') := hid (fun X => by rw [← hn4]; exact number_any s0 s1 s2 s3 s4 s5 s6 s7 hs8.2 X)
      obtain ⟨vb, hvb⟩ : ∃ v, valB D = v := ⟨_, rfl⟩
      have HV47 : Hid (∀ X, Calls Try.prog 47 #[.agg DB.toArray] X fun e w' => e = .returned (.bool vb) ∧ Below X.heap.size X w') := hid (fun X => by rw [← hDB, ← hvb]; exact valid_any D X hDl hD8)
      have HST : Hid (nst l (k + 1) = if (∀ s ∈ H, num4 s = n4) ∧ vb = true ∧ (nst l k).2.2 < n4 then (k, (D, n4)) else nst l k) := hid (by
        have e : H.getD 0 [] = [s0, s1, s2, s3, s4, s5, s6, s7] := by rw [List.getD_eq_getElem?_getD, hs0]; rfl
        rw [← hvb, ← hD, ← hn4, ← e, ← hH]
        rfl)
      have HSH := hid hsh
      have HHL := hid hHL
      have HBBe := hid hBB
      have HVB := hid hvb
      clear hsh hs0 hs8 hn4 hD hDl hD8 hDB hBB hvb hH hHL
      go_upto_region 6 with fail
      clear hsl hm8 hm9
      apply cut4 (fun X p _ _ => Below wr.heap.size wr X ∧ X.heap[p]? = some (.cells BB.toArray 71))
      · intro HC
        have HC := hid HC
        refine region_tail 10 (fun X => X.cell? ⟨b, off + 64 * k, none⟩ = some (.int .u8 (s0 : Int)) ∧ X.cell? ⟨b, off + 64 * k + 1, none⟩ = some (.int .u8 (s1 : Int)) ∧ X.cell? ⟨b, off + 64 * k + 2, none⟩ = some (.int .u8 (s2 : Int)) ∧ X.cell? ⟨b, off + 64 * k + 3, none⟩ = some (.int .u8 (s3 : Int)) ∧ X.cell? ⟨b, off + 64 * k + 4, none⟩ = some (.int .u8 (s4 : Int)) ∧ X.cell? ⟨b, off + 64 * k + 5, none⟩ = some (.int .u8 (s5 : Int)) ∧ X.cell? ⟨b, off + 64 * k + 6, none⟩ = some (.int .u8 (s6 : Int)) ∧ X.cell? ⟨b, off + 64 * k + 7, none⟩ = some (.int .u8 (s7 : Int))) (by kernel_rfl) ?_
        obtain ⟨X0, hX0⟩ : ∃ X, wr.drew = X := ⟨_, rfl⟩
        have hB0 : Below wr.heap.size wr X0 := by rw [← hX0]; exact (Below.refl wr.heap.size wr).drew
        have hHeld := HK.out X0 hB0
        rw [hX0]
        clear hX0
        refine' wpAnyT_take (i := 0) (oi := ?oiq1) (v := ?vq1) ?hiq1 (by kernel_rfl) (by kernel_rfl) ?hqq1 ?hyq1 hHeld ?restq1
        case hiq1 => (simp only [List.getElem?_toArray, List.getElem?_cons_zero]; rfl)
        case hqq1 => exact fun _ _ _ h => h
        case hyq1 => (refine Or.inl ⟨by rfl, ?_⟩; intro w' hSw; (try dsimp only at hSw); go_simp; try with_reducible rfl)
        (try simp only [Act.put, List.setIfInBounds_toArray, List.set_cons_zero, List.set_cons_succ])
        refine' wpAnyT_take (i := 4) (oi := ?oiq2) (v := ?vq2) ?hiq2 (by kernel_rfl) (by kernel_rfl) ?hqq2 ?hyq2 hHeld ?restq2
        case hiq2 => (simp only [List.getElem?_toArray, List.getElem?_cons_zero, List.getElem?_cons_succ]; rfl)
        case hqq2 => exact fun _ _ _ h => h
        case hyq2 => (refine Or.inl ⟨by rfl, ?_⟩; intro w' hSw; (try dsimp only at hSw); go_simp; try with_reducible rfl)
        (try simp only [Act.put, List.setIfInBounds_toArray, List.set_cons_zero, List.set_cons_succ])
        refine' wpAnyT_take (i := 5) (oi := ?oiq3) (v := ?vq3) ?hiq3 (by kernel_rfl) (by kernel_rfl) ?hqq3 ?hyq3 hHeld ?restq3
        case hiq3 => (simp only [List.getElem?_toArray, List.getElem?_cons_zero, List.getElem?_cons_succ]; rfl)
        case hqq3 => exact fun _ _ _ h => h
        case hyq3 => (refine Or.inl ⟨by rfl, ?_⟩; intro w' hSw; (try dsimp only at hSw); go_simp; try with_reducible rfl)
        (try simp only [Act.put, List.setIfInBounds_toArray, List.set_cons_zero, List.set_cons_succ])
        refine' wpAnyT_take (i := 6) (oi := ?oiq4) (v := ?vq4) ?hiq4 (by kernel_rfl) (by kernel_rfl) ?hqq4 ?hyq4 hHeld ?restq4
        case hiq4 => (simp only [List.getElem?_toArray, List.getElem?_cons_zero, List.getElem?_cons_succ]; rfl)
        case hqq4 => exact fun _ _ _ h => h
        case hyq4 => (refine Or.inl ⟨by rfl, ?_⟩; intro w' hSw; (try dsimp only at hSw); go_simp; try with_reducible rfl)
        (try simp only [Act.put, List.setIfInBounds_toArray, List.set_cons_zero, List.set_cons_succ])
        refine wpAnyT_all (l := [1, 9]) (by kernel_rfl) (by decide) ?_
        intro i hi
        simp only [List.mem_cons, List.not_mem_nil, or_false] at hi
        rcases hi with rfl | rfl
        · refine ⟨_, by (simp only [List.getElem?_toArray, List.getElem?_cons_zero, List.getElem?_cons_succ]; rfl), fun K hK => ?_⟩
          go_simp
          go_at_call 45
          refine (HD.out X0 hB0).mono ?_
          rintro e Yq24 ⟨gd, cd, rfl, hdc, hbb24⟩
          have HDC := hid hdc
          clear hdc
          have hsp := run_s2ap gd cd
          clear hHeld
          have hHeld := HK.out Yq24 (below_both hB0 hbb24)
          refine hK.out _ _ (fun _ => hHeld) ?_
          clear hK K
          (try simp only [Act.put, List.setIfInBounds_toArray, List.set_cons_zero, List.set_cons_succ])
          refine' wpAnyT_take (i := 2) (oi := ?oiq5) (v := ?vq5) ?hiq5 (by kernel_rfl) (by kernel_rfl) ?hqq5 ?hyq5 hHeld ?restq5
          case hiq5 => (simp only [List.getElem?_toArray, List.getElem?_cons_zero, List.getElem?_cons_succ]; rfl)
          case hqq5 => exact fun _ _ _ h => h
          case hyq5 => (refine Or.inl ⟨by rfl, ?_⟩; intro w' hSw; (try dsimp only at hSw); go_simp; try with_reducible rfl)
          (try simp only [Act.put, List.setIfInBounds_toArray, List.set_cons_zero, List.set_cons_succ])
          refine wpAnyT_all (l := [3, 7, 9]) (by kernel_rfl) (by decide) ?_
          intro i hi
          simp only [List.mem_cons, List.not_mem_nil, or_false] at hi
          rcases hi with rfl | rfl | rfl
          · refine ⟨_, by (simp only [List.getElem?_toArray, List.getElem?_cons_zero, List.getElem?_cons_succ]; rfl), fun K hK => ?_⟩
            refine ow_load rfl 67 (.tmp 25) rfl _ (.agg DB.toArray) rfl (run_loadAt67p Yq24 gd DB HDL.out (HDC.out Yq24 (Below.refl _ _))) ?_
            refine hK.out _ _ (fun _ => hHeld) ?_
            clear hK K
            (try simp only [Act.put, List.setIfInBounds_toArray, List.set_cons_zero, List.set_cons_succ])
            refine wpAnyT_all (l := [7, 9]) (by kernel_rfl) (by decide) ?_
            intro i hi
            simp only [List.mem_cons, List.not_mem_nil, or_false] at hi
            rcases hi with rfl | rfl
            · refine ⟨_, by (simp only [List.getElem?_toArray, List.getElem?_cons_zero, List.getElem?_cons_succ]; rfl), fun K hK => ?_⟩
              go_simp
              go_at_call 46
              refine (HN46.out Yq24).mono ?_
              rintro e Yq30 ⟨rfl, hbb30⟩
              clear hHeld
              have hHeld := HK.out Yq30 (below_both hB0 (below_both hbb24 hbb30))
              refine hK.out _ _ (fun _ => hHeld) ?_
              clear hK K
              (try simp only [Act.put, List.setIfInBounds_toArray, List.set_cons_zero, List.set_cons_succ])
              refine' wpAnyT_take (i := 8) (oi := ?oiq6) (v := ?vq6) ?hiq6 (by kernel_rfl) (by kernel_rfl) ?hqq6 ?hyq6 hHeld ?restq6
              case hiq6 => (simp only [List.getElem?_toArray, List.getElem?_cons_zero, List.getElem?_cons_succ]; rfl)
              case hqq6 => exact fun _ _ _ h => h
              case hyq6 => (refine Or.inl ⟨by rfl, ?_⟩; intro w' hSw; refine exec_build2 71 (.tmp 26) (.tmp 30) ?_ (.agg DB.toArray) (.int .u32 (n4 : Int)) (.agg BB.toArray) ?_ ?_ (HBB.out w') <;> rfl)
              (try simp only [Act.put, List.setIfInBounds_toArray, List.set_cons_zero, List.set_cons_succ])
              refine' wpAnyT_one (i := 9) (o := ?oiq7) (by kernel_rfl) ?hiq7 (fun K hK => ?stq7)
              case hiq7 => (simp only [List.getElem?_toArray, List.getElem?_cons_zero, List.getElem?_cons_succ]; rfl)
              refine ow_alloc rfl 71 rfl _ (run_alloc71 Yq30) ?_
              obtain ⟨Yq9, hY⟩ : ∃ X, Yq30.alloc (.cells z33.toArray 71) = X := ⟨_, rfl⟩
              obtain ⟨p9, hh⟩ : ∃ h, Yq30.heap.size = h := ⟨_, rfl⟩
              have hbb9 : Below Yq30.heap.size Yq30 Yq9 := by rw [← hY]; exact al1 _ _
              have HZ9 : Hid (Yq9.heap[p9]? = some (.cells z33.toArray 71)) := hid (by rw [← hY, ← hh]; exact heap_alloc_new _ _)
              have HG9 : Hid (wr.heap.size ≤ p9) := hid (by rw [← hh]; exact (below_both hB0 (below_both hbb24 hbb30)).size)
              rw [hY, hh]
              clear hY hh
              clear hHeld
              have hHeld := HK.out Yq9 (below_both hB0 (below_both (below_both hbb24 hbb30) hbb9))
              refine hK.out _ _ (fun _ => hHeld) ?_
              clear hK K
              (try simp only [Act.put, List.setIfInBounds_toArray, List.set_cons_zero, List.set_cons_succ])
              refine' wpAnyT_one (i := 10) (o := ?oiq8) (by kernel_rfl) ?hiq8 (fun K hK => ?stq8)
              case hiq8 => (simp only [List.getElem?_toArray, List.getElem?_cons_zero, List.getElem?_cons_succ]; rfl)
              obtain ⟨YqN10, hr9, hx9, _, hbw9⟩ := set_row71 (cs := BB) (((Below.refl _ _).block _ (box_lt HZ9.out)).trans HZ9.out) HBL.out z33_len HB1c.out
              refine ow_store rfl 71 (.tmp 9) (.tmp 31) rfl _ _ rfl rfl hr9 ?_
              have HX9 := hid hx9
              have hbbnone10 : Below wr.heap.size wr YqN10 := hbw9 _ _ (below_both hB0 (below_both (below_both hbb24 hbb30) hbb9)) HG9.out
              clear hr9 hx9 hbw9
              refine hK.out _ _ (fun h => absurd h (by decide)) ?_
              clear hK K
              refine wpAnyT_done (by kernel_rfl) ?_ _
              exact HC.out YqN10 p9 gd cd ⟨hbbnone10, HX9.out⟩
            · refine ⟨_, by (simp only [List.getElem?_toArray, List.getElem?_cons_zero, List.getElem?_cons_succ]; rfl), fun K hK => ?_⟩
              refine ow_alloc rfl 71 rfl _ (run_alloc71 Yq24) ?_
              obtain ⟨Yq9, hY⟩ : ∃ X, Yq24.alloc (.cells z33.toArray 71) = X := ⟨_, rfl⟩
              obtain ⟨p9, hh⟩ : ∃ h, Yq24.heap.size = h := ⟨_, rfl⟩
              have hbb9 : Below Yq24.heap.size Yq24 Yq9 := by rw [← hY]; exact al1 _ _
              have HZ9 : Hid (Yq9.heap[p9]? = some (.cells z33.toArray 71)) := hid (by rw [← hY, ← hh]; exact heap_alloc_new _ _)
              have HG9 : Hid (wr.heap.size ≤ p9) := hid (by rw [← hh]; exact (below_both hB0 hbb24).size)
              rw [hY, hh]
              clear hY hh
              clear hHeld
              have hHeld := HK.out Yq9 (below_both hB0 (below_both hbb24 hbb9))
              refine hK.out _ _ (fun _ => hHeld) ?_
              clear hK K
              (try simp only [Act.put, List.setIfInBounds_toArray, List.set_cons_zero, List.set_cons_succ])
              refine' wpAnyT_one (i := 7) (o := ?oiq9) (by kernel_rfl) ?hiq9 (fun K hK => ?stq9)
              case hiq9 => (simp only [List.getElem?_toArray, List.getElem?_cons_zero, List.getElem?_cons_succ]; rfl)
              go_simp
              go_at_call 46
              refine (HN46.out Yq9).mono ?_
              rintro e Yq30 ⟨rfl, hbb30⟩
              clear hHeld
              have hHeld := HK.out Yq30 (below_both hB0 (below_both (below_both hbb24 hbb9) hbb30))
              refine hK.out _ _ (fun _ => hHeld) ?_
              clear hK K
              (try simp only [Act.put, List.setIfInBounds_toArray, List.set_cons_zero, List.set_cons_succ])
              refine' wpAnyT_take (i := 8) (oi := ?oiq10) (v := ?vq10) ?hiq10 (by kernel_rfl) (by kernel_rfl) ?hqq10 ?hyq10 hHeld ?restq10
              case hiq10 => (simp only [List.getElem?_toArray, List.getElem?_cons_zero, List.getElem?_cons_succ]; rfl)
              case hqq10 => exact fun _ _ _ h => h
              case hyq10 => (refine Or.inl ⟨by rfl, ?_⟩; intro w' hSw; refine exec_build2 71 (.tmp 26) (.tmp 30) ?_ (.agg DB.toArray) (.int .u32 (n4 : Int)) (.agg BB.toArray) ?_ ?_ (HBB.out w') <;> rfl)
              (try simp only [Act.put, List.setIfInBounds_toArray, List.set_cons_zero, List.set_cons_succ])
              refine' wpAnyT_one (i := 10) (o := ?oiq11) (by kernel_rfl) ?hiq11 (fun K hK => ?stq11)
              case hiq11 => (simp only [List.getElem?_toArray, List.getElem?_cons_zero, List.getElem?_cons_succ]; rfl)
              obtain ⟨YqN10, hr9, hx9, _, hbw9⟩ := set_row71 (cs := BB) ((hbb30.block _ (box_lt HZ9.out)).trans HZ9.out) HBL.out z33_len HB1c.out
              refine ow_store rfl 71 (.tmp 9) (.tmp 31) rfl _ _ rfl rfl hr9 ?_
              have HX9 := hid hx9
              have hbbnone10 : Below wr.heap.size wr YqN10 := hbw9 _ _ (below_both hB0 (below_both (below_both hbb24 hbb9) hbb30)) HG9.out
              clear hr9 hx9 hbw9
              refine hK.out _ _ (fun h => absurd h (by decide)) ?_
              clear hK K
              refine wpAnyT_done (by kernel_rfl) ?_ _
              exact HC.out YqN10 p9 gd cd ⟨hbbnone10, HX9.out⟩
          · refine ⟨_, by (simp only [List.getElem?_toArray, List.getElem?_cons_zero, List.getElem?_cons_succ]; rfl), fun K hK => ?_⟩
            go_simp
            go_at_call 46
            refine (HN46.out Yq24).mono ?_
            rintro e Yq30 ⟨rfl, hbb30⟩
            clear hHeld
            have hHeld := HK.out Yq30 (below_both hB0 (below_both hbb24 hbb30))
            refine hK.out _ _ (fun _ => hHeld) ?_
            clear hK K
            (try simp only [Act.put, List.setIfInBounds_toArray, List.set_cons_zero, List.set_cons_succ])
            refine wpAnyT_all (l := [3, 9]) (by kernel_rfl) (by decide) ?_
            intro i hi
            simp only [List.mem_cons, List.not_mem_nil, or_false] at hi
            rcases hi with rfl | rfl
            · refine ⟨_, by (simp only [List.getElem?_toArray, List.getElem?_cons_zero, List.getElem?_cons_succ]; rfl), fun K hK => ?_⟩
              refine ow_load rfl 67 (.tmp 25) rfl _ (.agg DB.toArray) rfl (run_loadAt67p Yq30 gd DB HDL.out (HDC.out Yq30 hbb30)) ?_
              refine hK.out _ _ (fun _ => hHeld) ?_
              clear hK K
              (try simp only [Act.put, List.setIfInBounds_toArray, List.set_cons_zero, List.set_cons_succ])
              refine' wpAnyT_take (i := 8) (oi := ?oiq12) (v := ?vq12) ?hiq12 (by kernel_rfl) (by kernel_rfl) ?hqq12 ?hyq12 hHeld ?restq12
              case hiq12 => (simp only [List.getElem?_toArray, List.getElem?_cons_zero, List.getElem?_cons_succ]; rfl)
              case hqq12 => exact fun _ _ _ h => h
              case hyq12 => (refine Or.inl ⟨by rfl, ?_⟩; intro w' hSw; refine exec_build2 71 (.tmp 26) (.tmp 30) ?_ (.agg DB.toArray) (.int .u32 (n4 : Int)) (.agg BB.toArray) ?_ ?_ (HBB.out w') <;> rfl)
              (try simp only [Act.put, List.setIfInBounds_toArray, List.set_cons_zero, List.set_cons_succ])
              refine' wpAnyT_one (i := 9) (o := ?oiq13) (by kernel_rfl) ?hiq13 (fun K hK => ?stq13)
              case hiq13 => (simp only [List.getElem?_toArray, List.getElem?_cons_zero, List.getElem?_cons_succ]; rfl)
              refine ow_alloc rfl 71 rfl _ (run_alloc71 Yq30) ?_
              obtain ⟨Yq9, hY⟩ : ∃ X, Yq30.alloc (.cells z33.toArray 71) = X := ⟨_, rfl⟩
              obtain ⟨p9, hh⟩ : ∃ h, Yq30.heap.size = h := ⟨_, rfl⟩
              have hbb9 : Below Yq30.heap.size Yq30 Yq9 := by rw [← hY]; exact al1 _ _
              have HZ9 : Hid (Yq9.heap[p9]? = some (.cells z33.toArray 71)) := hid (by rw [← hY, ← hh]; exact heap_alloc_new _ _)
              have HG9 : Hid (wr.heap.size ≤ p9) := hid (by rw [← hh]; exact (below_both hB0 (below_both hbb24 hbb30)).size)
              rw [hY, hh]
              clear hY hh
              clear hHeld
              have hHeld := HK.out Yq9 (below_both hB0 (below_both (below_both hbb24 hbb30) hbb9))
              refine hK.out _ _ (fun _ => hHeld) ?_
              clear hK K
              (try simp only [Act.put, List.setIfInBounds_toArray, List.set_cons_zero, List.set_cons_succ])
              refine' wpAnyT_one (i := 10) (o := ?oiq14) (by kernel_rfl) ?hiq14 (fun K hK => ?stq14)
              case hiq14 => (simp only [List.getElem?_toArray, List.getElem?_cons_zero, List.getElem?_cons_succ]; rfl)
              obtain ⟨YqN10, hr9, hx9, _, hbw9⟩ := set_row71 (cs := BB) (((Below.refl _ _).block _ (box_lt HZ9.out)).trans HZ9.out) HBL.out z33_len HB1c.out
              refine ow_store rfl 71 (.tmp 9) (.tmp 31) rfl _ _ rfl rfl hr9 ?_
              have HX9 := hid hx9
              have hbbnone10 : Below wr.heap.size wr YqN10 := hbw9 _ _ (below_both hB0 (below_both (below_both hbb24 hbb30) hbb9)) HG9.out
              clear hr9 hx9 hbw9
              refine hK.out _ _ (fun h => absurd h (by decide)) ?_
              clear hK K
              refine wpAnyT_done (by kernel_rfl) ?_ _
              exact HC.out YqN10 p9 gd cd ⟨hbbnone10, HX9.out⟩
            · refine ⟨_, by (simp only [List.getElem?_toArray, List.getElem?_cons_zero, List.getElem?_cons_succ]; rfl), fun K hK => ?_⟩
              refine ow_alloc rfl 71 rfl _ (run_alloc71 Yq30) ?_
              obtain ⟨Yq9, hY⟩ : ∃ X, Yq30.alloc (.cells z33.toArray 71) = X := ⟨_, rfl⟩
              obtain ⟨p9, hh⟩ : ∃ h, Yq30.heap.size = h := ⟨_, rfl⟩
              have hbb9 : Below Yq30.heap.size Yq30 Yq9 := by rw [← hY]; exact al1 _ _
              have HZ9 : Hid (Yq9.heap[p9]? = some (.cells z33.toArray 71)) := hid (by rw [← hY, ← hh]; exact heap_alloc_new _ _)
              have HG9 : Hid (wr.heap.size ≤ p9) := hid (by rw [← hh]; exact (below_both hB0 (below_both hbb24 hbb30)).size)
              rw [hY, hh]
              clear hY hh
              clear hHeld
              have hHeld := HK.out Yq9 (below_both hB0 (below_both (below_both hbb24 hbb30) hbb9))
              refine hK.out _ _ (fun _ => hHeld) ?_
              clear hK K
              (try simp only [Act.put, List.setIfInBounds_toArray, List.set_cons_zero, List.set_cons_succ])
              refine' wpAnyT_one (i := 3) (o := ?oiq15) (by kernel_rfl) ?hiq15 (fun K hK => ?stq15)
              case hiq15 => (simp only [List.getElem?_toArray, List.getElem?_cons_zero, List.getElem?_cons_succ]; rfl)
              refine ow_load rfl 67 (.tmp 25) rfl _ (.agg DB.toArray) rfl (run_loadAt67p Yq9 gd DB HDL.out (HDC.out Yq9 (below_both hbb30 hbb9))) ?_
              refine hK.out _ _ (fun _ => hHeld) ?_
              clear hK K
              (try simp only [Act.put, List.setIfInBounds_toArray, List.set_cons_zero, List.set_cons_succ])
              refine' wpAnyT_take (i := 8) (oi := ?oiq16) (v := ?vq16) ?hiq16 (by kernel_rfl) (by kernel_rfl) ?hqq16 ?hyq16 hHeld ?restq16
              case hiq16 => (simp only [List.getElem?_toArray, List.getElem?_cons_zero, List.getElem?_cons_succ]; rfl)
              case hqq16 => exact fun _ _ _ h => h
              case hyq16 => (refine Or.inl ⟨by rfl, ?_⟩; intro w' hSw; refine exec_build2 71 (.tmp 26) (.tmp 30) ?_ (.agg DB.toArray) (.int .u32 (n4 : Int)) (.agg BB.toArray) ?_ ?_ (HBB.out w') <;> rfl)
              (try simp only [Act.put, List.setIfInBounds_toArray, List.set_cons_zero, List.set_cons_succ])
              refine' wpAnyT_one (i := 10) (o := ?oiq17) (by kernel_rfl) ?hiq17 (fun K hK => ?stq17)
              case hiq17 => (simp only [List.getElem?_toArray, List.getElem?_cons_zero, List.getElem?_cons_succ]; rfl)
              obtain ⟨YqN10, hr9, hx9, _, hbw9⟩ := set_row71 (cs := BB) (((Below.refl _ _).block _ (box_lt HZ9.out)).trans HZ9.out) HBL.out z33_len HB1c.out
              refine ow_store rfl 71 (.tmp 9) (.tmp 31) rfl _ _ rfl rfl hr9 ?_
              have HX9 := hid hx9
              have hbbnone10 : Below wr.heap.size wr YqN10 := hbw9 _ _ (below_both hB0 (below_both (below_both hbb24 hbb30) hbb9)) HG9.out
              clear hr9 hx9 hbw9
              refine hK.out _ _ (fun h => absurd h (by decide)) ?_
              clear hK K
              refine wpAnyT_done (by kernel_rfl) ?_ _
              exact HC.out YqN10 p9 gd cd ⟨hbbnone10, HX9.out⟩
          · refine ⟨_, by (simp only [List.getElem?_toArray, List.getElem?_cons_zero, List.getElem?_cons_succ]; rfl), fun K hK => ?_⟩
            refine ow_alloc rfl 71 rfl _ (run_alloc71 Yq24) ?_
            obtain ⟨Yq9, hY⟩ : ∃ X, Yq24.alloc (.cells z33.toArray 71) = X := ⟨_, rfl⟩
            obtain ⟨p9, hh⟩ : ∃ h, Yq24.heap.size = h := ⟨_, rfl⟩
            have hbb9 : Below Yq24.heap.size Yq24 Yq9 := by rw [← hY]; exact al1 _ _
            have HZ9 : Hid (Yq9.heap[p9]? = some (.cells z33.toArray 71)) := hid (by rw [← hY, ← hh]; exact heap_alloc_new _ _)
            have HG9 : Hid (wr.heap.size ≤ p9) := hid (by rw [← hh]; exact (below_both hB0 hbb24).size)
            rw [hY, hh]
            clear hY hh
            clear hHeld
            have hHeld := HK.out Yq9 (below_both hB0 (below_both hbb24 hbb9))
            refine hK.out _ _ (fun _ => hHeld) ?_
            clear hK K
            (try simp only [Act.put, List.setIfInBounds_toArray, List.set_cons_zero, List.set_cons_succ])
            refine wpAnyT_all (l := [3, 7]) (by kernel_rfl) (by decide) ?_
            intro i hi
            simp only [List.mem_cons, List.not_mem_nil, or_false] at hi
            rcases hi with rfl | rfl
            · refine ⟨_, by (simp only [List.getElem?_toArray, List.getElem?_cons_zero, List.getElem?_cons_succ]; rfl), fun K hK => ?_⟩
              refine ow_load rfl 67 (.tmp 25) rfl _ (.agg DB.toArray) rfl (run_loadAt67p Yq9 gd DB HDL.out (HDC.out Yq9 hbb9)) ?_
              refine hK.out _ _ (fun _ => hHeld) ?_
              clear hK K
              (try simp only [Act.put, List.setIfInBounds_toArray, List.set_cons_zero, List.set_cons_succ])
              refine' wpAnyT_one (i := 7) (o := ?oiq18) (by kernel_rfl) ?hiq18 (fun K hK => ?stq18)
              case hiq18 => (simp only [List.getElem?_toArray, List.getElem?_cons_zero, List.getElem?_cons_succ]; rfl)
              go_simp
              go_at_call 46
              refine (HN46.out Yq9).mono ?_
              rintro e Yq30 ⟨rfl, hbb30⟩
              clear hHeld
              have hHeld := HK.out Yq30 (below_both hB0 (below_both (below_both hbb24 hbb9) hbb30))
              refine hK.out _ _ (fun _ => hHeld) ?_
              clear hK K
              (try simp only [Act.put, List.setIfInBounds_toArray, List.set_cons_zero, List.set_cons_succ])
              refine' wpAnyT_take (i := 8) (oi := ?oiq19) (v := ?vq19) ?hiq19 (by kernel_rfl) (by kernel_rfl) ?hqq19 ?hyq19 hHeld ?restq19
              case hiq19 => (simp only [List.getElem?_toArray, List.getElem?_cons_zero, List.getElem?_cons_succ]; rfl)
              case hqq19 => exact fun _ _ _ h => h
              case hyq19 => (refine Or.inl ⟨by rfl, ?_⟩; intro w' hSw; refine exec_build2 71 (.tmp 26) (.tmp 30) ?_ (.agg DB.toArray) (.int .u32 (n4 : Int)) (.agg BB.toArray) ?_ ?_ (HBB.out w') <;> rfl)
              (try simp only [Act.put, List.setIfInBounds_toArray, List.set_cons_zero, List.set_cons_succ])
              refine' wpAnyT_one (i := 10) (o := ?oiq20) (by kernel_rfl) ?hiq20 (fun K hK => ?stq20)
              case hiq20 => (simp only [List.getElem?_toArray, List.getElem?_cons_zero, List.getElem?_cons_succ]; rfl)
              obtain ⟨YqN10, hr9, hx9, _, hbw9⟩ := set_row71 (cs := BB) ((hbb30.block _ (box_lt HZ9.out)).trans HZ9.out) HBL.out z33_len HB1c.out
              refine ow_store rfl 71 (.tmp 9) (.tmp 31) rfl _ _ rfl rfl hr9 ?_
              have HX9 := hid hx9
              have hbbnone10 : Below wr.heap.size wr YqN10 := hbw9 _ _ (below_both hB0 (below_both (below_both hbb24 hbb9) hbb30)) HG9.out
              clear hr9 hx9 hbw9
              refine hK.out _ _ (fun h => absurd h (by decide)) ?_
              clear hK K
              refine wpAnyT_done (by kernel_rfl) ?_ _
              exact HC.out YqN10 p9 gd cd ⟨hbbnone10, HX9.out⟩
            · refine ⟨_, by (simp only [List.getElem?_toArray, List.getElem?_cons_zero, List.getElem?_cons_succ]; rfl), fun K hK => ?_⟩
              go_simp
              go_at_call 46
              refine (HN46.out Yq9).mono ?_
              rintro e Yq30 ⟨rfl, hbb30⟩
              clear hHeld
              have hHeld := HK.out Yq30 (below_both hB0 (below_both (below_both hbb24 hbb9) hbb30))
              refine hK.out _ _ (fun _ => hHeld) ?_
              clear hK K
              (try simp only [Act.put, List.setIfInBounds_toArray, List.set_cons_zero, List.set_cons_succ])
              refine' wpAnyT_one (i := 3) (o := ?oiq21) (by kernel_rfl) ?hiq21 (fun K hK => ?stq21)
              case hiq21 => (simp only [List.getElem?_toArray, List.getElem?_cons_zero, List.getElem?_cons_succ]; rfl)
              refine ow_load rfl 67 (.tmp 25) rfl _ (.agg DB.toArray) rfl (run_loadAt67p Yq30 gd DB HDL.out (HDC.out Yq30 (below_both hbb9 hbb30))) ?_
              refine hK.out _ _ (fun _ => hHeld) ?_
              clear hK K
              (try simp only [Act.put, List.setIfInBounds_toArray, List.set_cons_zero, List.set_cons_succ])
              refine' wpAnyT_take (i := 8) (oi := ?oiq22) (v := ?vq22) ?hiq22 (by kernel_rfl) (by kernel_rfl) ?hqq22 ?hyq22 hHeld ?restq22
              case hiq22 => (simp only [List.getElem?_toArray, List.getElem?_cons_zero, List.getElem?_cons_succ]; rfl)
              case hqq22 => exact fun _ _ _ h => h
              case hyq22 => (refine Or.inl ⟨by rfl, ?_⟩; intro w' hSw; refine exec_build2 71 (.tmp 26) (.tmp 30) ?_ (.agg DB.toArray) (.int .u32 (n4 : Int)) (.agg BB.toArray) ?_ ?_ (HBB.out w') <;> rfl)
              (try simp only [Act.put, List.setIfInBounds_toArray, List.set_cons_zero, List.set_cons_succ])
              refine' wpAnyT_one (i := 10) (o := ?oiq23) (by kernel_rfl) ?hiq23 (fun K hK => ?stq23)
              case hiq23 => (simp only [List.getElem?_toArray, List.getElem?_cons_zero, List.getElem?_cons_succ]; rfl)
              obtain ⟨YqN10, hr9, hx9, _, hbw9⟩ := set_row71 (cs := BB) ((hbb30.block _ (box_lt HZ9.out)).trans HZ9.out) HBL.out z33_len HB1c.out
              refine ow_store rfl 71 (.tmp 9) (.tmp 31) rfl _ _ rfl rfl hr9 ?_
              have HX9 := hid hx9
              have hbbnone10 : Below wr.heap.size wr YqN10 := hbw9 _ _ (below_both hB0 (below_both (below_both hbb24 hbb9) hbb30)) HG9.out
              clear hr9 hx9 hbw9
              refine hK.out _ _ (fun h => absurd h (by decide)) ?_
              clear hK K
              refine wpAnyT_done (by kernel_rfl) ?_ _
              exact HC.out YqN10 p9 gd cd ⟨hbbnone10, HX9.out⟩
        · refine ⟨_, by (simp only [List.getElem?_toArray, List.getElem?_cons_zero, List.getElem?_cons_succ]; rfl), fun K hK => ?_⟩
          refine ow_alloc rfl 71 rfl _ (run_alloc71 X0) ?_
          obtain ⟨Yq9, hY⟩ : ∃ X, X0.alloc (.cells z33.toArray 71) = X := ⟨_, rfl⟩
          obtain ⟨p9, hh⟩ : ∃ h, X0.heap.size = h := ⟨_, rfl⟩
          have hbb9 : Below X0.heap.size X0 Yq9 := by rw [← hY]; exact al1 _ _
          have HZ9 : Hid (Yq9.heap[p9]? = some (.cells z33.toArray 71)) := hid (by rw [← hY, ← hh]; exact heap_alloc_new _ _)
          have HG9 : Hid (wr.heap.size ≤ p9) := hid (by rw [← hh]; exact (hB0).size)
          rw [hY, hh]
          clear hY hh
          clear hHeld
          have hHeld := HK.out Yq9 (below_both hB0 hbb9)
          refine hK.out _ _ (fun _ => hHeld) ?_
          clear hK K
          (try simp only [Act.put, List.setIfInBounds_toArray, List.set_cons_zero, List.set_cons_succ])
          refine' wpAnyT_one (i := 1) (o := ?oiq24) (by kernel_rfl) ?hiq24 (fun K hK => ?stq24)
          case hiq24 => (simp only [List.getElem?_toArray, List.getElem?_cons_zero, List.getElem?_cons_succ]; rfl)
          go_simp
          go_at_call 45
          refine (HD.out Yq9 (below_both hB0 hbb9)).mono ?_
          rintro e Yq24 ⟨gd, cd, rfl, hdc, hbb24⟩
          have HDC := hid hdc
          clear hdc
          have hsp := run_s2ap gd cd
          clear hHeld
          have hHeld := HK.out Yq24 (below_both hB0 (below_both hbb9 hbb24))
          refine hK.out _ _ (fun _ => hHeld) ?_
          clear hK K
          (try simp only [Act.put, List.setIfInBounds_toArray, List.set_cons_zero, List.set_cons_succ])
          refine' wpAnyT_take (i := 2) (oi := ?oiq25) (v := ?vq25) ?hiq25 (by kernel_rfl) (by kernel_rfl) ?hqq25 ?hyq25 hHeld ?restq25
          case hiq25 => (simp only [List.getElem?_toArray, List.getElem?_cons_zero, List.getElem?_cons_succ]; rfl)
          case hqq25 => exact fun _ _ _ h => h
          case hyq25 => (refine Or.inl ⟨by rfl, ?_⟩; intro w' hSw; (try dsimp only at hSw); go_simp; try with_reducible rfl)
          (try simp only [Act.put, List.setIfInBounds_toArray, List.set_cons_zero, List.set_cons_succ])
          refine wpAnyT_all (l := [3, 7]) (by kernel_rfl) (by decide) ?_
          intro i hi
          simp only [List.mem_cons, List.not_mem_nil, or_false] at hi
          rcases hi with rfl | rfl
          · refine ⟨_, by (simp only [List.getElem?_toArray, List.getElem?_cons_zero, List.getElem?_cons_succ]; rfl), fun K hK => ?_⟩
            refine ow_load rfl 67 (.tmp 25) rfl _ (.agg DB.toArray) rfl (run_loadAt67p Yq24 gd DB HDL.out (HDC.out Yq24 (Below.refl _ _))) ?_
            refine hK.out _ _ (fun _ => hHeld) ?_
            clear hK K
            (try simp only [Act.put, List.setIfInBounds_toArray, List.set_cons_zero, List.set_cons_succ])
            refine' wpAnyT_one (i := 7) (o := ?oiq26) (by kernel_rfl) ?hiq26 (fun K hK => ?stq26)
            case hiq26 => (simp only [List.getElem?_toArray, List.getElem?_cons_zero, List.getElem?_cons_succ]; rfl)
            go_simp
            go_at_call 46
            refine (HN46.out Yq24).mono ?_
            rintro e Yq30 ⟨rfl, hbb30⟩
            clear hHeld
            have hHeld := HK.out Yq30 (below_both hB0 (below_both (below_both hbb9 hbb24) hbb30))
            refine hK.out _ _ (fun _ => hHeld) ?_
            clear hK K
            (try simp only [Act.put, List.setIfInBounds_toArray, List.set_cons_zero, List.set_cons_succ])
            refine' wpAnyT_take (i := 8) (oi := ?oiq27) (v := ?vq27) ?hiq27 (by kernel_rfl) (by kernel_rfl) ?hqq27 ?hyq27 hHeld ?restq27
            case hiq27 => (simp only [List.getElem?_toArray, List.getElem?_cons_zero, List.getElem?_cons_succ]; rfl)
            case hqq27 => exact fun _ _ _ h => h
            case hyq27 => (refine Or.inl ⟨by rfl, ?_⟩; intro w' hSw; refine exec_build2 71 (.tmp 26) (.tmp 30) ?_ (.agg DB.toArray) (.int .u32 (n4 : Int)) (.agg BB.toArray) ?_ ?_ (HBB.out w') <;> rfl)
            (try simp only [Act.put, List.setIfInBounds_toArray, List.set_cons_zero, List.set_cons_succ])
            refine' wpAnyT_one (i := 10) (o := ?oiq28) (by kernel_rfl) ?hiq28 (fun K hK => ?stq28)
            case hiq28 => (simp only [List.getElem?_toArray, List.getElem?_cons_zero, List.getElem?_cons_succ]; rfl)
            obtain ⟨YqN10, hr9, hx9, _, hbw9⟩ := set_row71 (cs := BB) (((below_both hbb24 hbb30).block _ (box_lt HZ9.out)).trans HZ9.out) HBL.out z33_len HB1c.out
            refine ow_store rfl 71 (.tmp 9) (.tmp 31) rfl _ _ rfl rfl hr9 ?_
            have HX9 := hid hx9
            have hbbnone10 : Below wr.heap.size wr YqN10 := hbw9 _ _ (below_both hB0 (below_both (below_both hbb9 hbb24) hbb30)) HG9.out
            clear hr9 hx9 hbw9
            refine hK.out _ _ (fun h => absurd h (by decide)) ?_
            clear hK K
            refine wpAnyT_done (by kernel_rfl) ?_ _
            exact HC.out YqN10 p9 gd cd ⟨hbbnone10, HX9.out⟩
          · refine ⟨_, by (simp only [List.getElem?_toArray, List.getElem?_cons_zero, List.getElem?_cons_succ]; rfl), fun K hK => ?_⟩
            go_simp
            go_at_call 46
            refine (HN46.out Yq24).mono ?_
            rintro e Yq30 ⟨rfl, hbb30⟩
            clear hHeld
            have hHeld := HK.out Yq30 (below_both hB0 (below_both (below_both hbb9 hbb24) hbb30))
            refine hK.out _ _ (fun _ => hHeld) ?_
            clear hK K
            (try simp only [Act.put, List.setIfInBounds_toArray, List.set_cons_zero, List.set_cons_succ])
            refine' wpAnyT_one (i := 3) (o := ?oiq29) (by kernel_rfl) ?hiq29 (fun K hK => ?stq29)
            case hiq29 => (simp only [List.getElem?_toArray, List.getElem?_cons_zero, List.getElem?_cons_succ]; rfl)
            refine ow_load rfl 67 (.tmp 25) rfl _ (.agg DB.toArray) rfl (run_loadAt67p Yq30 gd DB HDL.out (HDC.out Yq30 hbb30)) ?_
            refine hK.out _ _ (fun _ => hHeld) ?_
            clear hK K
            (try simp only [Act.put, List.setIfInBounds_toArray, List.set_cons_zero, List.set_cons_succ])
            refine' wpAnyT_take (i := 8) (oi := ?oiq30) (v := ?vq30) ?hiq30 (by kernel_rfl) (by kernel_rfl) ?hqq30 ?hyq30 hHeld ?restq30
            case hiq30 => (simp only [List.getElem?_toArray, List.getElem?_cons_zero, List.getElem?_cons_succ]; rfl)
            case hqq30 => exact fun _ _ _ h => h
            case hyq30 => (refine Or.inl ⟨by rfl, ?_⟩; intro w' hSw; refine exec_build2 71 (.tmp 26) (.tmp 30) ?_ (.agg DB.toArray) (.int .u32 (n4 : Int)) (.agg BB.toArray) ?_ ?_ (HBB.out w') <;> rfl)
            (try simp only [Act.put, List.setIfInBounds_toArray, List.set_cons_zero, List.set_cons_succ])
            refine' wpAnyT_one (i := 10) (o := ?oiq31) (by kernel_rfl) ?hiq31 (fun K hK => ?stq31)
            case hiq31 => (simp only [List.getElem?_toArray, List.getElem?_cons_zero, List.getElem?_cons_succ]; rfl)
            obtain ⟨YqN10, hr9, hx9, _, hbw9⟩ := set_row71 (cs := BB) (((below_both hbb24 hbb30).block _ (box_lt HZ9.out)).trans HZ9.out) HBL.out z33_len HB1c.out
            refine ow_store rfl 71 (.tmp 9) (.tmp 31) rfl _ _ rfl rfl hr9 ?_
            have HX9 := hid hx9
            have hbbnone10 : Below wr.heap.size wr YqN10 := hbw9 _ _ (below_both hB0 (below_both (below_both hbb9 hbb24) hbb30)) HG9.out
            clear hr9 hx9 hbw9
            refine hK.out _ _ (fun h => absurd h (by decide)) ?_
            clear hK K
            refine wpAnyT_done (by kernel_rfl) ?_ _
            exact HC.out YqN10 p9 gd cd ⟨hbbnone10, HX9.out⟩
      · rintro X p9 gd cd ⟨hbx, hx9⟩
        clear HD HK HN46
        have HBX0 : Hid (Below w.heap.size w X) := hid (HB.out.trans (hbx.mono HB.out.size))
        have HX9 := hid hx9
        have HSX := hid (HSH.out.below hbx)
        have HY6 : Hid (X.heap[p6]? = some (.cells (cBlk (nst l k).2.1 (nst l k).2.2).toArray 71)) := hid ((hbx.block _ (box_lt HY.out)).trans HY.out)
        have HX3 : Hid (X.heap[p3]? = some (.cells z33.toArray 71)) := hid ((hbx.block _ (box_lt HX.out)).trans HX.out)
        clear hbx hx9 HSH HY HX
        go_upto_region 8 with fail
        go_loopw [34] (fun jv wj => ∃ j : Nat, j ≤ 8 ∧ jv = .int .i64 (j : Int) ∧ Hid (∀ s ∈ H.take j, num4 s = n4) ∧ Hid (Below X.heap.size X wj)) (fun jv _ => 8 - (Go.RowKit.intOf jv).toNat)
        case atStart => exact ⟨0, by omega, rfl, hid (fun s hs => by rw [List.take_zero] at hs; cases hs), hid (Below.refl _ _)⟩
        case round =>
          obtain ⟨j, hj, rfl, HJ, HBJ⟩ := hrel
          by_cases hj8 : j < 8
          · have dj : decide ((j : Int) < 8) = true := decide_eq_true (by omega)
            have hs := HSX.out.below HBJ.out
            obtain ⟨b', off', e, _, hc⟩ := arr_at1 hs.2 (by rw [List.length_map, HHL.out]; decide)
            injection e with e
            injection e with e1 e2
            subst e1 e2
            obtain ⟨sj, hx⟩ : ∃ s, H[j]? = some s := ⟨H[j]'(by rw [HHL.out]; exact hj8), List.getElem?_eq_getElem _⟩
            have h8 := hs.1 sj (List.mem_of_getElem? hx)
            have HC := hid (fun (t : Nat) (u : Value) (hu : (cSec sj)[t]? = some u) => hc j _ (by rw [List.getElem?_map, hx]; rfl) t u hu)
            have HT : Hid (H.take (j + 1) = H.take j ++ [sj]) := hid (take_succ'' hx)
            have HMEM : Hid (sj ∈ H) := hid (List.mem_of_getElem? hx)
            obtain ⟨z0, z1, z2, z3, z4, z5, z6, z7, rfl⟩ := list8 h8.1
            obtain ⟨q, hq⟩ : ∃ q, num4 [z0, z1, z2, z3, z4, z5, z6, z7] = q := ⟨_, rfl⟩
            have HQ46 : Hid (∀ X, Calls Try.prog 46 #[.agg #[.int .u8 (z0 : Int), .int .u8 (z1 : Int), .int .u8 (z2 : Int), .int .u8 (z3 : Int), .int .u8 (z4 : Int), .int .u8 (z5 : Int), .int .u8 (z6 : Int), .int .u8 (z7 : Int)]] X fun e w' => e = .returned (.int .u32 (q : Int)) ∧ Below X.heap.size X w') := hid (fun X => by rw [← hq]; exact number_any z0 z1 z2 z3 z4 z5 z6 z7 h8.2 X)
            have HQ := hid hq
            have hjn : (j : Int) < 8 := by omega
            have k0 : wr.cell? ⟨b, off + 64 * k + j * 8, none⟩ = some (.int .u8 (z0 : Int)) := HC.out 0 _ rfl
            have k1 : wr.cell? ⟨b, off + 64 * k + j * 8 + 1, none⟩ = some (.int .u8 (z1 : Int)) := HC.out 1 _ rfl
            have k2 : wr.cell? ⟨b, off + 64 * k + j * 8 + 2, none⟩ = some (.int .u8 (z2 : Int)) := HC.out 2 _ rfl
            have k3 : wr.cell? ⟨b, off + 64 * k + j * 8 + 3, none⟩ = some (.int .u8 (z3 : Int)) := HC.out 3 _ rfl
            have k4 : wr.cell? ⟨b, off + 64 * k + j * 8 + 4, none⟩ = some (.int .u8 (z4 : Int)) := HC.out 4 _ rfl
            have k5 : wr.cell? ⟨b, off + 64 * k + j * 8 + 5, none⟩ = some (.int .u8 (z5 : Int)) := HC.out 5 _ rfl
            have k6 : wr.cell? ⟨b, off + 64 * k + j * 8 + 6, none⟩ = some (.int .u8 (z6 : Int)) := HC.out 6 _ rfl
            have k7 : wr.cell? ⟨b, off + 64 * k + j * 8 + 7, none⟩ = some (.int .u8 (z7 : Int)) := HC.out 7 _ rfl
            clear hs hx h8 hc hq
            go_upto_region 10 with fail
            clear k0 k1 k2 k3 k4 k5 k6 k7
            obtain ⟨Wc, hWc⟩ : ∃ Y, wr.alloc (.cells #[.int .u8 (z0 : Int), .int .u8 (z1 : Int), .int .u8 (z2 : Int), .int .u8 (z3 : Int), .int .u8 (z4 : Int), .int .u8 (z5 : Int), .int .u8 (z6 : Int), .int .u8 (z7 : Int)] 57) = Y := ⟨_, rfl⟩
            obtain ⟨p11, hp11⟩ : ∃ p, wr.heap.size = p := ⟨_, rfl⟩
            have hbc : Below wr.heap.size wr Wc := by rw [← hWc]; exact al1 _ _
            have hxc : Wc.heap[p11]? = some (.cells #[.int .u8 (z0 : Int), .int .u8 (z1 : Int), .int .u8 (z2 : Int), .int .u8 (z3 : Int), .int .u8 (z4 : Int), .int .u8 (z5 : Int), .int .u8 (z6 : Int), .int .u8 (z7 : Int)] 57) := by rw [← hWc, ← hp11]; exact heap_alloc_new _ _
            rw [hWc, hp11]
            have HBc : Hid (Below X.heap.size X Wc) := hid (HBJ.out.trans (hbc.mono HBJ.out.size))
            have HKV : Hid (∀ X, Below Wc.heap.size Wc X → X.cell? ⟨p11, 0, none⟩ = some (.int .u8 (z0 : Int)) ∧ X.cell? ⟨p11, 1, none⟩ = some (.int .u8 (z1 : Int)) ∧ X.cell? ⟨p11, 2, none⟩ = some (.int .u8 (z2 : Int)) ∧ X.cell? ⟨p11, 3, none⟩ = some (.int .u8 (z3 : Int)) ∧ X.cell? ⟨p11, 4, none⟩ = some (.int .u8 (z4 : Int)) ∧ X.cell? ⟨p11, 5, none⟩ = some (.int .u8 (z5 : Int)) ∧ X.cell? ⟨p11, 6, none⟩ = some (.int .u8 (z6 : Int)) ∧ X.cell? ⟨p11, 7, none⟩ = some (.int .u8 (z7 : Int)) ∧ X.cell? ⟨p9, 32, none⟩ = some (.int .u32 (n4 : Int))) := hid (fun Y hY => by
              have h11 := (hY.block _ (box_lt hxc)).trans hxc
              refine ⟨cell_of_row _ _ 0 _ _ _ h11, cell_of_row _ _ 1 _ _ _ h11, cell_of_row _ _ 2 _ _ _ h11, cell_of_row _ _ 3 _ _ _ h11, cell_of_row _ _ 4 _ _ _ h11, cell_of_row _ _ 5 _ _ _ h11, cell_of_row _ _ 6 _ _ _ h11, cell_of_row _ _ 7 _ _ _ h11, ?_⟩
              exact (HBX.out Y p9 ((hY.block _ (Nat.lt_of_lt_of_le (box_lt HX9.out) HBc.out.size)).trans ((HBc.out.block _ (box_lt HX9.out)).trans HX9.out))).1)
            clear hWc hp11 hbc hxc
            by_cases hq4 : q = n4
            · have hqe : ((q : Int) != (n4 : Int)) = false := by subst hq4; simp
              refine region_tail 4 (fun X => X.cell? ⟨p11, 0, none⟩ = some (.int .u8 (z0 : Int)) ∧ X.cell? ⟨p11, 1, none⟩ = some (.int .u8 (z1 : Int)) ∧ X.cell? ⟨p11, 2, none⟩ = some (.int .u8 (z2 : Int)) ∧ X.cell? ⟨p11, 3, none⟩ = some (.int .u8 (z3 : Int)) ∧ X.cell? ⟨p11, 4, none⟩ = some (.int .u8 (z4 : Int)) ∧ X.cell? ⟨p11, 5, none⟩ = some (.int .u8 (z5 : Int)) ∧ X.cell? ⟨p11, 6, none⟩ = some (.int .u8 (z6 : Int)) ∧ X.cell? ⟨p11, 7, none⟩ = some (.int .u8 (z7 : Int)) ∧ X.cell? ⟨p9, 32, none⟩ = some (.int .u32 (n4 : Int))) (by kernel_rfl) ?_
              obtain ⟨V0, hV0⟩ : ∃ Y, Wc.drew = Y := ⟨_, rfl⟩
              have hbV0 : Below Wc.heap.size Wc V0 := by rw [← hV0]; exact (Below.refl Wc.heap.size Wc).drew
              have HBV0 : Hid (Below X.heap.size X V0) := hid (HBc.out.trans (hbV0.mono HBc.out.size))
              have hHeld := HKV.out V0 hbV0
              rw [hV0]
              clear hV0
              refine' wpAnyT_take (i := 0) (oi := ?oiy0) (v := ?vy0) ?hiy0 (by kernel_rfl) (by kernel_rfl) ?hqy0 ?hyy0 hHeld ?resty0
              case hiy0 => (simp only [List.getElem?_toArray, List.getElem?_cons_zero]; rfl)
              case hqy0 => exact fun _ _ _ h => h
              case hyy0 => (refine Or.inl ⟨by rfl, ?_⟩; intro w' hSw; (try dsimp only at hSw); go_simp; try with_reducible rfl)
              (try simp only [Act.put, List.setIfInBounds_toArray, List.set_cons_zero, List.set_cons_succ])
              refine' wpAnyT_take (i := 2) (oi := ?oiy2) (v := ?vy2) ?hiy2 (by kernel_rfl) (by kernel_rfl) ?hqy2 ?hyy2 hHeld ?resty2
              case hiy2 => (simp only [List.getElem?_toArray, List.getElem?_cons_zero, List.getElem?_cons_succ]; rfl)
              case hqy2 => exact fun _ _ _ h => h
              case hyy2 => (refine Or.inl ⟨by rfl, ?_⟩; intro w' hSw; (try dsimp only at hSw); go_simp; try with_reducible rfl)
              (try simp only [Act.put, List.setIfInBounds_toArray, List.set_cons_zero, List.set_cons_succ])
              refine' wpAnyT_take (i := 3) (oi := ?oiy3) (v := ?vy3) ?hiy3 (by kernel_rfl) (by kernel_rfl) ?hqy3 ?hyy3 hHeld ?resty3
              case hiy3 => (simp only [List.getElem?_toArray, List.getElem?_cons_zero, List.getElem?_cons_succ]; rfl)
              case hqy3 => exact fun _ _ _ h => h
              case hyy3 => (refine Or.inl ⟨by rfl, ?_⟩; intro w' hSw; (try dsimp only at hSw); go_simp; try with_reducible rfl)
              (try simp only [Act.put, List.setIfInBounds_toArray, List.set_cons_zero, List.set_cons_succ])
              refine' wpAnyT_one (i := 1) (o := ?oiy1) (by kernel_rfl) ?hiy1 (fun K hK => ?sty1)
              case hiy1 => (simp only [List.getElem?_toArray, List.getElem?_cons_zero, List.getElem?_cons_succ]; rfl)
              go_simp
              go_at_call 46
              refine (HQ46.out V0).mono ?_
              rintro e V1 ⟨rfl, hbv⟩
              have HBV1 : Hid (Below X.heap.size X V1) := hid (HBV0.out.trans (hbv.mono HBV0.out.size))
              have hHeld := HKV.out V1 (hbV0.trans (hbv.mono hbV0.size))
              clear hbv
              refine hK.out _ _ (fun _ => hHeld) ?_
              clear hK K
              (try simp only [Act.put, List.setIfInBounds_toArray, List.set_cons_zero, List.set_cons_succ])
              refine' wpAnyT_one (i := 4) (o := ?oiy4) (by kernel_rfl) ?hiy4 (fun K hK => ?sty4)
              case hiy4 => (simp only [List.getElem?_toArray, List.getElem?_cons_zero, List.getElem?_cons_succ]; rfl)
              go_simp
              refine hK.out _ _ (fun h => absurd h (by decide)) ?_
              clear hK K
              (try simp only [Act.put, List.setIfInBounds_toArray, List.set_cons_zero, List.set_cons_succ])
              refine wpAnyT_done (by kernel_rfl) ?_ _
              go_wp2_with fail
              go_roundw
              case rel => exact ⟨j + 1, by omega, by go_num, hid (fun s hs => by
                rw [HT.out] at hs
                rcases List.mem_append.1 hs with hs | hs
                · exact HJ.out s hs
                · rw [List.mem_singleton.1 hs, HQ.out, hq4]), HBV1⟩
              case measure => simp [Go.RowKit.intOf]; omega
            · have hqe : ((q : Int) != (n4 : Int)) = true := by
                rw [bne_iff_ne]
                intro h
                exact hq4 (by omega)
              refine region_tail 4 (fun X => X.cell? ⟨p11, 0, none⟩ = some (.int .u8 (z0 : Int)) ∧ X.cell? ⟨p11, 1, none⟩ = some (.int .u8 (z1 : Int)) ∧ X.cell? ⟨p11, 2, none⟩ = some (.int .u8 (z2 : Int)) ∧ X.cell? ⟨p11, 3, none⟩ = some (.int .u8 (z3 : Int)) ∧ X.cell? ⟨p11, 4, none⟩ = some (.int .u8 (z4 : Int)) ∧ X.cell? ⟨p11, 5, none⟩ = some (.int .u8 (z5 : Int)) ∧ X.cell? ⟨p11, 6, none⟩ = some (.int .u8 (z6 : Int)) ∧ X.cell? ⟨p11, 7, none⟩ = some (.int .u8 (z7 : Int)) ∧ X.cell? ⟨p9, 32, none⟩ = some (.int .u32 (n4 : Int))) (by kernel_rfl) ?_
              obtain ⟨V0, hV0⟩ : ∃ Y, Wc.drew = Y := ⟨_, rfl⟩
              have hbV0 : Below Wc.heap.size Wc V0 := by rw [← hV0]; exact (Below.refl Wc.heap.size Wc).drew
              have HBV0 : Hid (Below X.heap.size X V0) := hid (HBc.out.trans (hbV0.mono HBc.out.size))
              have hHeld := HKV.out V0 hbV0
              rw [hV0]
              clear hV0
              refine' wpAnyT_take (i := 0) (oi := ?oiy20) (v := ?vy20) ?hiy20 (by kernel_rfl) (by kernel_rfl) ?hqy20 ?hyy20 hHeld ?resty20
              case hiy20 => (simp only [List.getElem?_toArray, List.getElem?_cons_zero]; rfl)
              case hqy20 => exact fun _ _ _ h => h
              case hyy20 => (refine Or.inl ⟨by rfl, ?_⟩; intro w' hSw; (try dsimp only at hSw); go_simp; try with_reducible rfl)
              (try simp only [Act.put, List.setIfInBounds_toArray, List.set_cons_zero, List.set_cons_succ])
              refine' wpAnyT_take (i := 2) (oi := ?oiy22) (v := ?vy22) ?hiy22 (by kernel_rfl) (by kernel_rfl) ?hqy22 ?hyy22 hHeld ?resty22
              case hiy22 => (simp only [List.getElem?_toArray, List.getElem?_cons_zero, List.getElem?_cons_succ]; rfl)
              case hqy22 => exact fun _ _ _ h => h
              case hyy22 => (refine Or.inl ⟨by rfl, ?_⟩; intro w' hSw; (try dsimp only at hSw); go_simp; try with_reducible rfl)
              (try simp only [Act.put, List.setIfInBounds_toArray, List.set_cons_zero, List.set_cons_succ])
              refine' wpAnyT_take (i := 3) (oi := ?oiy23) (v := ?vy23) ?hiy23 (by kernel_rfl) (by kernel_rfl) ?hqy23 ?hyy23 hHeld ?resty23
              case hiy23 => (simp only [List.getElem?_toArray, List.getElem?_cons_zero, List.getElem?_cons_succ]; rfl)
              case hqy23 => exact fun _ _ _ h => h
              case hyy23 => (refine Or.inl ⟨by rfl, ?_⟩; intro w' hSw; (try dsimp only at hSw); go_simp; try with_reducible rfl)
              (try simp only [Act.put, List.setIfInBounds_toArray, List.set_cons_zero, List.set_cons_succ])
              refine' wpAnyT_one (i := 1) (o := ?oiy21) (by kernel_rfl) ?hiy21 (fun K hK => ?sty21)
              case hiy21 => (simp only [List.getElem?_toArray, List.getElem?_cons_zero, List.getElem?_cons_succ]; rfl)
              go_simp
              go_at_call 46
              refine (HQ46.out V0).mono ?_
              rintro e V1 ⟨rfl, hbv⟩
              have HBV1 : Hid (Below X.heap.size X V1) := hid (HBV0.out.trans (hbv.mono HBV0.out.size))
              have hHeld := HKV.out V1 (hbV0.trans (hbv.mono hbV0.size))
              clear hbv
              refine hK.out _ _ (fun _ => hHeld) ?_
              clear hK K
              (try simp only [Act.put, List.setIfInBounds_toArray, List.set_cons_zero, List.set_cons_succ])
              refine' wpAnyT_one (i := 4) (o := ?oiy24) (by kernel_rfl) ?hiy24 (fun K hK => ?sty24)
              case hiy24 => (simp only [List.getElem?_toArray, List.getElem?_cons_zero, List.getElem?_cons_succ]; rfl)
              go_simp
              refine hK.out _ _ (fun h => absurd h (by decide)) ?_
              clear hK K
              (try simp only [Act.put, List.setIfInBounds_toArray, List.set_cons_zero, List.set_cons_succ])
              refine wpAnyT_done (by kernel_rfl) ?_ _
              have HEN : Hid (nst l (k + 1) = nst l k) := hid (by
                rw [HST.out, if_neg]
                rintro ⟨h, _⟩
                exact hq4 (HQ.out.symm.trans (h _ HMEM.out)))
              have HBW : Hid (Below w.heap.size w V1) := hid (HBX0.out.trans (HBV1.out.mono HBX0.out.size))
              go_wp2_with fail
              go_roundw
              case rel =>
                refine ⟨k + 1, i, by omega, by go_num, rfl, hid (by rw [HEN.out]; exact HI.out), hid ?_, hid ?_, HBW⟩
                · rw [HEN.out]; exact (HBV1.out.block _ (box_lt HY6.out)).trans HY6.out
                · exact (HBV1.out.block _ (box_lt HX3.out)).trans HX3.out
              case measure => simp [Go.RowKit.intOf]; omega
          · obtain rfl : j = 8 := by omega
            have dj : decide ((8 : Int) < 8) = false := by decide
            have HJA : Hid (∀ s ∈ H, num4 s = n4) := hid (fun s hs => HJ.out s (by rw [List.take_of_length_le (by rw [HHL.out]; exact Nat.le_refl _)]; exact hs))
            have HBW : Hid (Below w.heap.size w wr) := hid (HBX0.out.trans (HBJ.out.mono HBX0.out.size))
            have hx9 := (HBJ.out.block _ (box_lt HX9.out)).trans HX9.out
            have HLD := hid (run_loadAt67p wr p9 DB HDL.out (HBX.out wr p9 hx9).2)
            have HX9b := hid hx9
            have HY6b : Hid (wr.heap[p6]? = some (.cells (cBlk (nst l k).2.1 (nst l k).2.2).toArray 71)) := hid ((HBJ.out.block _ (box_lt HY6.out)).trans HY6.out)
            have HX3b : Hid (wr.heap[p3]? = some (.cells z33.toArray 71)) := hid ((HBJ.out.block _ (box_lt HX3.out)).trans HX3.out)
            clear HJ hx9 HX9 HY6 HX3 HSX HBX0
            cases vb with
            | false =>
              have HEN : Hid (nst l (k + 1) = nst l k) := hid (by
                rw [HST.out, if_neg]
                rintro ⟨_, h, _⟩
                cases h)
              go_wp2_with (first
                | (refine wpl_load rfl 67 (.tmp 44) rfl _ _ rfl HLD.out ?_)
                | (go_at_call 47; refine (HV47.out wr).mono ?_; rintro e X2 ⟨rfl, hb2⟩; have HB2 := hid hb2; clear hb2)
                | fail)
              go_roundw
              case rel =>
                refine ⟨k + 1, i, by omega, by go_num, rfl, hid (by rw [HEN.out]; exact HI.out), hid ?_, hid ?_, hid (HBW.out.trans (HB2.out.mono HBW.out.size))⟩
                · rw [HEN.out]; exact (HB2.out.block _ (box_lt HY6b.out)).trans HY6b.out
                · exact (HB2.out.block _ (box_lt HX3b.out)).trans HX3b.out
              case measure => simp [Go.RowKit.intOf]; omega
            | true =>
              obtain ⟨g6, hg6⟩ : ∃ n, (nst l k).2.2 = n := ⟨_, rfl⟩
              have HGK := hid (HNG.out k hk)
              have HG6e := hid hg6
              by_cases hgt : g6 < n4
              · have dg : decide ((g6 : Int) < (n4 : Int)) = true := decide_eq_true (by omega)
                have HEN : Hid (nst l (k + 1) = (k, (D, n4))) := hid (by
                  rw [HST.out, if_pos ⟨HJA.out, rfl, by rw [HG6e.out]; exact hgt⟩])
                go_upto_region 13 with (first
                  | (refine wpl_load rfl 67 (.tmp 44) rfl _ _ rfl HLD.out ?_)
                  | (go_at_call 47; refine (HV47.out wr).mono ?_; rintro e X2 ⟨rfl, hb2⟩; have HB2 := hid hb2; have hx9c := (hb2.block _ (box_lt HX9b.out)).trans HX9b.out; have hy6c := (hb2.block _ (box_lt HY6b.out)).trans HY6b.out; have g9 := (HBX.out _ p9 hx9c).1; have g6c := cBlk_gen hy6c HGK.out.1; rw [HG6e.out] at g6c; clear hb2 hx9c hy6c)
                  | fail)
                have hcl6 : (cBlk (nst l k).2.1 (nst l k).2.2).length = 33 := cBlk_len HGK.out.1
                have HCL6 := hid hcl6
                refine region_tail 3 (fun X => X.heap[p9]? = some (.cells BB.toArray 71)) (by kernel_rfl) ?_
                obtain ⟨Y0, hY0⟩ : ∃ Y, X2.drew = Y := ⟨_, rfl⟩
                have hbY0 : Below X2.heap.size X2 Y0 := by rw [← hY0]; exact (Below.refl X2.heap.size X2).drew
                have hb20 : Below wr.heap.size wr Y0 := below_both HB2.out hbY0
                have HBY0 : Hid (Below w.heap.size w Y0) := hid (HBW.out.trans (hb20.mono HBW.out.size))
                have hHeld : Y0.heap[p9]? = some (.cells BB.toArray 71) := (hb20.block _ (box_lt HX9b.out)).trans HX9b.out
                have hY6 := (hb20.block _ (box_lt HY6b.out)).trans HY6b.out
                have HX3c := hid ((hb20.block _ (box_lt HX3b.out)).trans HX3b.out)
                rw [hY0]
                clear hY0 g9 g6c hbY0 hb20
                refine' wpAnyT_take (i := 0) (oi := ?oim0) (v := ?vm0) ?him0 (by kernel_rfl) (by kernel_rfl) ?hqm0 ?hym0 hHeld ?restm0
                case him0 => (simp only [List.getElem?_toArray, List.getElem?_cons_zero]; rfl)
                case hqm0 => exact fun _ _ _ h => h
                case hym0 => (refine Or.inl ⟨by rfl, ?_⟩; intro w' hSw; (try dsimp only at hSw); go_simp; try with_reducible rfl)
                (try simp only [Act.put, List.setIfInBounds_toArray, List.set_cons_zero, List.set_cons_succ])
                refine' wpAnyT_take (i := 1) (oi := ?oim1) (v := ?vm1) ?him1 (by kernel_rfl) (by kernel_rfl) ?hqm1 ?hym1 hHeld ?restm1
                case him1 => (simp only [List.getElem?_toArray, List.getElem?_cons_zero, List.getElem?_cons_succ]; rfl)
                case hqm1 => exact fun _ _ _ h => h
                case hym1 => (refine Or.inl ⟨by rfl, ?_⟩; intro w' hSw; refine exec_load 71 (.tmp 9) ?_ (.pointer (some ⟨p9, 0, none⟩)) (.agg BB.toArray) ?_ (run_loadAt71 w' p9 BB HBL.out hSw) <;> rfl)
                (try simp only [Act.put, List.setIfInBounds_toArray, List.set_cons_zero, List.set_cons_succ])
                refine' wpAnyT_one (i := 2) (o := ?oim2) (by kernel_rfl) ?him2 (fun K hK => ?stm2)
                case him2 => (simp only [List.getElem?_toArray, List.getElem?_cons_zero, List.getElem?_cons_succ]; rfl)
                go_simp
                refine hK.out _ _ (fun _ => hHeld) ?_
                clear hK K
                (try simp only [Act.put, List.setIfInBounds_toArray, List.set_cons_zero, List.set_cons_succ])
                refine' wpAnyT_one (i := 3) (o := ?oim3) (by kernel_rfl) ?him3 (fun K hK => ?stm3)
                case him3 => (simp only [List.getElem?_toArray, List.getElem?_cons_zero, List.getElem?_cons_succ]; rfl)
                obtain ⟨Y1, hr5, hx5, ho5, hbw5⟩ := set_row71 (cs := BB) hY6 HBL.out HCL6.out HB1c.out
                refine ow_store rfl 71 (.tmp 6) (.tmp 55) rfl _ _ rfl rfl hr5 ?_
                have HX5 := hid hx5
                have HO5 := hid ho5
                have HB5 : Hid (Below w.heap.size w Y1) := hid (hbw5 _ _ HBY0.out HG6.out)
                clear hr5 hx5 ho5 hbw5
                refine hK.out _ _ (fun h => absurd h (by decide)) ?_
                clear hK K
                refine wpAnyT_done (by kernel_rfl) ?_ _
                go_wp2_with fail
                go_roundw
                case rel =>
                  refine ⟨k + 1, k, by omega, by go_num, rfl, hid (by rw [HEN.out]), hid ?_, hid ?_, HB5⟩
                  · rw [HEN.out]; exact HBBe.out ▸ HX5.out
                  · exact (HO5.out p3 (by have := HLT.out; omega)).trans HX3c.out
                case measure => simp [Go.RowKit.intOf]; omega
              · have dg : decide ((g6 : Int) < (n4 : Int)) = false := decide_eq_false (by omega)
                have HEN : Hid (nst l (k + 1) = nst l k) := hid (by
                  rw [HST.out, if_neg]
                  rintro ⟨_, _, h⟩
                  rw [HG6e.out] at h
                  exact hgt h)
                go_wp2_with (first
                  | (refine wpl_load rfl 67 (.tmp 44) rfl _ _ rfl HLD.out ?_)
                  | (go_at_call 47; refine (HV47.out wr).mono ?_; rintro e X2 ⟨rfl, hb2⟩; have HB2 := hid hb2; have hx9c := (hb2.block _ (box_lt HX9b.out)).trans HX9b.out; have hy6c := (hb2.block _ (box_lt HY6b.out)).trans HY6b.out; have g9 := (HBX.out _ p9 hx9c).1; have g6c := cBlk_gen hy6c HGK.out.1; rw [HG6e.out] at g6c; clear hb2 hx9c hy6c)
                  | fail)
                go_roundw
                case rel =>
                  refine ⟨k + 1, i, by omega, by go_num, rfl, hid (by rw [HEN.out]; exact HI.out), hid ?_, hid ?_, hid (HBW.out.trans (HB2.out.mono HBW.out.size))⟩
                  · rw [HEN.out]; exact (HB2.out.block _ (box_lt HY6b.out)).trans HY6b.out
                  · exact (HB2.out.block _ (box_lt HX3b.out)).trans HX3b.out
                case measure => simp [Go.RowKit.intOf]; omega
    · obtain rfl : k = 2 := by omega
      have d0 : decide ((2 : Int) < 2) = false := by decide
      have hcl := HNG.out 2 (Nat.le_refl _)
      obtain ⟨CC, hCC⟩ : ∃ X, cBlk (nst l 2).2.1 (nst l 2).2.2 = X := ⟨_, rfl⟩
      obtain ⟨gg, hgg⟩ : ∃ n, (nst l 2).2.2 = n := ⟨_, rfl⟩
      have HCL : Hid (CC.length = 33) := hid (hCC ▸ cBlk_len hcl.1)
      have HC1 : Hid (∀ v ∈ CC, v.oneCell' = true) := hid (by rw [← hCC]; exact cBlk_one _ _)
      have HGN : Hid (∀ X : World, X.heap[p6]? = some (.cells CC.toArray 71) → X.cell? ⟨p6, 32, none⟩ = some (.int .u32 (gg : Int))) := hid (fun X h => by
        rw [← hCC] at h
        rw [← hgg]
        exact cBlk_gen h hcl.1)
      have HYc := HY
      rw [hCC] at HYc
      have HCCe := hid hCC
      have HGGe := hid hgg
      clear hCC hgg hcl HY
      go_upto_region 15 with fail
      refine region_tail 7 (fun X => X.heap[p6]? = some (.cells CC.toArray 71)) (by kernel_rfl) ?_
      obtain ⟨Y0, hY0⟩ : ∃ Y, wr.drew = Y := ⟨_, rfl⟩
      have hbY0 : Below wr.heap.size wr Y0 := by rw [← hY0]; exact (Below.refl wr.heap.size wr).drew
      have HBY0 : Hid (Below w.heap.size w Y0) := hid (HB.out.trans (hbY0.mono HB.out.size))
      have hHeld : Y0.heap[p6]? = some (.cells CC.toArray 71) := (hbY0.block _ (box_lt HYc.out)).trans HYc.out
      have hX3 := (hbY0.block _ (box_lt HX.out)).trans HX.out
      have HX3d := hid hX3
      rw [hY0]
      clear hY0 hbY0 hX3
      refine' wpAnyT_take (i := 0) (oi := ?oif0) (v := ?vf0) ?hif0 (by kernel_rfl) (by kernel_rfl) ?hqf0 ?hyf0 hHeld ?restf0
      case hif0 => (simp only [List.getElem?_toArray, List.getElem?_cons_zero]; rfl)
      case hqf0 => exact fun _ _ _ h => h
      case hyf0 => (refine Or.inl ⟨by rfl, ?_⟩; intro w' hSw; (try dsimp only at hSw); go_simp; try with_reducible rfl)
      (try simp only [Act.put, List.setIfInBounds_toArray, List.set_cons_zero, List.set_cons_succ])
      refine' wpAnyT_take (i := 1) (oi := ?oif1) (v := ?vf1) ?hif1 (by kernel_rfl) (by kernel_rfl) ?hqf1 ?hyf1 hHeld ?restf1
      case hif1 => (simp only [List.getElem?_toArray, List.getElem?_cons_zero, List.getElem?_cons_succ]; rfl)
      case hqf1 => exact fun _ _ _ h => h
      case hyf1 => (refine Or.inl ⟨by rfl, ?_⟩; intro w' hSw; refine exec_load 71 (.tmp 6) ?_ (.pointer (some ⟨p6, 0, none⟩)) (.agg CC.toArray) ?_ (run_loadAt71 w' p6 CC HCL.out hSw) <;> rfl)
      (try simp only [Act.put, List.setIfInBounds_toArray, List.set_cons_zero, List.set_cons_succ])
      refine' wpAnyT_take (i := 2) (oi := ?oif2) (v := ?vf2) ?hif2 (by kernel_rfl) (by kernel_rfl) ?hqf2 ?hyf2 hHeld ?restf2
      case hif2 => (simp only [List.getElem?_toArray, List.getElem?_cons_zero, List.getElem?_cons_succ]; rfl)
      case hqf2 => exact fun _ _ _ h => h
      case hyf2 => (refine Or.inl ⟨by rfl, ?_⟩; intro w' hSw; (try dsimp only at hSw); go_simp; try with_reducible rfl)
      (try simp only [Act.put, List.setIfInBounds_toArray, List.set_cons_zero, List.set_cons_succ])
      refine' wpAnyT_take (i := 3) (oi := ?oif3) (v := ?vf3) ?hif3 (by kernel_rfl) (by kernel_rfl) ?hqf3 ?hyf3 hHeld ?restf3
      case hif3 => (simp only [List.getElem?_toArray, List.getElem?_cons_zero, List.getElem?_cons_succ]; rfl)
      case hqf3 => exact fun _ _ _ h => h
      case hyf3 => (refine Or.inl ⟨by rfl, ?_⟩; intro w' hSw; have hc60 := HGN.out w' hSw; clear hSw; go_simp; try with_reducible rfl)
      (try simp only [Act.put, List.setIfInBounds_toArray, List.set_cons_zero, List.set_cons_succ])
      refine' wpAnyT_take (i := 4) (oi := ?oif4) (v := ?vf4) ?hif4 (by kernel_rfl) (by kernel_rfl) ?hqf4 ?hyf4 hHeld ?restf4
      case hif4 => (simp only [List.getElem?_toArray, List.getElem?_cons_zero, List.getElem?_cons_succ]; rfl)
      case hqf4 => exact fun _ _ _ h => h
      case hyf4 => (refine Or.inl ⟨by rfl, ?_⟩; intro w' hSw; (try dsimp only at hSw); go_simp; try with_reducible rfl)
      (try simp only [Act.put, List.setIfInBounds_toArray, List.set_cons_zero, List.set_cons_succ])
      refine' wpAnyT_one (i := 5) (o := ?oif5) (by kernel_rfl) ?hif5 (fun K hK => ?stf5)
      case hif5 => (simp only [List.getElem?_toArray, List.getElem?_cons_zero, List.getElem?_cons_succ]; rfl)
      go_simp
      refine hK.out _ _ (fun _ => hHeld) ?_
      clear hK K
      (try simp only [Act.put, List.setIfInBounds_toArray, List.set_cons_zero, List.set_cons_succ])
      refine' wpAnyT_one (i := 6) (o := ?oif6) (by kernel_rfl) ?hif6 (fun K hK => ?stf6)
      case hif6 => (simp only [List.getElem?_toArray, List.getElem?_cons_zero, List.getElem?_cons_succ]; rfl)
      obtain ⟨Y1, hr5, hx5, ho5, hbw5⟩ := set_row71 (cs := CC) HX3d.out HCL.out z33_len HC1.out
      refine ow_store rfl 71 (.tmp 3) (.tmp 58) rfl _ _ rfl rfl hr5 ?_
      have HX5 := hid hx5
      have HB5 : Hid (Below w.heap.size w Y1) := hid (hbw5 _ _ HBY0.out HG3.out)
      have hHeld : Y1.heap[p6]? = some (.cells CC.toArray 71) := (ho5 p6 (by have := HLT.out; omega)).trans hHeld
      clear hr5 hx5 ho5 hbw5
      refine hK.out _ _ (fun _ => hHeld) ?_
      clear hK K
      refine' wpAnyT_one (i := 7) (o := ?oif7) (by kernel_rfl) ?hif7 (fun K hK => ?stf7)
      case hif7 => (simp only [List.getElem?_toArray, List.getElem?_cons_zero, List.getElem?_cons_succ]; rfl)
      go_simp
      refine hK.out _ _ (fun h => absurd h (by decide)) ?_
      clear hK K
      (try simp only [Act.put, List.setIfInBounds_toArray, List.set_cons_zero, List.set_cons_succ])
      refine wpAnyT_done (by kernel_rfl) ?_ _
      go_wp2_with fail
      rw [Exit.noGoto_ret]
      refine bodyPost_ret (results_vc rfl _ _ p3 _ rfl (run_loadVar71 _ _ _ HCL.out HX5.out) _ rfl _ rfl) rfl ?_
      refine ⟨?_, HB5.out⟩
      unfold newS
      rw [HI.out, HCCe.out, HGGe.out]
      rfl
end Go.Proofs.Ytnocgfhcamnjdaa
