/- The walk of Keeps. -/
import Derived.Test.YtnocgfhcamnjdaaBh
namespace Go.Proofs.Ytnocgfhcamnjdaa
open Go.RowKit Go.Lib

theorem cutW {G : World → Nat → Option Addr → Nat → Option Addr → Nat → Prop} {R : Prop} (F : World → Nat → Option Addr → Nat → Option Addr → Nat → Prop) (main : (∀ X p A m B n, F X p A m B n → G X p A m B n) → R) (cont : ∀ X p A m B n, F X p A m B n → G X p A m B n) : R := main cont
theorem set_row57 {w : World} {g : Nat} {cur cs : List Value} (hg : w.heap[g]? = some (.cells cur.toArray 57)) (hl : cs.length = 8) (hc : cur.length = 8) (h1 : ∀ v ∈ cs, v.oneCell' = true) : ∃ w', (Instr.storeAt 57 (.pointer (some ⟨g, 0, none⟩)) (.agg cs.toArray)).run Try.prog w = .ok () w' ∧ w'.heap[g]? = some (.cells cs.toArray 57) ∧ (∀ k, k ≠ g → w'.heap[k]? = w.heap[k]?) ∧ ∀ B W, Below B W w → B ≤ g → Below B W w' := by
  refine ⟨_, run_storeAt_row w g 0 57 57 cs cur.toArray hg (by rw [hl]; exact size73) (by simp; omega) h1, ?_, fun k hk => setRow_other _ _ _ _ hk, fun B W hb hB => below_setRow hb hB _⟩
  have e : (cur.toArray.toList.take 0 ++ cs ++ cur.toArray.toList.drop (0 + cs.length)) = cs := by
    rw [List.take_zero, List.nil_append, List.drop_of_length_le (by simp; omega), List.append_nil]
  rw [e]
  exact setRow_heap w g _ _ 57 _ hg
set_option maxHeartbeats 4000000 in
set_option maxRecDepth 100000 in
theorem keeps_any (v : Value) (C : List Sect) (u : Value) (l : List StT) (w : World) (hv : Sec w v C) (hvn : NilOk v) (hu : Steps w u l) :
    Calls Try.prog 8 #[v, u] w (TrueQ w) := by
  obtain ⟨VA, vc, rfl⟩ := sec_form hv
  obtain ⟨UA, uc, rfl⟩ := steps_form hu
  obtain ⟨cn, hcn⟩ : ∃ n, C.length = n := ⟨_, rfl⟩
  obtain ⟨sn, hsn⟩ : ∃ n, l.length = n := ⟨_, rfl⟩
  have HSM := hid (small_any l _ w hu)
  have HV0 := hid hv
  have HVN := hid hvn
  have HSV := hid hu
  rw [hsn] at HSM HSV
  rw [hcn] at HV0 HVN
  have HCN := hid hcn
  have HSN := hid hsn
  rw [hcn, hsn]
  clear hv hvn hu hcn hsn
  by_cases h30 : 30 < cn
  · have d0 : decide (30 < (cn : Int)) = true := decide_eq_true (by omega)
    have d0' : decide (30 < cn) = true := decide_eq_true h30
    go_enter Try.func8, Try.ntmps8
    go_wp2_with (go_at_call 10; refine (awake_any w).mono ?_; rintro e X ⟨rfl, hb⟩)
    go_ret
    exact ⟨rfl, hb⟩
  have d0 : decide (30 < (cn : Int)) = false := decide_eq_false (by omega)
  have d0' : decide (30 < cn) = false := decide_eq_false h30
  by_cases hsm : smallB l = true
  case neg =>
    rw [show smallB l = false by simpa using hsm] at HSM
    clear hsm
    go_enter Try.func8, Try.ntmps8
    go_wp2_with (first
      | (go_at_call 20; refine HSM.out.mono ?_; rintro e X ⟨rfl, rfl⟩)
      | (go_at_call 10; refine (awake_any _).mono ?_; rintro e X ⟨rfl, hb⟩))
    go_ret
    exact ⟨rfl, hb⟩
  rw [hsm] at HSM
  have hsm2 := of_decide_eq_true hsm
  have HFEW := hid hsm2.1
  have H12 : Hid (sn ≤ 12) := hid (by rw [← HSN.out]; exact hsm2.2)
  have HC30 : Hid (cn ≤ 30) := hid (by omega)
  clear hsm hsm2
  have HBG := hid (begin_any C _ _ [] w HV0.out HVN.out (byt_nil w) (by rw [HCN.out]; exact HC30.out) (by decide))
  go_enter Try.func8, Try.ntmps8
  go_upto_region 3 with (go_at_call 20; refine HSM.out.mono ?_; rintro e w ⟨rfl, rfl⟩)
  go_upto_region 4 with (go_at_call 21; refine HBG.out.mono ?_; rintro e X1 ⟨st0, A0, c0, B0, d0, rfl, hg0, hbg, hb0⟩; have HG0 := hid hg0; have HBGN := hid hbg; have HB1x := hid hb0; clear hg0 hbg hb0)
  obtain ⟨n, hn⟩ : ∃ n, st0.length = n := ⟨_, rfl⟩
  obtain ⟨W2, hW2⟩ : ∃ X, X1.alloc (.cells #[.slice A0 st0.length c0, .slice B0 0 d0] 35) = X := ⟨_, rfl⟩
  obtain ⟨g6, hg6⟩ : ∃ q, X1.heap.size = q := ⟨_, rfl⟩
  have hb2 : Below X1.heap.size X1 W2 := by rw [← hW2]; exact al1 _ _
  have hx6 : W2.heap[g6]? = some (.cells #[.slice A0 st0.length c0, .slice B0 0 d0] 35) := by rw [← hW2, ← hg6]; exact heap_alloc_new _ _
  have hb12 := HB1x.out.trans (hb2.mono HB1x.out.size)
  have HG2 := hid (HG0.out.keep (keep_below hb2) (keep_below hb2) (Nat.le_refl _))
  have HB2 := hid hb12
  have HX62 := hid hx6
  have HNL : Hid (n = cn + 30) := hid (by rw [← hn, HBGN.out.len, HCN.out])
  have HLEN0 := hid hn
  have HG6W : Hid (w.heap.size ≤ g6) := hid (by rw [← hg6]; exact HB1x.out.size)
  rw [hn] at HX62 HG2
  rw [hW2, hg6]
  clear hW2 hg6 hb2 hx6 hb12 HG0 hn
  go_upto_region 5 with fail
  go_loopw [7, 6] (fun iv vv wr => ∃ (i : Nat) (st : List Sect) (A : Option Addr) (c : Nat) (B : Option Addr) (d : Nat) (ii : Nat) (p : List Nat) (g : Nat), i ≤ sn ∧ iv = .int .i64 (i : Int) ∧ vv = .bool true ∧ Hid (∀ j, ¬ (5 ≤ j ∧ j < 21) → st[j]? = (C ++ List.replicate 30 zs)[j]?) ∧ Hid (wr.heap[g6]? = some (.cells #[.slice A n c, .slice B 0 d] 35)) ∧ Hid (OwnG wr w.heap.size st [] (.agg #[.slice A n c, .slice B 0 d])) ∧ Hid (st.length = n) ∧ Hid (Good (supL st) ii p g) ∧ Hid (grt (supL st) ≤ 1 + i) ∧ Hid (Below w.heap.size w wr)) (fun iv _ _ => sn - (Go.RowKit.intOf iv).toNat)
  case atStart =>
    exact ⟨0, st0, A0, c0, B0, d0, 0, [], 1, Nat.zero_le _, rfl, rfl, hid HBGN.out.out, HX62, HG2, HLEN0, hid HBGN.out.good, hid (by have := HBGN.out.grt; omega), HB2⟩
  case round =>
    obtain ⟨i, st, A, c, B, d, ii, p, g, hi, rfl, rfl, HOUT, HX6, HGD, HLENn, HGOOD, HGRT, HB⟩ := hrel
    have HLEN : Hid (st.length = n) := HLENn
    have HNN := HNL
    by_cases hin : i < sn
    · have dl : decide ((i : Int) < (sn : Int)) = true := decide_eq_true (by omega)
      obtain ⟨b, off, hAv, hblw, hcell⟩ := steps_at (HSV.out.below HB.out) (by rw [HSN.out]; omega)
      subst hAv
      obtain ⟨x, hx⟩ : ∃ s, l[i]? = some s := ⟨l[i]'(by rw [HSN.out]; exact hin), List.getElem?_eq_getElem _⟩
      have hok := (HSV.out.below HB.out).1 x (List.mem_of_getElem? hx)
      have hfew := HFEW.out x (List.mem_of_getElem? hx)
      have hcx := fun j u => hcell i x hx j u
      obtain ⟨xpv, q, k, xcv, ch⟩ := x
      obtain ⟨hpv8, hk256, hch8⟩ := hok
      dsimp only at hpv8 hk256 hch8
      obtain ⟨PA, pc, rfl⟩ := byt_form hpv8
      obtain ⟨LA, lc, rfl⟩ := ints_form hch8
      have hstp := fun X (hX : Below wr.heap.size wr X) => step_any st _ ⟨_, q, k, _, ch⟩ ii p g X (HGD.out.dk.below hX) (StOk.below (w := wr) ⟨hpv8, hk256, hch8⟩ hX) hfew (by rw [HLEN.out]; have := HNL.out; omega) (by rw [HLEN.out]; have := HNL.out; have := HC30.out; omega) HGOOD.out (by have := HGRT.out; have := H12.out; omega)
      obtain ⟨S, hS⟩ : ∃ z, secsN (grt (supL st) + 1) 8 (conL q) = z := ⟨_, rfl⟩
      obtain ⟨bb, hbb⟩ : ∃ z, 5 + 8 * (1 - ii) = z := ⟨_, rfl⟩
      obtain ⟨dn, hdn⟩ : ∃ z, doneK k = z := ⟨_, rfl⟩
      obtain ⟨pm, hpm⟩ : ∃ z, q.length = z := ⟨_, rfl⟩
      obtain ⟨lm, hlm⟩ : ∃ z, ch.length = z := ⟨_, rfl⟩
      dsimp only [cSt] at hstp hcx
      rw [hS, hbb, hdn, hpm, hlm] at hstp
      rw [hpm, hlm] at hcx
      have HSTP : Hid (∀ X, Below wr.heap.size wr X → Calls Try.prog 22 #[.agg #[.slice A n c, .slice B 0 d], .agg #[.slice PA pm pc, .int .u8 (k : Int), .slice LA lm lc]] X fun e w' => ∃ st9 A9 c9 B9 d9, e = .returned (.tuple #[.agg #[.slice A9 n c9, .slice B9 0 d9], .bool dn, .bool true]) ∧ OwnG w' wr.heap.size st9 [] (.agg #[.slice A9 n c9, .slice B9 0 d9]) ∧ Left st bb S st9 (2 ≤ k) ∧ Below X.heap.size X w') := hid (fun X hX => by
        refine (hstp X hX).mono ?_
        rintro e w' ⟨st9, A9, c9, B9, d9, rfl, h1, h2, h3⟩
        have e9 : st9.length = n := by rw [h2.len, HLEN.out]
        rw [e9] at h1 ⊢
        exact ⟨st9, A9, c9, B9, d9, rfl, h1.keep (fun _ _ h => h) (fun _ _ h => h) hX.size, h2, h3⟩)
      have HK : Hid (∀ X, Below wr.heap.size wr X → X.cell? ⟨g6, 0, none⟩ = some (.slice A n c) ∧ X.cell? ⟨g6, 1, none⟩ = some (.slice B 0 d) ∧ X.cell? ⟨b, off + i * 3, none⟩ = some (.slice PA pm pc) ∧ X.cell? ⟨b, off + i * 3 + 1, none⟩ = some (.int .u8 (k : Int)) ∧ X.cell? ⟨b, off + i * 3 + 2, none⟩ = some (.slice LA lm lc)) := hid (fun X hX => by
        have h6 := (hX.block _ (box_lt HX6.out)).trans HX6.out
        exact ⟨cell_of_row _ _ 0 _ _ _ h6, cell_of_row _ _ 1 _ _ _ h6, (hX.cell (p := ⟨b, _, none⟩) hblw).trans (hcx 0 _ rfl), (hX.cell (p := ⟨b, _, none⟩) hblw).trans (hcx 1 _ rfl), (hX.cell (p := ⟨b, _, none⟩) hblw).trans (hcx 2 _ rfl)⟩)
      have HPV := hid hpv8
      rw [hpm] at HPV
      have HFW := hid hfew.1
      have HPMq := hid hpm
      have HSS := hid hS
      have HBBe := hid hbb
      have HDN := hid hdn
      have HCX : Hid (wr.cell? ⟨b, off + i * 3, none⟩ = some (.slice PA pm pc)) := hid (hcx 0 _ rfl)
      have HBLW := hid hblw
      have hin' : (i : Int) < (sn : Int) := by omega
      clear hcell hx hfew hcx hpv8 hk256 hch8 hstp hS hbb hdn hpm hlm hblw
      have HHI : Hid (21 ≤ n ∧ n ≤ 4096) := hid ⟨by have := HNL.out; omega, by have := HNL.out; have := HC30.out; omega⟩
      have HGDK := hid (HGD.out)
      go_upto_region 7 with fail
      apply cutW (fun X px A9 c9 B9 d9 => Below wr.heap.size wr X ∧ wr.heap.size ≤ px ∧ X.heap[px]? = some (.cells #[.slice A9 n c9, .slice B9 0 d9] 35) ∧ ∃ st9, OwnG X wr.heap.size st9 [] (.agg #[.slice A9 n c9, .slice B9 0 d9]) ∧ Left st bb S st9 (2 ≤ k))
      · intro HC
        have HC := hid HC
        refine region_tail 13 (fun X => X.cell? ⟨g6, 0, none⟩ = some (.slice A n c) ∧ X.cell? ⟨g6, 1, none⟩ = some (.slice B 0 d) ∧ X.cell? ⟨b, off + i * 3, none⟩ = some (.slice PA pm pc) ∧ X.cell? ⟨b, off + i * 3 + 1, none⟩ = some (.int .u8 (k : Int)) ∧ X.cell? ⟨b, off + i * 3 + 2, none⟩ = some (.slice LA lm lc)) (by kernel_rfl) ?_
        obtain ⟨X0, hX0⟩ : ∃ X, wr.drew = X := ⟨_, rfl⟩
        have hB0 : Below wr.heap.size wr X0 := by rw [← hX0]; exact (Below.refl wr.heap.size wr).drew
        have hHeld := HK.out X0 hB0
        rw [hX0]
        clear hX0
        refine' wpAnyT_take (i := 0) (oi := ?oiq1) (v := ?vq1) ?hiq1 (by kernel_rfl) (by kernel_rfl) ?hqq1 ?hyq1 hHeld ?restq1
        case hiq1 => (simp only [List.getElem?_toArray, List.getElem?_cons_zero]; rfl)
        case hqq1 => exact fun _ _ _ h => h
        case hyq1 => (refine Or.inl ⟨by rfl, ?_⟩; intro w' hSw; (try dsimp only at hSw); go_simp; try with_reducible rfl)
        (try simp only [Act.put, List.setIfInBounds_toArray, List.set_cons_zero, List.set_cons_succ])
        refine' wpAnyT_take (i := 1) (oi := ?oiq2) (v := ?vq2) ?hiq2 (by kernel_rfl) (by kernel_rfl) ?hqq2 ?hyq2 hHeld ?restq2
        case hiq2 => (simp only [List.getElem?_toArray, List.getElem?_cons_zero, List.getElem?_cons_succ]; rfl)
        case hqq2 => exact fun _ _ _ h => h
        case hyq2 => (refine Or.inl ⟨by rfl, ?_⟩; intro w' hSw; (try dsimp only at hSw); go_simp; try with_reducible rfl)
        (try simp only [Act.put, List.setIfInBounds_toArray, List.set_cons_zero, List.set_cons_succ])
        refine' wpAnyT_take (i := 2) (oi := ?oiq3) (v := ?vq3) ?hiq3 (by kernel_rfl) (by kernel_rfl) ?hqq3 ?hyq3 hHeld ?restq3
        case hiq3 => (simp only [List.getElem?_toArray, List.getElem?_cons_zero, List.getElem?_cons_succ]; rfl)
        case hqq3 => exact fun _ _ _ h => h
        case hyq3 => (refine Or.inl ⟨by rfl, ?_⟩; intro w' hSw; (try dsimp only at hSw); go_simp; try with_reducible rfl)
        (try simp only [Act.put, List.setIfInBounds_toArray, List.set_cons_zero, List.set_cons_succ])
        refine' wpAnyT_take (i := 3) (oi := ?oiq4) (v := ?vq4) ?hiq4 (by kernel_rfl) (by kernel_rfl) ?hqq4 ?hyq4 hHeld ?restq4
        case hiq4 => (simp only [List.getElem?_toArray, List.getElem?_cons_zero, List.getElem?_cons_succ]; rfl)
        case hqq4 => exact fun _ _ _ h => h
        case hyq4 => (refine Or.inl ⟨by rfl, ?_⟩; intro w' hSw; (try dsimp only at hSw); go_simp; try with_reducible rfl)
        (try simp only [Act.put, List.setIfInBounds_toArray, List.set_cons_zero, List.set_cons_succ])
        refine' wpAnyT_take (i := 4) (oi := ?oiq5) (v := ?vq5) ?hiq5 (by kernel_rfl) (by kernel_rfl) ?hqq5 ?hyq5 hHeld ?restq5
        case hiq5 => (simp only [List.getElem?_toArray, List.getElem?_cons_zero, List.getElem?_cons_succ]; rfl)
        case hqq5 => exact fun _ _ _ h => h
        case hyq5 => (refine Or.inl ⟨by rfl, ?_⟩; intro w' hSw; (try dsimp only at hSw); go_simp; try with_reducible rfl)
        (try simp only [Act.put, List.setIfInBounds_toArray, List.set_cons_zero, List.set_cons_succ])
        refine wpAnyT_all (l := [5, 10]) (by kernel_rfl) (by decide) ?_
        intro i hi
        simp only [List.mem_cons, List.not_mem_nil, or_false] at hi
        rcases hi with rfl | rfl
        · refine ⟨_, by (simp only [List.getElem?_toArray, List.getElem?_cons_zero, List.getElem?_cons_succ]; rfl), fun K hK => ?_⟩
          go_simp
          go_at_call 22
          refine (HSTP.out X0 hB0).mono ?_
          rintro e Yq42 ⟨st9, A9, c9, B9, d9, rfl, hg9, hl9, hbb42⟩
          have HG9 := hid hg9
          have HL9 := hid hl9
          clear hg9 hl9
          clear hHeld
          have hHeld := HK.out Yq42 (below_both hB0 hbb42)
          refine hK.out _ _ (fun _ => hHeld) ?_
          clear hK K
          (try simp only [Act.put, List.setIfInBounds_toArray, List.set_cons_zero, List.set_cons_succ])
          refine' wpAnyT_take (i := 6) (oi := ?oiq6) (v := ?vq6) ?hiq6 (by kernel_rfl) (by kernel_rfl) ?hqq6 ?hyq6 hHeld ?restq6
          case hiq6 => (simp only [List.getElem?_toArray, List.getElem?_cons_zero, List.getElem?_cons_succ]; rfl)
          case hqq6 => exact fun _ _ _ h => h
          case hyq6 => (refine Or.inl ⟨by rfl, ?_⟩; intro w' hSw; (try dsimp only at hSw); go_simp; try with_reducible rfl)
          (try simp only [Act.put, List.setIfInBounds_toArray, List.set_cons_zero, List.set_cons_succ])
          refine' wpAnyT_take (i := 7) (oi := ?oiq7) (v := ?vq7) ?hiq7 (by kernel_rfl) (by kernel_rfl) ?hqq7 ?hyq7 hHeld ?restq7
          case hiq7 => (simp only [List.getElem?_toArray, List.getElem?_cons_zero, List.getElem?_cons_succ]; rfl)
          case hqq7 => exact fun _ _ _ h => h
          case hyq7 => (refine Or.inl ⟨by rfl, ?_⟩; intro w' hSw; (try dsimp only at hSw); go_simp; try with_reducible rfl)
          (try simp only [Act.put, List.setIfInBounds_toArray, List.set_cons_zero, List.set_cons_succ])
          refine' wpAnyT_take (i := 8) (oi := ?oiq8) (v := ?vq8) ?hiq8 (by kernel_rfl) (by kernel_rfl) ?hqq8 ?hyq8 hHeld ?restq8
          case hiq8 => (simp only [List.getElem?_toArray, List.getElem?_cons_zero, List.getElem?_cons_succ]; rfl)
          case hqq8 => exact fun _ _ _ h => h
          case hyq8 => (refine Or.inl ⟨by rfl, ?_⟩; intro w' hSw; (try dsimp only at hSw); go_simp; try with_reducible rfl)
          (try simp only [Act.put, List.setIfInBounds_toArray, List.set_cons_zero, List.set_cons_succ])
          refine' wpAnyT_take (i := 9) (oi := ?oiq9) (v := ?vq9) ?hiq9 (by kernel_rfl) (by kernel_rfl) ?hqq9 ?hyq9 hHeld ?restq9
          case hiq9 => (simp only [List.getElem?_toArray, List.getElem?_cons_zero, List.getElem?_cons_succ]; rfl)
          case hqq9 => exact fun _ _ _ h => h
          case hyq9 => (refine Or.inl ⟨by rfl, ?_⟩; intro w' hSw; (try dsimp only at hSw); go_simp; try with_reducible rfl)
          (try simp only [Act.put, List.setIfInBounds_toArray, List.set_cons_zero, List.set_cons_succ])
          refine' wpAnyT_one (i := 10) (o := ?oiq10) (by kernel_rfl) ?hiq10 (fun K hK => ?stq10)
          case hiq10 => (simp only [List.getElem?_toArray, List.getElem?_cons_zero, List.getElem?_cons_succ]; rfl)
          go_simp
          obtain ⟨Yq8, hY⟩ : ∃ X, Yq42.alloc (.cells #[.slice none 0 0, .slice none 0 0] 35) = X := ⟨_, rfl⟩
          obtain ⟨px, hh⟩ : ∃ h, Yq42.heap.size = h := ⟨_, rfl⟩
          have hbb8 : Below Yq42.heap.size Yq42 Yq8 := by rw [← hY]; exact al1 _ _
          have HZpx : Hid (Yq8.heap[px]? = some (.cells #[.slice none 0 0, .slice none 0 0] 35)) := hid (by rw [← hY, ← hh]; exact heap_alloc_new _ _)
          have HPW : Hid (wr.heap.size ≤ px) := hid (by rw [← hh]; exact (below_both hB0 hbb42).size)
          rw [hY, hh]
          clear hY hh
          clear hHeld
          have hHeld := HK.out Yq8 (below_both hB0 (below_both hbb42 hbb8))
          refine hK.out _ _ (fun _ => hHeld) ?_
          clear hK K
          (try simp only [Act.put, List.setIfInBounds_toArray, List.set_cons_zero, List.set_cons_succ])
          refine' wpAnyT_one (i := 11) (o := ?oiq11) (by kernel_rfl) ?hiq11 (fun K hK => ?stq11)
          case hiq11 => (simp only [List.getElem?_toArray, List.getElem?_cons_zero, List.getElem?_cons_succ]; rfl)
          have hp15 := (((Below.refl _ _).block _ (box_lt HZpx.out)).trans HZpx.out)
          have p0 := cell_of_row _ _ 0 _ _ _ hp15
          have p1 := cell_of_row _ _ 1 _ _ _ hp15
          have fp0 := box_fr hp15 0
          have fp1 := box_fr hp15 1
          go_simp
          obtain ⟨YqN11, hY⟩ : ∃ X, (Yq8.setCell ⟨px, 0, none⟩ (.slice A9 n c9)).setCell ⟨px, 1, none⟩ (.slice B9 0 d9) = X := ⟨_, rfl⟩
          rw [hY]
          have HP15 : Hid (YqN11.heap[px]? = some (.cells #[.slice A9 n c9, .slice B9 0 d9] 35)) := hid (by rw [← hY]; exact disk_set hp15 _ _)
          have HO15 : Hid (OwnG YqN11 wr.heap.size st9 [] (.agg #[.slice A9 n c9, .slice B9 0 d9])) := hid (by rw [← hY]; exact (HG9.out.keep (keep_below hbb8) (keep_below hbb8) (Nat.le_refl _)).keep (keep_two hp15 (by decide)) (keep_two hp15 (by decide)) (Nat.le_refl _))
          have hbbnone11 : Below wr.heap.size wr YqN11 := by rw [← hY]; exact ((below_both hB0 (below_both hbb42 hbb8)).setCell HPW.out _).setCell HPW.out _
          clear hY hp15 p0 p1 fp0 fp1
          clear hHeld
          have hHeld := HK.out YqN11 hbbnone11
          refine hK.out _ _ (fun _ => hHeld) ?_
          clear hK K
          refine' wpAnyT_one (i := 12) (o := ?oiq12) (by kernel_rfl) ?hiq12 (fun K hK => ?stq12)
          case hiq12 => (simp only [List.getElem?_toArray, List.getElem?_cons_zero, List.getElem?_cons_succ]; rfl)
          go_simp
          refine hK.out _ _ (fun _ => hHeld) ?_
          clear hK K
          (try simp only [Act.put, List.setIfInBounds_toArray, List.set_cons_zero, List.set_cons_succ])
          refine' wpAnyT_one (i := 13) (o := ?oiq13) (by kernel_rfl) ?hiq13 (fun K hK => ?stq13)
          case hiq13 => (simp only [List.getElem?_toArray, List.getElem?_cons_zero, List.getElem?_cons_succ]; rfl)
          go_simp
          refine hK.out _ _ (fun h => absurd h (by decide)) ?_
          clear hK K
          (try simp only [Act.put, List.setIfInBounds_toArray, List.set_cons_zero, List.set_cons_succ])
          refine wpAnyT_done (by kernel_rfl) ?_ _
          exact HC.out YqN11 px A9 c9 B9 d9 ⟨hbbnone11, HPW.out, HP15.out, st9, HO15.out, HL9.out⟩
        · refine ⟨_, by (simp only [List.getElem?_toArray, List.getElem?_cons_zero, List.getElem?_cons_succ]; rfl), fun K hK => ?_⟩
          go_simp
          obtain ⟨Yq8, hY⟩ : ∃ X, X0.alloc (.cells #[.slice none 0 0, .slice none 0 0] 35) = X := ⟨_, rfl⟩
          obtain ⟨px, hh⟩ : ∃ h, X0.heap.size = h := ⟨_, rfl⟩
          have hbb8 : Below X0.heap.size X0 Yq8 := by rw [← hY]; exact al1 _ _
          have HZpx : Hid (Yq8.heap[px]? = some (.cells #[.slice none 0 0, .slice none 0 0] 35)) := hid (by rw [← hY, ← hh]; exact heap_alloc_new _ _)
          have HPW : Hid (wr.heap.size ≤ px) := hid (by rw [← hh]; exact hB0.size)
          rw [hY, hh]
          clear hY hh
          clear hHeld
          have hHeld := HK.out Yq8 (below_both hB0 hbb8)
          refine hK.out _ _ (fun _ => hHeld) ?_
          clear hK K
          (try simp only [Act.put, List.setIfInBounds_toArray, List.set_cons_zero, List.set_cons_succ])
          refine' wpAnyT_one (i := 5) (o := ?oiq14) (by kernel_rfl) ?hiq14 (fun K hK => ?stq14)
          case hiq14 => (simp only [List.getElem?_toArray, List.getElem?_cons_zero, List.getElem?_cons_succ]; rfl)
          go_simp
          go_at_call 22
          refine (HSTP.out Yq8 (below_both hB0 hbb8)).mono ?_
          rintro e Yq42 ⟨st9, A9, c9, B9, d9, rfl, hg9, hl9, hbb42⟩
          have HG9 := hid hg9
          have HL9 := hid hl9
          clear hg9 hl9
          clear hHeld
          have hHeld := HK.out Yq42 (below_both hB0 (below_both hbb8 hbb42))
          refine hK.out _ _ (fun _ => hHeld) ?_
          clear hK K
          (try simp only [Act.put, List.setIfInBounds_toArray, List.set_cons_zero, List.set_cons_succ])
          refine' wpAnyT_take (i := 6) (oi := ?oiq15) (v := ?vq15) ?hiq15 (by kernel_rfl) (by kernel_rfl) ?hqq15 ?hyq15 hHeld ?restq15
          case hiq15 => (simp only [List.getElem?_toArray, List.getElem?_cons_zero, List.getElem?_cons_succ]; rfl)
          case hqq15 => exact fun _ _ _ h => h
          case hyq15 => (refine Or.inl ⟨by rfl, ?_⟩; intro w' hSw; (try dsimp only at hSw); go_simp; try with_reducible rfl)
          (try simp only [Act.put, List.setIfInBounds_toArray, List.set_cons_zero, List.set_cons_succ])
          refine' wpAnyT_take (i := 7) (oi := ?oiq16) (v := ?vq16) ?hiq16 (by kernel_rfl) (by kernel_rfl) ?hqq16 ?hyq16 hHeld ?restq16
          case hiq16 => (simp only [List.getElem?_toArray, List.getElem?_cons_zero, List.getElem?_cons_succ]; rfl)
          case hqq16 => exact fun _ _ _ h => h
          case hyq16 => (refine Or.inl ⟨by rfl, ?_⟩; intro w' hSw; (try dsimp only at hSw); go_simp; try with_reducible rfl)
          (try simp only [Act.put, List.setIfInBounds_toArray, List.set_cons_zero, List.set_cons_succ])
          refine' wpAnyT_take (i := 8) (oi := ?oiq17) (v := ?vq17) ?hiq17 (by kernel_rfl) (by kernel_rfl) ?hqq17 ?hyq17 hHeld ?restq17
          case hiq17 => (simp only [List.getElem?_toArray, List.getElem?_cons_zero, List.getElem?_cons_succ]; rfl)
          case hqq17 => exact fun _ _ _ h => h
          case hyq17 => (refine Or.inl ⟨by rfl, ?_⟩; intro w' hSw; (try dsimp only at hSw); go_simp; try with_reducible rfl)
          (try simp only [Act.put, List.setIfInBounds_toArray, List.set_cons_zero, List.set_cons_succ])
          refine' wpAnyT_take (i := 9) (oi := ?oiq18) (v := ?vq18) ?hiq18 (by kernel_rfl) (by kernel_rfl) ?hqq18 ?hyq18 hHeld ?restq18
          case hiq18 => (simp only [List.getElem?_toArray, List.getElem?_cons_zero, List.getElem?_cons_succ]; rfl)
          case hqq18 => exact fun _ _ _ h => h
          case hyq18 => (refine Or.inl ⟨by rfl, ?_⟩; intro w' hSw; (try dsimp only at hSw); go_simp; try with_reducible rfl)
          (try simp only [Act.put, List.setIfInBounds_toArray, List.set_cons_zero, List.set_cons_succ])
          refine' wpAnyT_one (i := 11) (o := ?oiq19) (by kernel_rfl) ?hiq19 (fun K hK => ?stq19)
          case hiq19 => (simp only [List.getElem?_toArray, List.getElem?_cons_zero, List.getElem?_cons_succ]; rfl)
          have hp15 := ((hbb42.block _ (box_lt HZpx.out)).trans HZpx.out)
          have p0 := cell_of_row _ _ 0 _ _ _ hp15
          have p1 := cell_of_row _ _ 1 _ _ _ hp15
          have fp0 := box_fr hp15 0
          have fp1 := box_fr hp15 1
          go_simp
          obtain ⟨YqN11, hY⟩ : ∃ X, (Yq42.setCell ⟨px, 0, none⟩ (.slice A9 n c9)).setCell ⟨px, 1, none⟩ (.slice B9 0 d9) = X := ⟨_, rfl⟩
          rw [hY]
          have HP15 : Hid (YqN11.heap[px]? = some (.cells #[.slice A9 n c9, .slice B9 0 d9] 35)) := hid (by rw [← hY]; exact disk_set hp15 _ _)
          have HO15 : Hid (OwnG YqN11 wr.heap.size st9 [] (.agg #[.slice A9 n c9, .slice B9 0 d9])) := hid (by rw [← hY]; exact (HG9.out.keep (keep_below (Below.refl _ _)) (keep_below (Below.refl _ _)) (Nat.le_refl _)).keep (keep_two hp15 (by decide)) (keep_two hp15 (by decide)) (Nat.le_refl _))
          have hbbnone11 : Below wr.heap.size wr YqN11 := by rw [← hY]; exact ((below_both hB0 (below_both hbb8 hbb42)).setCell HPW.out _).setCell HPW.out _
          clear hY hp15 p0 p1 fp0 fp1
          clear hHeld
          have hHeld := HK.out YqN11 hbbnone11
          refine hK.out _ _ (fun _ => hHeld) ?_
          clear hK K
          refine' wpAnyT_one (i := 12) (o := ?oiq20) (by kernel_rfl) ?hiq20 (fun K hK => ?stq20)
          case hiq20 => (simp only [List.getElem?_toArray, List.getElem?_cons_zero, List.getElem?_cons_succ]; rfl)
          go_simp
          refine hK.out _ _ (fun _ => hHeld) ?_
          clear hK K
          (try simp only [Act.put, List.setIfInBounds_toArray, List.set_cons_zero, List.set_cons_succ])
          refine' wpAnyT_one (i := 13) (o := ?oiq21) (by kernel_rfl) ?hiq21 (fun K hK => ?stq21)
          case hiq21 => (simp only [List.getElem?_toArray, List.getElem?_cons_zero, List.getElem?_cons_succ]; rfl)
          go_simp
          refine hK.out _ _ (fun h => absurd h (by decide)) ?_
          clear hK K
          (try simp only [Act.put, List.setIfInBounds_toArray, List.set_cons_zero, List.set_cons_succ])
          refine wpAnyT_done (by kernel_rfl) ?_ _
          exact HC.out YqN11 px A9 c9 B9 d9 ⟨hbbnone11, HPW.out, HP15.out, st9, HO15.out, HL9.out⟩
      · rintro X px A9 c9 B9 d9 ⟨hbx, hpw, hpx, st9, hg9, hl9⟩
        have HBX := hid hbx
        have HPX := hid hpx
        have hsg := step_good (full := 2 ≤ k) (i := ii) (p := p) (q := q) (g := g) (st := st) (st' := st9) (by rw [HLEN.out]; exact HHI.out.1) HGOOD.out HFW.out HPV.out.1 (by have := HGRT.out; have := H12.out; omega) (by rw [HBBe.out, HSS.out]; exact hl9)
        obtain ⟨hgr9, ii9, p9, g9, hgood9, _⟩ := hsg
        have HGR9 : Hid (grt (supL st9) ≤ 1 + (i + 1)) := hid (by have := HGRT.out; omega)
        have HGOOD9 := hid hgood9
        have H9L : Hid (st9.length = n) := hid (by rw [hl9.len, HLEN.out])
        have HOUT9 : Hid (∀ j, ¬ (5 ≤ j ∧ j < 21) → st9[j]? = (C ++ List.replicate 30 zs)[j]?) := hid (fun j hj => by
          have h1 := HBBe.out
          have h2 := HGOOD.out.idx
          have h3 : S.length = 8 := by rw [← HSS.out]; exact secsN_len _ 8 _
          rw [← HOUT.out j hj]
          exact hl9.out j (by rw [h3]; omega))
        have HX6z := hid ((hbx.block _ (box_lt HX6.out)).trans HX6.out)
        have HG92 := hid hg9
        have HBZ : Hid (Below w.heap.size w X) := hid (HB.out.trans (hbx.mono HB.out.size))
        have HWSZ : Hid (w.heap.size ≤ wr.heap.size) := hid (HB.out.size)
        have hpx6 : px ≠ g6 := by
          have := box_lt HX6.out
          omega
        have hp6x := hpx6.symm
        have hs12 := H12.out
        have hq0 := cell_of_row _ _ 0 _ _ _ hpx
        have hq1 := cell_of_row _ _ 1 _ _ _ hpx
        have hs0 := cell_of_row _ _ 0 _ _ _ HX6z.out
        have hs1 := cell_of_row _ _ 1 _ _ _ HX6z.out
        have hf0 := box_fr HX6z.out 0
        have hf1 := box_fr HX6z.out 1
        have HXN : Hid (((X.setCell ⟨g6, 0, none⟩ (.slice A9 n c9)).setCell ⟨g6, 1, none⟩ (.slice B9 0 d9)).heap[g6]? = some (.cells #[.slice A9 n c9, .slice B9 0 d9] 35)) := hid (disk_set HX6z.out _ _)
        have HGN : Hid (OwnG ((X.setCell ⟨g6, 0, none⟩ (.slice A9 n c9)).setCell ⟨g6, 1, none⟩ (.slice B9 0 d9)) w.heap.size st9 [] (.agg #[.slice A9 n c9, .slice B9 0 d9])) := hid (HG92.out.keep (keep_two HX6z.out (by decide)) (keep_two HX6z.out (by decide)) HWSZ.out)
        have HBN : Hid (Below w.heap.size w ((X.setCell ⟨g6, 0, none⟩ (.slice A9 n c9)).setCell ⟨g6, 1, none⟩ (.slice B9 0 d9))) := hid ((HBZ.out.setCell (p := ⟨g6, 0, none⟩) HG6W.out _).setCell (p := ⟨g6, 1, none⟩) HG6W.out _)
        clear hbx hpw hpx hg9 hl9 hgr9 hgood9 HSTP HK
        go_wp2_with fail
        go_roundw
        case rel => exact ⟨i + 1, st9, A9, c9, B9, d9, ii9, p9, g9, by omega, by go_num, rfl, HOUT9, HXN, HGN, H9L, HGOOD9, HGR9, HBN⟩
        case measure => simp [Go.RowKit.intOf]; omega
    · obtain rfl : i = sn := by omega
      have dl : decide ((i : Int) < (i : Int)) = false := decide_eq_false (by omega)
      obtain ⟨wq, hwq⟩ : ∃ x, wr = x := ⟨_, rfl⟩
      rw [hwq] at HX6 HGD HB ⊢
      clear hwq
      have hN5 : n ≤ 60 := by have := HNL.out; have := HC30.out; omega
      go_upto_region 10 with fail
      clear dl
      go_loopw [11] (fun jv wr => ∃ j : Nat, j ≤ n ∧ jv = .int .i64 (j : Int) ∧ Hid (Below wq.heap.size wq wr)) (fun jv _ => n - (Go.RowKit.intOf jv).toNat)
      case atStart => exact ⟨0, Nat.zero_le _, rfl, hid (Below.refl _ _)⟩
      case round =>
        obtain ⟨j, hj, rfl, HBJ⟩ := hrel
        have hx6 := (HBJ.out.block _ (box_lt HX6.out)).trans HX6.out
        have HX6j := hid hx6
        have c6 := cell_of_row _ _ 0 _ _ _ hx6
        have HBW : Hid (Below w.heap.size w wr) := hid (HB.out.trans (HBJ.out.mono HB.out.size))
        by_cases hjn : j < n
        · have dj : decide ((j : Int) < (n : Int)) = true := decide_eq_true (by omega)
          have dj' : decide (j < n) = true := decide_eq_true hjn
          have hjn' : (j : Int) < (n : Int) := by omega
          have hgd := HGD.out.dk.below HBJ.out
          obtain ⟨sv1, cv1, e1, q1, q2, q3⟩ := hgd
          injection e1 with e1
          injection e1 with e1
          injection e1 with e1 e1'
          subst e1
          obtain ⟨b, off, hAv, hbl, hcell⟩ := arr_at1 q1.2 (by rw [List.length_map, HLEN.out]; omega)
          subst hAv
          obtain ⟨s, hs⟩ : ∃ s, st[j]? = some s := ⟨st[j]'(by rw [HLEN.out]; exact hjn), List.getElem?_eq_getElem _⟩
          have hs8 := q1.1 s (List.mem_of_getElem? hs)
          have hcs := fun (t : Nat) (u : Value) (hu : (cSec s)[t]? = some u) => hcell j _ (by rw [List.getElem?_map, hs]; rfl) t u hu
          have HOJ : Hid (¬ (5 ≤ j ∧ j < 21) → (C ++ List.replicate 30 zs)[j]? = some s) := hid (fun h => by rw [← HOUT.out j h, hs])
          obtain ⟨s0, s1, s2, s3, s4, s5, s6, s7, rfl⟩ := list8 hs8.1
          have HCS := hid hcs
          have HBL := hid hbl
          have HQ0 : Hid (∀ W, (Op.equalIn 10000 57 (.agg #[.int .u8 (s0 : Int), .int .u8 (s1 : Int), .int .u8 (s2 : Int), .int .u8 (s3 : Int), .int .u8 (s4 : Int), .int .u8 (s5 : Int), .int .u8 (s6 : Int), .int .u8 (s7 : Int)]) (.agg #[.int .u8 (s0 : Int), .int .u8 (s1 : Int), .int .u8 (s2 : Int), .int .u8 (s3 : Int), .int .u8 (s4 : Int), .int .u8 (s5 : Int), .int .u8 (s6 : Int), .int .u8 (s7 : Int)])).run Try.prog W = .ok true W) := hid (fun W => by
            have h := eql_sec [s0, s1, s2, s3, s4, s5, s6, s7] [s0, s1, s2, s3, s4, s5, s6, s7] rfl rfl hs8.2 hs8.2 W
            rw [decide_eq_true rfl] at h
            exact h)
          clear q1 q2 q3 hs hs8 hcs hcell hbl hx6
          obtain ⟨W1, hW1⟩ : ∃ X, wr.alloc (.cells ([0, 0, 0, 0, 0, 0, 0, 0].map byteV).toArray 57) = X := ⟨_, rfl⟩
          obtain ⟨p12, hp12⟩ : ∃ q, wr.heap.size = q := ⟨_, rfl⟩
          have hb1 : Below wr.heap.size wr W1 := by rw [← hW1]; exact al1 _ _
          have hx12 : W1.heap[p12]? = some (.cells ([0, 0, 0, 0, 0, 0, 0, 0].map byteV).toArray 57) := by rw [← hW1, ← hp12]; exact heap_alloc_new _ _
          have HW1z : Hid (wr.alloc (.cells #[.int .u8 0, .int .u8 0, .int .u8 0, .int .u8 0, .int .u8 0, .int .u8 0, .int .u8 0, .int .u8 0] 57) = W1) := hid hW1
          have HP12 := hid hp12
          have HB1 := hid hb1
          have HX12 := hid hx12
          have HPW : Hid (wr.heap.size ≤ p12) := hid (Nat.le_of_eq hp12)
          clear hW1 hp12 hb1 hx12
          go_upto_region 13 with fail
          rw [HW1z.out, HP12.out]
          clear c6 dj dj'
          by_cases hjc : j < cn
          · have dc : decide ((j : Int) < (cn : Int)) = true := decide_eq_true (by omega)
            have dc' : decide (j < cn) = true := decide_eq_true hjc
            have hjc' : (j : Int) < (cn : Int) := by omega
            have hcv := HV0.out.below (HBW.out.trans (HB1.out.mono HBW.out.size))
            obtain ⟨b2, off2, hAv, _, hcell⟩ := arr_at1 hcv.2 (by rw [List.length_map, HCN.out]; omega)
            subst hAv
            obtain ⟨z, hz⟩ : ∃ s, C[j]? = some s := ⟨C[j]'(by rw [HCN.out]; exact hjc), List.getElem?_eq_getElem _⟩
            have hz8 := hcv.1 z (List.mem_of_getElem? hz)
            have hcz := fun (t : Nat) (u : Value) (hu : (cSec z)[t]? = some u) => hcell j _ (by rw [List.getElem?_map, hz]; rfl) t u hu
            have HZE : Hid (¬ (5 ≤ j ∧ j < 21) → z = [s0, s1, s2, s3, s4, s5, s6, s7]) := hid (fun h => by
              have h1 := HOJ.out h
              rw [List.getElem?_append_left (by rw [HCN.out]; exact hjc), hz] at h1
              injection h1)
            obtain ⟨z0, z1, z2, z3, z4, z5, z6, z7, rfl⟩ := list8 hz8.1
            have k0 : W1.cell? ⟨b2, off2 + j * 8, none⟩ = some (.int .u8 (z0 : Int)) := hcz 0 _ rfl
            have k1 : W1.cell? ⟨b2, off2 + j * 8 + 1, none⟩ = some (.int .u8 (z1 : Int)) := hcz 1 _ rfl
            have k2 : W1.cell? ⟨b2, off2 + j * 8 + 2, none⟩ = some (.int .u8 (z2 : Int)) := hcz 2 _ rfl
            have k3 : W1.cell? ⟨b2, off2 + j * 8 + 3, none⟩ = some (.int .u8 (z3 : Int)) := hcz 3 _ rfl
            have k4 : W1.cell? ⟨b2, off2 + j * 8 + 4, none⟩ = some (.int .u8 (z4 : Int)) := hcz 4 _ rfl
            have k5 : W1.cell? ⟨b2, off2 + j * 8 + 5, none⟩ = some (.int .u8 (z5 : Int)) := hcz 5 _ rfl
            have k6 : W1.cell? ⟨b2, off2 + j * 8 + 6, none⟩ = some (.int .u8 (z6 : Int)) := hcz 6 _ rfl
            have k7 : W1.cell? ⟨b2, off2 + j * 8 + 7, none⟩ = some (.int .u8 (z7 : Int)) := hcz 7 _ rfl
            obtain ⟨W2, hr2, hx2, ho2, hbw2⟩ := set_row57 (cs := [z0, z1, z2, z3, z4, z5, z6, z7].map byteV) HX12.out rfl rfl (byteV_one _)
            have HR2 : Hid ((Instr.storeAt 57 (.pointer (some ⟨p12, 0, none⟩)) (.agg #[.int .u8 (z0 : Int), .int .u8 (z1 : Int), .int .u8 (z2 : Int), .int .u8 (z3 : Int), .int .u8 (z4 : Int), .int .u8 (z5 : Int), .int .u8 (z6 : Int), .int .u8 (z7 : Int)])).run Try.prog W1 = .ok () W2) := hid hr2
            have HX2 := hid hx2
            have HB2 : Hid (Below wr.heap.size wr W2) := hid (hbw2 _ _ HB1.out HPW.out)
            clear hcv hcell hz hz8 hcz hr2 hx2 ho2 hbw2
            go_upto_region 15 with (refine wpl_store rfl 57 (.tmp 12) (.tmp 66) rfl _ _ rfl rfl HR2.out ?_)
            clear k0 k1 k2 k3 k4 k5 k6 k7 dc dc'
            by_cases hins : 5 ≤ j ∧ j < 21
            · have g1 : decide ((j : Int) < 5) = false := decide_eq_false (by omega)
              have g1' : decide (j < 5) = false := decide_eq_false (by omega)
              have g2 : decide (21 ≤ (j : Int)) = false := decide_eq_false (by omega)
              have g2' : decide (21 ≤ j) = false := decide_eq_false (by omega)
              refine region_tail 13 (fun X => True) (by kernel_rfl) ?_
              obtain ⟨Y0, hY0⟩ : ∃ Y, W2.drew = Y := ⟨_, rfl⟩
              have hbY : Below W2.heap.size W2 Y0 := by rw [← hY0]; exact (Below.refl W2.heap.size W2).drew
              have HBY : Hid (Below wr.heap.size wr Y0) := hid (HB2.out.trans (hbY.mono HB2.out.size))
              have hHeld := trivial
              rw [hY0]
              clear hY0 hbY
              refine' wpAnyT_take (i := 0) (oi := ?oiea0) (v := ?vea0) ?hiea0 (by kernel_rfl) (by kernel_rfl) ?hqea0 ?hyea0 hHeld ?restea0
              case hiea0 => (simp only [List.getElem?_toArray, List.getElem?_cons_zero]; rfl)
              case hqea0 => exact fun _ _ _ h => h
              case hyea0 => (refine Or.inl ⟨by rfl, ?_⟩; intro w' hSw; (try dsimp only at hSw); go_simp; try with_reducible rfl)
              (try simp only [Act.put, List.setIfInBounds_toArray, List.set_cons_zero, List.set_cons_succ])
              refine' wpAnyT_take (i := 1) (oi := ?oiea1) (v := ?vea1) ?hiea1 (by kernel_rfl) (by kernel_rfl) ?hqea1 ?hyea1 hHeld ?restea1
              case hiea1 => (simp only [List.getElem?_toArray, List.getElem?_cons_zero, List.getElem?_cons_succ]; rfl)
              case hqea1 => exact fun _ _ _ h => h
              case hyea1 => (refine Or.inl ⟨by rfl, ?_⟩; intro w' hSw; (try dsimp only at hSw); go_simp; try with_reducible rfl)
              (try simp only [Act.put, List.setIfInBounds_toArray, List.set_cons_zero, List.set_cons_succ])
              refine' wpAnyT_take (i := 2) (oi := ?oiea2) (v := ?vea2) ?hiea2 (by kernel_rfl) (by kernel_rfl) ?hqea2 ?hyea2 hHeld ?restea2
              case hiea2 => (simp only [List.getElem?_toArray, List.getElem?_cons_zero, List.getElem?_cons_succ]; rfl)
              case hqea2 => exact fun _ _ _ h => h
              case hyea2 => (refine Or.inl ⟨by rfl, ?_⟩; intro w' hSw; (try dsimp only at hSw); go_simp; try with_reducible rfl)
              (try simp only [Act.put, List.setIfInBounds_toArray, List.set_cons_zero, List.set_cons_succ])
              refine' wpAnyT_take (i := 3) (oi := ?oiea3) (v := ?vea3) ?hiea3 (by kernel_rfl) (by kernel_rfl) ?hqea3 ?hyea3 hHeld ?restea3
              case hiea3 => (simp only [List.getElem?_toArray, List.getElem?_cons_zero, List.getElem?_cons_succ]; rfl)
              case hqea3 => exact fun _ _ _ h => h
              case hyea3 => (refine Or.inl ⟨by rfl, ?_⟩; intro w' hSw; (try dsimp only at hSw); go_simp; try with_reducible rfl)
              (try simp only [Act.put, List.setIfInBounds_toArray, List.set_cons_zero, List.set_cons_succ])
              refine' wpAnyT_take (i := 4) (oi := ?oiea4) (v := ?vea4) ?hiea4 (by kernel_rfl) (by kernel_rfl) ?hqea4 ?hyea4 hHeld ?restea4
              case hiea4 => (simp only [List.getElem?_toArray, List.getElem?_cons_zero, List.getElem?_cons_succ]; rfl)
              case hqea4 => exact fun _ _ _ h => h
              case hyea4 => (refine Or.inl ⟨by rfl, ?_⟩; intro w' hSw; (try dsimp only at hSw); go_simp; try with_reducible rfl)
              (try simp only [Act.put, List.setIfInBounds_toArray, List.set_cons_zero, List.set_cons_succ])
              refine' wpAnyT_take (i := 5) (oi := ?oiea5) (v := ?vea5) ?hiea5 (by kernel_rfl) (by kernel_rfl) ?hqea5 ?hyea5 hHeld ?restea5
              case hiea5 => (simp only [List.getElem?_toArray, List.getElem?_cons_zero, List.getElem?_cons_succ]; rfl)
              case hqea5 => exact fun _ _ _ h => h
              case hyea5 => (refine Or.inl ⟨by rfl, ?_⟩; intro w' hSw; (try dsimp only at hSw); go_simp; try with_reducible rfl)
              (try simp only [Act.put, List.setIfInBounds_toArray, List.set_cons_zero, List.set_cons_succ])
              refine' wpAnyT_take (i := 6) (oi := ?oiea6) (v := ?vea6) ?hiea6 (by kernel_rfl) (by kernel_rfl) ?hqea6 ?hyea6 hHeld ?restea6
              case hiea6 => (simp only [List.getElem?_toArray, List.getElem?_cons_zero, List.getElem?_cons_succ]; rfl)
              case hqea6 => exact fun _ _ _ h => h
              case hyea6 => (refine Or.inl ⟨by rfl, ?_⟩; intro w' hSw; (try dsimp only at hSw); go_simp; try with_reducible rfl)
              (try simp only [Act.put, List.setIfInBounds_toArray, List.set_cons_zero, List.set_cons_succ])
              refine' wpAnyT_take (i := 7) (oi := ?oiea7) (v := undef) ?hiea7 (by kernel_rfl) (by kernel_rfl) ?hqea7 ?hyea7 hHeld ?restea7
              case hiea7 => (simp only [List.getElem?_toArray, List.getElem?_cons_zero, List.getElem?_cons_succ]; rfl)
              case hqea7 => exact fun _ _ _ h => h
              case hyea7 => exact Or.inr ⟨by rfl, rfl⟩
              (try simp only [Act.put, List.setIfInBounds_toArray, List.set_cons_zero, List.set_cons_succ])
              refine' wpAnyT_take (i := 8) (oi := ?oiea8) (v := undef) ?hiea8 (by kernel_rfl) (by kernel_rfl) ?hqea8 ?hyea8 hHeld ?restea8
              case hiea8 => (simp only [List.getElem?_toArray, List.getElem?_cons_zero, List.getElem?_cons_succ]; rfl)
              case hqea8 => exact fun _ _ _ h => h
              case hyea8 => exact Or.inr ⟨by rfl, rfl⟩
              (try simp only [Act.put, List.setIfInBounds_toArray, List.set_cons_zero, List.set_cons_succ])
              refine' wpAnyT_take (i := 9) (oi := ?oiea9) (v := undef) ?hiea9 (by kernel_rfl) (by kernel_rfl) ?hqea9 ?hyea9 hHeld ?restea9
              case hiea9 => (simp only [List.getElem?_toArray, List.getElem?_cons_zero, List.getElem?_cons_succ]; rfl)
              case hqea9 => exact fun _ _ _ h => h
              case hyea9 => exact Or.inr ⟨by rfl, rfl⟩
              (try simp only [Act.put, List.setIfInBounds_toArray, List.set_cons_zero, List.set_cons_succ])
              refine' wpAnyT_take (i := 10) (oi := ?oiea10) (v := undef) ?hiea10 (by kernel_rfl) (by kernel_rfl) ?hqea10 ?hyea10 hHeld ?restea10
              case hiea10 => (simp only [List.getElem?_toArray, List.getElem?_cons_zero, List.getElem?_cons_succ]; rfl)
              case hqea10 => exact fun _ _ _ h => h
              case hyea10 => exact Or.inr ⟨by rfl, rfl⟩
              (try simp only [Act.put, List.setIfInBounds_toArray, List.set_cons_zero, List.set_cons_succ])
              refine' wpAnyT_take (i := 11) (oi := ?oiea11) (v := undef) ?hiea11 (by kernel_rfl) (by kernel_rfl) ?hqea11 ?hyea11 hHeld ?restea11
              case hiea11 => (simp only [List.getElem?_toArray, List.getElem?_cons_zero, List.getElem?_cons_succ]; rfl)
              case hqea11 => exact fun _ _ _ h => h
              case hyea11 => exact Or.inr ⟨by rfl, rfl⟩
              (try simp only [Act.put, List.setIfInBounds_toArray, List.set_cons_zero, List.set_cons_succ])
              refine' wpAnyT_take (i := 12) (oi := ?oiea12) (v := undef) ?hiea12 (by kernel_rfl) (by kernel_rfl) ?hqea12 ?hyea12 hHeld ?restea12
              case hiea12 => (simp only [List.getElem?_toArray, List.getElem?_cons_zero, List.getElem?_cons_succ]; rfl)
              case hqea12 => exact fun _ _ _ h => h
              case hyea12 => exact Or.inr ⟨by rfl, rfl⟩
              (try simp only [Act.put, List.setIfInBounds_toArray, List.set_cons_zero, List.set_cons_succ])
              refine' wpAnyT_one (i := 13) (o := ?oiea13) (by kernel_rfl) ?hiea13 (fun K hK => ?stea13)
              case hiea13 => (simp only [List.getElem?_toArray, List.getElem?_cons_zero, List.getElem?_cons_succ]; rfl)
              go_simp
              refine hK.out _ _ (fun h => absurd h (by decide)) ?_
              clear hK K
              (try simp only [Act.put, List.setIfInBounds_toArray, List.set_cons_zero, List.set_cons_succ])
              refine' wpAnyT_one (i := 14) (o := ?oiea14) (by kernel_rfl) ?hiea14 (fun K hK => ?stea14)
              case hiea14 => (simp only [List.getElem?_toArray, List.getElem?_cons_zero, List.getElem?_cons_succ]; rfl)
              go_simp
              refine hK.out _ _ (fun h => absurd h (by decide)) ?_
              clear hK K
              (try simp only [Act.put, List.setIfInBounds_toArray, List.set_cons_zero, List.set_cons_succ])
              refine wpAnyT_done (by kernel_rfl) ?_ _
              go_wp2_with fail
              go_roundw
              case rel => exact ⟨j + 1, by omega, by go_num, hid (HBJ.out.trans (HBY.out.mono HBJ.out.size))⟩
              case measure => simp [Go.RowKit.intOf]; omega
            · have hzz := HZE.out hins
              have HX2 := HX2
              rw [hzz] at HX2
              by_cases h5 : j < 5
              · have g1 : decide ((j : Int) < 5) = true := decide_eq_true (by omega)
                have g1' : decide (j < 5) = true := decide_eq_true h5
                refine region_tail 13 (fun X => X.cell? ⟨g6, 0, none⟩ = some (.slice (some ⟨b, off, none⟩) n c) ∧ X.cell? ⟨b, off + j * 8, none⟩ = some (.int .u8 (s0 : Int)) ∧ X.cell? ⟨b, off + j * 8 + 1, none⟩ = some (.int .u8 (s1 : Int)) ∧ X.cell? ⟨b, off + j * 8 + 2, none⟩ = some (.int .u8 (s2 : Int)) ∧ X.cell? ⟨b, off + j * 8 + 3, none⟩ = some (.int .u8 (s3 : Int)) ∧ X.cell? ⟨b, off + j * 8 + 4, none⟩ = some (.int .u8 (s4 : Int)) ∧ X.cell? ⟨b, off + j * 8 + 5, none⟩ = some (.int .u8 (s5 : Int)) ∧ X.cell? ⟨b, off + j * 8 + 6, none⟩ = some (.int .u8 (s6 : Int)) ∧ X.cell? ⟨b, off + j * 8 + 7, none⟩ = some (.int .u8 (s7 : Int)) ∧ X.cell? ⟨p12, 0, none⟩ = some (.int .u8 (s0 : Int)) ∧ X.cell? ⟨p12, 1, none⟩ = some (.int .u8 (s1 : Int)) ∧ X.cell? ⟨p12, 2, none⟩ = some (.int .u8 (s2 : Int)) ∧ X.cell? ⟨p12, 3, none⟩ = some (.int .u8 (s3 : Int)) ∧ X.cell? ⟨p12, 4, none⟩ = some (.int .u8 (s4 : Int)) ∧ X.cell? ⟨p12, 5, none⟩ = some (.int .u8 (s5 : Int)) ∧ X.cell? ⟨p12, 6, none⟩ = some (.int .u8 (s6 : Int)) ∧ X.cell? ⟨p12, 7, none⟩ = some (.int .u8 (s7 : Int))) (by kernel_rfl) ?_
                obtain ⟨Y0, hY0⟩ : ∃ Y, W2.drew = Y := ⟨_, rfl⟩
                have hbY : Below W2.heap.size W2 Y0 := by rw [← hY0]; exact (Below.refl W2.heap.size W2).drew
                have HBY : Hid (Below wr.heap.size wr Y0) := hid (HB2.out.trans (hbY.mono HB2.out.size))
                have hx6y := (HBY.out.block _ (box_lt HX6j.out)).trans HX6j.out
                have hx12y := (hbY.block _ (box_lt HX2.out)).trans HX2.out
                have hq0 := HQ0.out
                have hHeld : Y0.cell? ⟨g6, 0, none⟩ = some (.slice (some ⟨b, off, none⟩) n c) ∧ Y0.cell? ⟨b, off + j * 8, none⟩ = some (.int .u8 (s0 : Int)) ∧ Y0.cell? ⟨b, off + j * 8 + 1, none⟩ = some (.int .u8 (s1 : Int)) ∧ Y0.cell? ⟨b, off + j * 8 + 2, none⟩ = some (.int .u8 (s2 : Int)) ∧ Y0.cell? ⟨b, off + j * 8 + 3, none⟩ = some (.int .u8 (s3 : Int)) ∧ Y0.cell? ⟨b, off + j * 8 + 4, none⟩ = some (.int .u8 (s4 : Int)) ∧ Y0.cell? ⟨b, off + j * 8 + 5, none⟩ = some (.int .u8 (s5 : Int)) ∧ Y0.cell? ⟨b, off + j * 8 + 6, none⟩ = some (.int .u8 (s6 : Int)) ∧ Y0.cell? ⟨b, off + j * 8 + 7, none⟩ = some (.int .u8 (s7 : Int)) ∧ Y0.cell? ⟨p12, 0, none⟩ = some (.int .u8 (s0 : Int)) ∧ Y0.cell? ⟨p12, 1, none⟩ = some (.int .u8 (s1 : Int)) ∧ Y0.cell? ⟨p12, 2, none⟩ = some (.int .u8 (s2 : Int)) ∧ Y0.cell? ⟨p12, 3, none⟩ = some (.int .u8 (s3 : Int)) ∧ Y0.cell? ⟨p12, 4, none⟩ = some (.int .u8 (s4 : Int)) ∧ Y0.cell? ⟨p12, 5, none⟩ = some (.int .u8 (s5 : Int)) ∧ Y0.cell? ⟨p12, 6, none⟩ = some (.int .u8 (s6 : Int)) ∧ Y0.cell? ⟨p12, 7, none⟩ = some (.int .u8 (s7 : Int)) := ⟨cell_of_row _ _ 0 _ _ _ hx6y, (HBY.out.cell (p := ⟨b, _, none⟩) HBL.out).trans (HCS.out 0 _ rfl), (HBY.out.cell (p := ⟨b, _, none⟩) HBL.out).trans (HCS.out 1 _ rfl), (HBY.out.cell (p := ⟨b, _, none⟩) HBL.out).trans (HCS.out 2 _ rfl), (HBY.out.cell (p := ⟨b, _, none⟩) HBL.out).trans (HCS.out 3 _ rfl), (HBY.out.cell (p := ⟨b, _, none⟩) HBL.out).trans (HCS.out 4 _ rfl), (HBY.out.cell (p := ⟨b, _, none⟩) HBL.out).trans (HCS.out 5 _ rfl), (HBY.out.cell (p := ⟨b, _, none⟩) HBL.out).trans (HCS.out 6 _ rfl), (HBY.out.cell (p := ⟨b, _, none⟩) HBL.out).trans (HCS.out 7 _ rfl), cell_of_row _ _ 0 _ _ _ hx12y, cell_of_row _ _ 1 _ _ _ hx12y, cell_of_row _ _ 2 _ _ _ hx12y, cell_of_row _ _ 3 _ _ _ hx12y, cell_of_row _ _ 4 _ _ _ hx12y, cell_of_row _ _ 5 _ _ _ hx12y, cell_of_row _ _ 6 _ _ _ hx12y, cell_of_row _ _ 7 _ _ _ hx12y⟩
                clear hx6y hx12y
                rw [hY0]
                clear hY0 hbY
                refine' wpAnyT_take (i := 0) (oi := ?oieb0) (v := ?veb0) ?hieb0 (by kernel_rfl) (by kernel_rfl) ?hqeb0 ?hyeb0 hHeld ?resteb0
                case hieb0 => (simp only [List.getElem?_toArray, List.getElem?_cons_zero]; rfl)
                case hqeb0 => exact fun _ _ _ h => h
                case hyeb0 => (refine Or.inl ⟨by rfl, ?_⟩; intro w' hSw; (try dsimp only at hSw); go_simp; try with_reducible rfl)
                (try simp only [Act.put, List.setIfInBounds_toArray, List.set_cons_zero, List.set_cons_succ])
                refine' wpAnyT_take (i := 1) (oi := ?oieb1) (v := ?veb1) ?hieb1 (by kernel_rfl) (by kernel_rfl) ?hqeb1 ?hyeb1 hHeld ?resteb1
                case hieb1 => (simp only [List.getElem?_toArray, List.getElem?_cons_zero, List.getElem?_cons_succ]; rfl)
                case hqeb1 => exact fun _ _ _ h => h
                case hyeb1 => (refine Or.inl ⟨by rfl, ?_⟩; intro w' hSw; (try dsimp only at hSw); go_simp; try with_reducible rfl)
                (try simp only [Act.put, List.setIfInBounds_toArray, List.set_cons_zero, List.set_cons_succ])
                refine' wpAnyT_take (i := 2) (oi := ?oieb2) (v := ?veb2) ?hieb2 (by kernel_rfl) (by kernel_rfl) ?hqeb2 ?hyeb2 hHeld ?resteb2
                case hieb2 => (simp only [List.getElem?_toArray, List.getElem?_cons_zero, List.getElem?_cons_succ]; rfl)
                case hqeb2 => exact fun _ _ _ h => h
                case hyeb2 => (refine Or.inl ⟨by rfl, ?_⟩; intro w' hSw; (try dsimp only at hSw); go_simp; try with_reducible rfl)
                (try simp only [Act.put, List.setIfInBounds_toArray, List.set_cons_zero, List.set_cons_succ])
                refine' wpAnyT_take (i := 3) (oi := ?oieb3) (v := undef) ?hieb3 (by kernel_rfl) (by kernel_rfl) ?hqeb3 ?hyeb3 hHeld ?resteb3
                case hieb3 => (simp only [List.getElem?_toArray, List.getElem?_cons_zero, List.getElem?_cons_succ]; rfl)
                case hqeb3 => exact fun _ _ _ h => h
                case hyeb3 => exact Or.inr ⟨by rfl, rfl⟩
                (try simp only [Act.put, List.setIfInBounds_toArray, List.set_cons_zero, List.set_cons_succ])
                refine' wpAnyT_take (i := 4) (oi := ?oieb4) (v := undef) ?hieb4 (by kernel_rfl) (by kernel_rfl) ?hqeb4 ?hyeb4 hHeld ?resteb4
                case hieb4 => (simp only [List.getElem?_toArray, List.getElem?_cons_zero, List.getElem?_cons_succ]; rfl)
                case hqeb4 => exact fun _ _ _ h => h
                case hyeb4 => exact Or.inr ⟨by rfl, rfl⟩
                (try simp only [Act.put, List.setIfInBounds_toArray, List.set_cons_zero, List.set_cons_succ])
                refine' wpAnyT_take (i := 5) (oi := ?oieb5) (v := ?veb5) ?hieb5 (by kernel_rfl) (by kernel_rfl) ?hqeb5 ?hyeb5 hHeld ?resteb5
                case hieb5 => (simp only [List.getElem?_toArray, List.getElem?_cons_zero, List.getElem?_cons_succ]; rfl)
                case hqeb5 => exact fun _ _ _ h => h
                case hyeb5 => (refine Or.inl ⟨by rfl, ?_⟩; intro w' hSw; (try dsimp only at hSw); go_simp; try with_reducible rfl)
                (try simp only [Act.put, List.setIfInBounds_toArray, List.set_cons_zero, List.set_cons_succ])
                refine' wpAnyT_take (i := 6) (oi := ?oieb6) (v := ?veb6) ?hieb6 (by kernel_rfl) (by kernel_rfl) ?hqeb6 ?hyeb6 hHeld ?resteb6
                case hieb6 => (simp only [List.getElem?_toArray, List.getElem?_cons_zero, List.getElem?_cons_succ]; rfl)
                case hqeb6 => exact fun _ _ _ h => h
                case hyeb6 => (refine Or.inl ⟨by rfl, ?_⟩; intro w' hSw; (try dsimp only at hSw); go_simp; try with_reducible rfl)
                (try simp only [Act.put, List.setIfInBounds_toArray, List.set_cons_zero, List.set_cons_succ])
                refine' wpAnyT_take (i := 7) (oi := ?oieb7) (v := ?veb7) ?hieb7 (by kernel_rfl) (by kernel_rfl) ?hqeb7 ?hyeb7 hHeld ?resteb7
                case hieb7 => (simp only [List.getElem?_toArray, List.getElem?_cons_zero, List.getElem?_cons_succ]; rfl)
                case hqeb7 => exact fun _ _ _ h => h
                case hyeb7 => (refine Or.inl ⟨by rfl, ?_⟩; intro w' hSw; (try dsimp only at hSw); go_simp; try with_reducible rfl)
                (try simp only [Act.put, List.setIfInBounds_toArray, List.set_cons_zero, List.set_cons_succ])
                refine' wpAnyT_take (i := 8) (oi := ?oieb8) (v := ?veb8) ?hieb8 (by kernel_rfl) (by kernel_rfl) ?hqeb8 ?hyeb8 hHeld ?resteb8
                case hieb8 => (simp only [List.getElem?_toArray, List.getElem?_cons_zero, List.getElem?_cons_succ]; rfl)
                case hqeb8 => exact fun _ _ _ h => h
                case hyeb8 => (refine Or.inl ⟨by rfl, ?_⟩; intro w' hSw; (try dsimp only at hSw); go_simp; try with_reducible rfl)
                (try simp only [Act.put, List.setIfInBounds_toArray, List.set_cons_zero, List.set_cons_succ])
                refine' wpAnyT_take (i := 9) (oi := ?oieb9) (v := ?veb9) ?hieb9 (by kernel_rfl) (by kernel_rfl) ?hqeb9 ?hyeb9 hHeld ?resteb9
                case hieb9 => (simp only [List.getElem?_toArray, List.getElem?_cons_zero, List.getElem?_cons_succ]; rfl)
                case hqeb9 => exact fun _ _ _ h => h
                case hyeb9 => (refine Or.inl ⟨by rfl, ?_⟩; intro w' hSw; (try dsimp only at hSw); go_simp; try with_reducible rfl)
                (try simp only [Act.put, List.setIfInBounds_toArray, List.set_cons_zero, List.set_cons_succ])
                refine' wpAnyT_take (i := 10) (oi := ?oieb10) (v := ?veb10) ?hieb10 (by kernel_rfl) (by kernel_rfl) ?hqeb10 ?hyeb10 hHeld ?resteb10
                case hieb10 => (simp only [List.getElem?_toArray, List.getElem?_cons_zero, List.getElem?_cons_succ]; rfl)
                case hqeb10 => exact fun _ _ _ h => h
                case hyeb10 => (refine Or.inl ⟨by rfl, ?_⟩; intro w' hSw; (try dsimp only at hSw); go_simp; try with_reducible rfl)
                (try simp only [Act.put, List.setIfInBounds_toArray, List.set_cons_zero, List.set_cons_succ])
                refine' wpAnyT_take (i := 11) (oi := ?oieb11) (v := ?veb11) ?hieb11 (by kernel_rfl) (by kernel_rfl) ?hqeb11 ?hyeb11 hHeld ?resteb11
                case hieb11 => (simp only [List.getElem?_toArray, List.getElem?_cons_zero, List.getElem?_cons_succ]; rfl)
                case hqeb11 => exact fun _ _ _ h => h
                case hyeb11 => (refine Or.inl ⟨by rfl, ?_⟩; intro w' hSw; (try dsimp only at hSw); go_simp; try with_reducible rfl)
                (try simp only [Act.put, List.setIfInBounds_toArray, List.set_cons_zero, List.set_cons_succ])
                refine' wpAnyT_take (i := 12) (oi := ?oieb12) (v := ?veb12) ?hieb12 (by kernel_rfl) (by kernel_rfl) ?hqeb12 ?hyeb12 hHeld ?resteb12
                case hieb12 => (simp only [List.getElem?_toArray, List.getElem?_cons_zero, List.getElem?_cons_succ]; rfl)
                case hqeb12 => exact fun _ _ _ h => h
                case hyeb12 => (refine Or.inl ⟨by rfl, ?_⟩; intro w' hSw; (try dsimp only at hSw); go_simp; try with_reducible rfl)
                (try simp only [Act.put, List.setIfInBounds_toArray, List.set_cons_zero, List.set_cons_succ])
                refine' wpAnyT_one (i := 13) (o := ?oieb13) (by kernel_rfl) ?hieb13 (fun K hK => ?steb13)
                case hieb13 => (simp only [List.getElem?_toArray, List.getElem?_cons_zero, List.getElem?_cons_succ]; rfl)
                go_simp
                refine hK.out _ _ (fun h => absurd h (by decide)) ?_
                clear hK K
                (try simp only [Act.put, List.setIfInBounds_toArray, List.set_cons_zero, List.set_cons_succ])
                refine' wpAnyT_one (i := 14) (o := ?oieb14) (by kernel_rfl) ?hieb14 (fun K hK => ?steb14)
                case hieb14 => (simp only [List.getElem?_toArray, List.getElem?_cons_zero, List.getElem?_cons_succ]; rfl)
                go_simp
                refine hK.out _ _ (fun h => absurd h (by decide)) ?_
                clear hK K
                (try simp only [Act.put, List.setIfInBounds_toArray, List.set_cons_zero, List.set_cons_succ])
                refine wpAnyT_done (by kernel_rfl) ?_ _
                go_wp2_with fail
                go_roundw
                case rel => exact ⟨j + 1, by omega, by go_num, hid (HBJ.out.trans (HBY.out.mono HBJ.out.size))⟩
                case measure => simp [Go.RowKit.intOf]; omega
              · have g1 : decide ((j : Int) < 5) = false := decide_eq_false (by omega)
                have g1' : decide (j < 5) = false := decide_eq_false h5
                have g2 : decide (21 ≤ (j : Int)) = true := decide_eq_true (by omega)
                have g2' : decide (21 ≤ j) = true := decide_eq_true (by omega)
                refine region_tail 13 (fun X => X.cell? ⟨g6, 0, none⟩ = some (.slice (some ⟨b, off, none⟩) n c) ∧ X.cell? ⟨b, off + j * 8, none⟩ = some (.int .u8 (s0 : Int)) ∧ X.cell? ⟨b, off + j * 8 + 1, none⟩ = some (.int .u8 (s1 : Int)) ∧ X.cell? ⟨b, off + j * 8 + 2, none⟩ = some (.int .u8 (s2 : Int)) ∧ X.cell? ⟨b, off + j * 8 + 3, none⟩ = some (.int .u8 (s3 : Int)) ∧ X.cell? ⟨b, off + j * 8 + 4, none⟩ = some (.int .u8 (s4 : Int)) ∧ X.cell? ⟨b, off + j * 8 + 5, none⟩ = some (.int .u8 (s5 : Int)) ∧ X.cell? ⟨b, off + j * 8 + 6, none⟩ = some (.int .u8 (s6 : Int)) ∧ X.cell? ⟨b, off + j * 8 + 7, none⟩ = some (.int .u8 (s7 : Int)) ∧ X.cell? ⟨p12, 0, none⟩ = some (.int .u8 (s0 : Int)) ∧ X.cell? ⟨p12, 1, none⟩ = some (.int .u8 (s1 : Int)) ∧ X.cell? ⟨p12, 2, none⟩ = some (.int .u8 (s2 : Int)) ∧ X.cell? ⟨p12, 3, none⟩ = some (.int .u8 (s3 : Int)) ∧ X.cell? ⟨p12, 4, none⟩ = some (.int .u8 (s4 : Int)) ∧ X.cell? ⟨p12, 5, none⟩ = some (.int .u8 (s5 : Int)) ∧ X.cell? ⟨p12, 6, none⟩ = some (.int .u8 (s6 : Int)) ∧ X.cell? ⟨p12, 7, none⟩ = some (.int .u8 (s7 : Int))) (by kernel_rfl) ?_
                obtain ⟨Y0, hY0⟩ : ∃ Y, W2.drew = Y := ⟨_, rfl⟩
                have hbY : Below W2.heap.size W2 Y0 := by rw [← hY0]; exact (Below.refl W2.heap.size W2).drew
                have HBY : Hid (Below wr.heap.size wr Y0) := hid (HB2.out.trans (hbY.mono HB2.out.size))
                have hx6y := (HBY.out.block _ (box_lt HX6j.out)).trans HX6j.out
                have hx12y := (hbY.block _ (box_lt HX2.out)).trans HX2.out
                have hq0 := HQ0.out
                have hHeld : Y0.cell? ⟨g6, 0, none⟩ = some (.slice (some ⟨b, off, none⟩) n c) ∧ Y0.cell? ⟨b, off + j * 8, none⟩ = some (.int .u8 (s0 : Int)) ∧ Y0.cell? ⟨b, off + j * 8 + 1, none⟩ = some (.int .u8 (s1 : Int)) ∧ Y0.cell? ⟨b, off + j * 8 + 2, none⟩ = some (.int .u8 (s2 : Int)) ∧ Y0.cell? ⟨b, off + j * 8 + 3, none⟩ = some (.int .u8 (s3 : Int)) ∧ Y0.cell? ⟨b, off + j * 8 + 4, none⟩ = some (.int .u8 (s4 : Int)) ∧ Y0.cell? ⟨b, off + j * 8 + 5, none⟩ = some (.int .u8 (s5 : Int)) ∧ Y0.cell? ⟨b, off + j * 8 + 6, none⟩ = some (.int .u8 (s6 : Int)) ∧ Y0.cell? ⟨b, off + j * 8 + 7, none⟩ = some (.int .u8 (s7 : Int)) ∧ Y0.cell? ⟨p12, 0, none⟩ = some (.int .u8 (s0 : Int)) ∧ Y0.cell? ⟨p12, 1, none⟩ = some (.int .u8 (s1 : Int)) ∧ Y0.cell? ⟨p12, 2, none⟩ = some (.int .u8 (s2 : Int)) ∧ Y0.cell? ⟨p12, 3, none⟩ = some (.int .u8 (s3 : Int)) ∧ Y0.cell? ⟨p12, 4, none⟩ = some (.int .u8 (s4 : Int)) ∧ Y0.cell? ⟨p12, 5, none⟩ = some (.int .u8 (s5 : Int)) ∧ Y0.cell? ⟨p12, 6, none⟩ = some (.int .u8 (s6 : Int)) ∧ Y0.cell? ⟨p12, 7, none⟩ = some (.int .u8 (s7 : Int)) := ⟨cell_of_row _ _ 0 _ _ _ hx6y, (HBY.out.cell (p := ⟨b, _, none⟩) HBL.out).trans (HCS.out 0 _ rfl), (HBY.out.cell (p := ⟨b, _, none⟩) HBL.out).trans (HCS.out 1 _ rfl), (HBY.out.cell (p := ⟨b, _, none⟩) HBL.out).trans (HCS.out 2 _ rfl), (HBY.out.cell (p := ⟨b, _, none⟩) HBL.out).trans (HCS.out 3 _ rfl), (HBY.out.cell (p := ⟨b, _, none⟩) HBL.out).trans (HCS.out 4 _ rfl), (HBY.out.cell (p := ⟨b, _, none⟩) HBL.out).trans (HCS.out 5 _ rfl), (HBY.out.cell (p := ⟨b, _, none⟩) HBL.out).trans (HCS.out 6 _ rfl), (HBY.out.cell (p := ⟨b, _, none⟩) HBL.out).trans (HCS.out 7 _ rfl), cell_of_row _ _ 0 _ _ _ hx12y, cell_of_row _ _ 1 _ _ _ hx12y, cell_of_row _ _ 2 _ _ _ hx12y, cell_of_row _ _ 3 _ _ _ hx12y, cell_of_row _ _ 4 _ _ _ hx12y, cell_of_row _ _ 5 _ _ _ hx12y, cell_of_row _ _ 6 _ _ _ hx12y, cell_of_row _ _ 7 _ _ _ hx12y⟩
                clear hx6y hx12y
                rw [hY0]
                clear hY0 hbY
                refine' wpAnyT_take (i := 0) (oi := ?oiec0) (v := ?vec0) ?hiec0 (by kernel_rfl) (by kernel_rfl) ?hqec0 ?hyec0 hHeld ?restec0
                case hiec0 => (simp only [List.getElem?_toArray, List.getElem?_cons_zero]; rfl)
                case hqec0 => exact fun _ _ _ h => h
                case hyec0 => (refine Or.inl ⟨by rfl, ?_⟩; intro w' hSw; (try dsimp only at hSw); go_simp; try with_reducible rfl)
                (try simp only [Act.put, List.setIfInBounds_toArray, List.set_cons_zero, List.set_cons_succ])
                refine' wpAnyT_take (i := 1) (oi := ?oiec1) (v := ?vec1) ?hiec1 (by kernel_rfl) (by kernel_rfl) ?hqec1 ?hyec1 hHeld ?restec1
                case hiec1 => (simp only [List.getElem?_toArray, List.getElem?_cons_zero, List.getElem?_cons_succ]; rfl)
                case hqec1 => exact fun _ _ _ h => h
                case hyec1 => (refine Or.inl ⟨by rfl, ?_⟩; intro w' hSw; (try dsimp only at hSw); go_simp; try with_reducible rfl)
                (try simp only [Act.put, List.setIfInBounds_toArray, List.set_cons_zero, List.set_cons_succ])
                refine' wpAnyT_take (i := 2) (oi := ?oiec2) (v := ?vec2) ?hiec2 (by kernel_rfl) (by kernel_rfl) ?hqec2 ?hyec2 hHeld ?restec2
                case hiec2 => (simp only [List.getElem?_toArray, List.getElem?_cons_zero, List.getElem?_cons_succ]; rfl)
                case hqec2 => exact fun _ _ _ h => h
                case hyec2 => (refine Or.inl ⟨by rfl, ?_⟩; intro w' hSw; (try dsimp only at hSw); go_simp; try with_reducible rfl)
                (try simp only [Act.put, List.setIfInBounds_toArray, List.set_cons_zero, List.set_cons_succ])
                refine' wpAnyT_take (i := 3) (oi := ?oiec3) (v := ?vec3) ?hiec3 (by kernel_rfl) (by kernel_rfl) ?hqec3 ?hyec3 hHeld ?restec3
                case hiec3 => (simp only [List.getElem?_toArray, List.getElem?_cons_zero, List.getElem?_cons_succ]; rfl)
                case hqec3 => exact fun _ _ _ h => h
                case hyec3 => (refine Or.inl ⟨by rfl, ?_⟩; intro w' hSw; (try dsimp only at hSw); go_simp; try with_reducible rfl)
                (try simp only [Act.put, List.setIfInBounds_toArray, List.set_cons_zero, List.set_cons_succ])
                refine' wpAnyT_take (i := 4) (oi := ?oiec4) (v := ?vec4) ?hiec4 (by kernel_rfl) (by kernel_rfl) ?hqec4 ?hyec4 hHeld ?restec4
                case hiec4 => (simp only [List.getElem?_toArray, List.getElem?_cons_zero, List.getElem?_cons_succ]; rfl)
                case hqec4 => exact fun _ _ _ h => h
                case hyec4 => (refine Or.inl ⟨by rfl, ?_⟩; intro w' hSw; (try dsimp only at hSw); go_simp; try with_reducible rfl)
                (try simp only [Act.put, List.setIfInBounds_toArray, List.set_cons_zero, List.set_cons_succ])
                refine' wpAnyT_take (i := 5) (oi := ?oiec5) (v := ?vec5) ?hiec5 (by kernel_rfl) (by kernel_rfl) ?hqec5 ?hyec5 hHeld ?restec5
                case hiec5 => (simp only [List.getElem?_toArray, List.getElem?_cons_zero, List.getElem?_cons_succ]; rfl)
                case hqec5 => exact fun _ _ _ h => h
                case hyec5 => (refine Or.inl ⟨by rfl, ?_⟩; intro w' hSw; (try dsimp only at hSw); go_simp; try with_reducible rfl)
                (try simp only [Act.put, List.setIfInBounds_toArray, List.set_cons_zero, List.set_cons_succ])
                refine' wpAnyT_take (i := 6) (oi := ?oiec6) (v := ?vec6) ?hiec6 (by kernel_rfl) (by kernel_rfl) ?hqec6 ?hyec6 hHeld ?restec6
                case hiec6 => (simp only [List.getElem?_toArray, List.getElem?_cons_zero, List.getElem?_cons_succ]; rfl)
                case hqec6 => exact fun _ _ _ h => h
                case hyec6 => (refine Or.inl ⟨by rfl, ?_⟩; intro w' hSw; (try dsimp only at hSw); go_simp; try with_reducible rfl)
                (try simp only [Act.put, List.setIfInBounds_toArray, List.set_cons_zero, List.set_cons_succ])
                refine' wpAnyT_take (i := 7) (oi := ?oiec7) (v := ?vec7) ?hiec7 (by kernel_rfl) (by kernel_rfl) ?hqec7 ?hyec7 hHeld ?restec7
                case hiec7 => (simp only [List.getElem?_toArray, List.getElem?_cons_zero, List.getElem?_cons_succ]; rfl)
                case hqec7 => exact fun _ _ _ h => h
                case hyec7 => (refine Or.inl ⟨by rfl, ?_⟩; intro w' hSw; (try dsimp only at hSw); go_simp; try with_reducible rfl)
                (try simp only [Act.put, List.setIfInBounds_toArray, List.set_cons_zero, List.set_cons_succ])
                refine' wpAnyT_take (i := 8) (oi := ?oiec8) (v := ?vec8) ?hiec8 (by kernel_rfl) (by kernel_rfl) ?hqec8 ?hyec8 hHeld ?restec8
                case hiec8 => (simp only [List.getElem?_toArray, List.getElem?_cons_zero, List.getElem?_cons_succ]; rfl)
                case hqec8 => exact fun _ _ _ h => h
                case hyec8 => (refine Or.inl ⟨by rfl, ?_⟩; intro w' hSw; (try dsimp only at hSw); go_simp; try with_reducible rfl)
                (try simp only [Act.put, List.setIfInBounds_toArray, List.set_cons_zero, List.set_cons_succ])
                refine' wpAnyT_take (i := 9) (oi := ?oiec9) (v := ?vec9) ?hiec9 (by kernel_rfl) (by kernel_rfl) ?hqec9 ?hyec9 hHeld ?restec9
                case hiec9 => (simp only [List.getElem?_toArray, List.getElem?_cons_zero, List.getElem?_cons_succ]; rfl)
                case hqec9 => exact fun _ _ _ h => h
                case hyec9 => (refine Or.inl ⟨by rfl, ?_⟩; intro w' hSw; (try dsimp only at hSw); go_simp; try with_reducible rfl)
                (try simp only [Act.put, List.setIfInBounds_toArray, List.set_cons_zero, List.set_cons_succ])
                refine' wpAnyT_take (i := 10) (oi := ?oiec10) (v := ?vec10) ?hiec10 (by kernel_rfl) (by kernel_rfl) ?hqec10 ?hyec10 hHeld ?restec10
                case hiec10 => (simp only [List.getElem?_toArray, List.getElem?_cons_zero, List.getElem?_cons_succ]; rfl)
                case hqec10 => exact fun _ _ _ h => h
                case hyec10 => (refine Or.inl ⟨by rfl, ?_⟩; intro w' hSw; (try dsimp only at hSw); go_simp; try with_reducible rfl)
                (try simp only [Act.put, List.setIfInBounds_toArray, List.set_cons_zero, List.set_cons_succ])
                refine' wpAnyT_take (i := 11) (oi := ?oiec11) (v := ?vec11) ?hiec11 (by kernel_rfl) (by kernel_rfl) ?hqec11 ?hyec11 hHeld ?restec11
                case hiec11 => (simp only [List.getElem?_toArray, List.getElem?_cons_zero, List.getElem?_cons_succ]; rfl)
                case hqec11 => exact fun _ _ _ h => h
                case hyec11 => (refine Or.inl ⟨by rfl, ?_⟩; intro w' hSw; (try dsimp only at hSw); go_simp; try with_reducible rfl)
                (try simp only [Act.put, List.setIfInBounds_toArray, List.set_cons_zero, List.set_cons_succ])
                refine' wpAnyT_take (i := 12) (oi := ?oiec12) (v := ?vec12) ?hiec12 (by kernel_rfl) (by kernel_rfl) ?hqec12 ?hyec12 hHeld ?restec12
                case hiec12 => (simp only [List.getElem?_toArray, List.getElem?_cons_zero, List.getElem?_cons_succ]; rfl)
                case hqec12 => exact fun _ _ _ h => h
                case hyec12 => (refine Or.inl ⟨by rfl, ?_⟩; intro w' hSw; (try dsimp only at hSw); go_simp; try with_reducible rfl)
                (try simp only [Act.put, List.setIfInBounds_toArray, List.set_cons_zero, List.set_cons_succ])
                refine' wpAnyT_one (i := 13) (o := ?oiec13) (by kernel_rfl) ?hiec13 (fun K hK => ?stec13)
                case hiec13 => (simp only [List.getElem?_toArray, List.getElem?_cons_zero, List.getElem?_cons_succ]; rfl)
                go_simp
                refine hK.out _ _ (fun h => absurd h (by decide)) ?_
                clear hK K
                (try simp only [Act.put, List.setIfInBounds_toArray, List.set_cons_zero, List.set_cons_succ])
                refine' wpAnyT_one (i := 14) (o := ?oiec14) (by kernel_rfl) ?hiec14 (fun K hK => ?stec14)
                case hiec14 => (simp only [List.getElem?_toArray, List.getElem?_cons_zero, List.getElem?_cons_succ]; rfl)
                go_simp
                refine hK.out _ _ (fun h => absurd h (by decide)) ?_
                clear hK K
                (try simp only [Act.put, List.setIfInBounds_toArray, List.set_cons_zero, List.set_cons_succ])
                refine wpAnyT_done (by kernel_rfl) ?_ _
                go_wp2_with fail
                go_roundw
                case rel => exact ⟨j + 1, by omega, by go_num, hid (HBJ.out.trans (HBY.out.mono HBJ.out.size))⟩
                case measure => simp [Go.RowKit.intOf]; omega
          · have dc : decide ((j : Int) < (cn : Int)) = false := decide_eq_false (by omega)
            have dc' : decide (j < cn) = false := decide_eq_false hjc
            have HZE : Hid (¬ (5 ≤ j ∧ j < 21) → ([0, 0, 0, 0, 0, 0, 0, 0] : Sect) = [s0, s1, s2, s3, s4, s5, s6, s7]) := hid (fun h => by
              have h1 := HOJ.out h
              rw [List.getElem?_append_right (by rw [HCN.out]; omega), List.getElem?_replicate, HCN.out, if_pos (by have := HNL.out; omega)] at h1
              injection h1)
            have HX2 := HX12
            have HB2 := HB1
            go_upto_region 15 with fail
            clear dc dc'
            by_cases hins : 5 ≤ j ∧ j < 21
            · have g1 : decide ((j : Int) < 5) = false := decide_eq_false (by omega)
              have g1' : decide (j < 5) = false := decide_eq_false (by omega)
              have g2 : decide (21 ≤ (j : Int)) = false := decide_eq_false (by omega)
              have g2' : decide (21 ≤ j) = false := decide_eq_false (by omega)
              refine region_tail 13 (fun X => True) (by kernel_rfl) ?_
              obtain ⟨Y0, hY0⟩ : ∃ Y, W1.drew = Y := ⟨_, rfl⟩
              have hbY : Below W1.heap.size W1 Y0 := by rw [← hY0]; exact (Below.refl W1.heap.size W1).drew
              have HBY : Hid (Below wr.heap.size wr Y0) := hid (HB2.out.trans (hbY.mono HB2.out.size))
              have hHeld := trivial
              rw [hY0]
              clear hY0 hbY
              refine' wpAnyT_take (i := 0) (oi := ?oifa0) (v := ?vfa0) ?hifa0 (by kernel_rfl) (by kernel_rfl) ?hqfa0 ?hyfa0 hHeld ?restfa0
              case hifa0 => (simp only [List.getElem?_toArray, List.getElem?_cons_zero]; rfl)
              case hqfa0 => exact fun _ _ _ h => h
              case hyfa0 => (refine Or.inl ⟨by rfl, ?_⟩; intro w' hSw; (try dsimp only at hSw); go_simp; try with_reducible rfl)
              (try simp only [Act.put, List.setIfInBounds_toArray, List.set_cons_zero, List.set_cons_succ])
              refine' wpAnyT_take (i := 1) (oi := ?oifa1) (v := ?vfa1) ?hifa1 (by kernel_rfl) (by kernel_rfl) ?hqfa1 ?hyfa1 hHeld ?restfa1
              case hifa1 => (simp only [List.getElem?_toArray, List.getElem?_cons_zero, List.getElem?_cons_succ]; rfl)
              case hqfa1 => exact fun _ _ _ h => h
              case hyfa1 => (refine Or.inl ⟨by rfl, ?_⟩; intro w' hSw; (try dsimp only at hSw); go_simp; try with_reducible rfl)
              (try simp only [Act.put, List.setIfInBounds_toArray, List.set_cons_zero, List.set_cons_succ])
              refine' wpAnyT_take (i := 2) (oi := ?oifa2) (v := ?vfa2) ?hifa2 (by kernel_rfl) (by kernel_rfl) ?hqfa2 ?hyfa2 hHeld ?restfa2
              case hifa2 => (simp only [List.getElem?_toArray, List.getElem?_cons_zero, List.getElem?_cons_succ]; rfl)
              case hqfa2 => exact fun _ _ _ h => h
              case hyfa2 => (refine Or.inl ⟨by rfl, ?_⟩; intro w' hSw; (try dsimp only at hSw); go_simp; try with_reducible rfl)
              (try simp only [Act.put, List.setIfInBounds_toArray, List.set_cons_zero, List.set_cons_succ])
              refine' wpAnyT_take (i := 3) (oi := ?oifa3) (v := ?vfa3) ?hifa3 (by kernel_rfl) (by kernel_rfl) ?hqfa3 ?hyfa3 hHeld ?restfa3
              case hifa3 => (simp only [List.getElem?_toArray, List.getElem?_cons_zero, List.getElem?_cons_succ]; rfl)
              case hqfa3 => exact fun _ _ _ h => h
              case hyfa3 => (refine Or.inl ⟨by rfl, ?_⟩; intro w' hSw; (try dsimp only at hSw); go_simp; try with_reducible rfl)
              (try simp only [Act.put, List.setIfInBounds_toArray, List.set_cons_zero, List.set_cons_succ])
              refine' wpAnyT_take (i := 4) (oi := ?oifa4) (v := ?vfa4) ?hifa4 (by kernel_rfl) (by kernel_rfl) ?hqfa4 ?hyfa4 hHeld ?restfa4
              case hifa4 => (simp only [List.getElem?_toArray, List.getElem?_cons_zero, List.getElem?_cons_succ]; rfl)
              case hqfa4 => exact fun _ _ _ h => h
              case hyfa4 => (refine Or.inl ⟨by rfl, ?_⟩; intro w' hSw; (try dsimp only at hSw); go_simp; try with_reducible rfl)
              (try simp only [Act.put, List.setIfInBounds_toArray, List.set_cons_zero, List.set_cons_succ])
              refine' wpAnyT_take (i := 5) (oi := ?oifa5) (v := ?vfa5) ?hifa5 (by kernel_rfl) (by kernel_rfl) ?hqfa5 ?hyfa5 hHeld ?restfa5
              case hifa5 => (simp only [List.getElem?_toArray, List.getElem?_cons_zero, List.getElem?_cons_succ]; rfl)
              case hqfa5 => exact fun _ _ _ h => h
              case hyfa5 => (refine Or.inl ⟨by rfl, ?_⟩; intro w' hSw; (try dsimp only at hSw); go_simp; try with_reducible rfl)
              (try simp only [Act.put, List.setIfInBounds_toArray, List.set_cons_zero, List.set_cons_succ])
              refine' wpAnyT_take (i := 6) (oi := ?oifa6) (v := ?vfa6) ?hifa6 (by kernel_rfl) (by kernel_rfl) ?hqfa6 ?hyfa6 hHeld ?restfa6
              case hifa6 => (simp only [List.getElem?_toArray, List.getElem?_cons_zero, List.getElem?_cons_succ]; rfl)
              case hqfa6 => exact fun _ _ _ h => h
              case hyfa6 => (refine Or.inl ⟨by rfl, ?_⟩; intro w' hSw; (try dsimp only at hSw); go_simp; try with_reducible rfl)
              (try simp only [Act.put, List.setIfInBounds_toArray, List.set_cons_zero, List.set_cons_succ])
              refine' wpAnyT_take (i := 7) (oi := ?oifa7) (v := undef) ?hifa7 (by kernel_rfl) (by kernel_rfl) ?hqfa7 ?hyfa7 hHeld ?restfa7
              case hifa7 => (simp only [List.getElem?_toArray, List.getElem?_cons_zero, List.getElem?_cons_succ]; rfl)
              case hqfa7 => exact fun _ _ _ h => h
              case hyfa7 => exact Or.inr ⟨by rfl, rfl⟩
              (try simp only [Act.put, List.setIfInBounds_toArray, List.set_cons_zero, List.set_cons_succ])
              refine' wpAnyT_take (i := 8) (oi := ?oifa8) (v := undef) ?hifa8 (by kernel_rfl) (by kernel_rfl) ?hqfa8 ?hyfa8 hHeld ?restfa8
              case hifa8 => (simp only [List.getElem?_toArray, List.getElem?_cons_zero, List.getElem?_cons_succ]; rfl)
              case hqfa8 => exact fun _ _ _ h => h
              case hyfa8 => exact Or.inr ⟨by rfl, rfl⟩
              (try simp only [Act.put, List.setIfInBounds_toArray, List.set_cons_zero, List.set_cons_succ])
              refine' wpAnyT_take (i := 9) (oi := ?oifa9) (v := undef) ?hifa9 (by kernel_rfl) (by kernel_rfl) ?hqfa9 ?hyfa9 hHeld ?restfa9
              case hifa9 => (simp only [List.getElem?_toArray, List.getElem?_cons_zero, List.getElem?_cons_succ]; rfl)
              case hqfa9 => exact fun _ _ _ h => h
              case hyfa9 => exact Or.inr ⟨by rfl, rfl⟩
              (try simp only [Act.put, List.setIfInBounds_toArray, List.set_cons_zero, List.set_cons_succ])
              refine' wpAnyT_take (i := 10) (oi := ?oifa10) (v := undef) ?hifa10 (by kernel_rfl) (by kernel_rfl) ?hqfa10 ?hyfa10 hHeld ?restfa10
              case hifa10 => (simp only [List.getElem?_toArray, List.getElem?_cons_zero, List.getElem?_cons_succ]; rfl)
              case hqfa10 => exact fun _ _ _ h => h
              case hyfa10 => exact Or.inr ⟨by rfl, rfl⟩
              (try simp only [Act.put, List.setIfInBounds_toArray, List.set_cons_zero, List.set_cons_succ])
              refine' wpAnyT_take (i := 11) (oi := ?oifa11) (v := undef) ?hifa11 (by kernel_rfl) (by kernel_rfl) ?hqfa11 ?hyfa11 hHeld ?restfa11
              case hifa11 => (simp only [List.getElem?_toArray, List.getElem?_cons_zero, List.getElem?_cons_succ]; rfl)
              case hqfa11 => exact fun _ _ _ h => h
              case hyfa11 => exact Or.inr ⟨by rfl, rfl⟩
              (try simp only [Act.put, List.setIfInBounds_toArray, List.set_cons_zero, List.set_cons_succ])
              refine' wpAnyT_take (i := 12) (oi := ?oifa12) (v := undef) ?hifa12 (by kernel_rfl) (by kernel_rfl) ?hqfa12 ?hyfa12 hHeld ?restfa12
              case hifa12 => (simp only [List.getElem?_toArray, List.getElem?_cons_zero, List.getElem?_cons_succ]; rfl)
              case hqfa12 => exact fun _ _ _ h => h
              case hyfa12 => exact Or.inr ⟨by rfl, rfl⟩
              (try simp only [Act.put, List.setIfInBounds_toArray, List.set_cons_zero, List.set_cons_succ])
              refine' wpAnyT_one (i := 13) (o := ?oifa13) (by kernel_rfl) ?hifa13 (fun K hK => ?stfa13)
              case hifa13 => (simp only [List.getElem?_toArray, List.getElem?_cons_zero, List.getElem?_cons_succ]; rfl)
              go_simp
              refine hK.out _ _ (fun h => absurd h (by decide)) ?_
              clear hK K
              (try simp only [Act.put, List.setIfInBounds_toArray, List.set_cons_zero, List.set_cons_succ])
              refine' wpAnyT_one (i := 14) (o := ?oifa14) (by kernel_rfl) ?hifa14 (fun K hK => ?stfa14)
              case hifa14 => (simp only [List.getElem?_toArray, List.getElem?_cons_zero, List.getElem?_cons_succ]; rfl)
              go_simp
              refine hK.out _ _ (fun h => absurd h (by decide)) ?_
              clear hK K
              (try simp only [Act.put, List.setIfInBounds_toArray, List.set_cons_zero, List.set_cons_succ])
              refine wpAnyT_done (by kernel_rfl) ?_ _
              go_wp2_with fail
              go_roundw
              case rel => exact ⟨j + 1, by omega, by go_num, hid (HBJ.out.trans (HBY.out.mono HBJ.out.size))⟩
              case measure => simp [Go.RowKit.intOf]; omega
            · have hzz := HZE.out hins
              have HX2 := HX2
              rw [hzz] at HX2
              by_cases h5 : j < 5
              · have g1 : decide ((j : Int) < 5) = true := decide_eq_true (by omega)
                have g1' : decide (j < 5) = true := decide_eq_true h5
                refine region_tail 13 (fun X => X.cell? ⟨g6, 0, none⟩ = some (.slice (some ⟨b, off, none⟩) n c) ∧ X.cell? ⟨b, off + j * 8, none⟩ = some (.int .u8 (s0 : Int)) ∧ X.cell? ⟨b, off + j * 8 + 1, none⟩ = some (.int .u8 (s1 : Int)) ∧ X.cell? ⟨b, off + j * 8 + 2, none⟩ = some (.int .u8 (s2 : Int)) ∧ X.cell? ⟨b, off + j * 8 + 3, none⟩ = some (.int .u8 (s3 : Int)) ∧ X.cell? ⟨b, off + j * 8 + 4, none⟩ = some (.int .u8 (s4 : Int)) ∧ X.cell? ⟨b, off + j * 8 + 5, none⟩ = some (.int .u8 (s5 : Int)) ∧ X.cell? ⟨b, off + j * 8 + 6, none⟩ = some (.int .u8 (s6 : Int)) ∧ X.cell? ⟨b, off + j * 8 + 7, none⟩ = some (.int .u8 (s7 : Int)) ∧ X.cell? ⟨p12, 0, none⟩ = some (.int .u8 (s0 : Int)) ∧ X.cell? ⟨p12, 1, none⟩ = some (.int .u8 (s1 : Int)) ∧ X.cell? ⟨p12, 2, none⟩ = some (.int .u8 (s2 : Int)) ∧ X.cell? ⟨p12, 3, none⟩ = some (.int .u8 (s3 : Int)) ∧ X.cell? ⟨p12, 4, none⟩ = some (.int .u8 (s4 : Int)) ∧ X.cell? ⟨p12, 5, none⟩ = some (.int .u8 (s5 : Int)) ∧ X.cell? ⟨p12, 6, none⟩ = some (.int .u8 (s6 : Int)) ∧ X.cell? ⟨p12, 7, none⟩ = some (.int .u8 (s7 : Int))) (by kernel_rfl) ?_
                obtain ⟨Y0, hY0⟩ : ∃ Y, W1.drew = Y := ⟨_, rfl⟩
                have hbY : Below W1.heap.size W1 Y0 := by rw [← hY0]; exact (Below.refl W1.heap.size W1).drew
                have HBY : Hid (Below wr.heap.size wr Y0) := hid (HB2.out.trans (hbY.mono HB2.out.size))
                have hx6y := (HBY.out.block _ (box_lt HX6j.out)).trans HX6j.out
                have hx12y := (hbY.block _ (box_lt HX2.out)).trans HX2.out
                have hq0 := HQ0.out
                have hHeld : Y0.cell? ⟨g6, 0, none⟩ = some (.slice (some ⟨b, off, none⟩) n c) ∧ Y0.cell? ⟨b, off + j * 8, none⟩ = some (.int .u8 (s0 : Int)) ∧ Y0.cell? ⟨b, off + j * 8 + 1, none⟩ = some (.int .u8 (s1 : Int)) ∧ Y0.cell? ⟨b, off + j * 8 + 2, none⟩ = some (.int .u8 (s2 : Int)) ∧ Y0.cell? ⟨b, off + j * 8 + 3, none⟩ = some (.int .u8 (s3 : Int)) ∧ Y0.cell? ⟨b, off + j * 8 + 4, none⟩ = some (.int .u8 (s4 : Int)) ∧ Y0.cell? ⟨b, off + j * 8 + 5, none⟩ = some (.int .u8 (s5 : Int)) ∧ Y0.cell? ⟨b, off + j * 8 + 6, none⟩ = some (.int .u8 (s6 : Int)) ∧ Y0.cell? ⟨b, off + j * 8 + 7, none⟩ = some (.int .u8 (s7 : Int)) ∧ Y0.cell? ⟨p12, 0, none⟩ = some (.int .u8 (s0 : Int)) ∧ Y0.cell? ⟨p12, 1, none⟩ = some (.int .u8 (s1 : Int)) ∧ Y0.cell? ⟨p12, 2, none⟩ = some (.int .u8 (s2 : Int)) ∧ Y0.cell? ⟨p12, 3, none⟩ = some (.int .u8 (s3 : Int)) ∧ Y0.cell? ⟨p12, 4, none⟩ = some (.int .u8 (s4 : Int)) ∧ Y0.cell? ⟨p12, 5, none⟩ = some (.int .u8 (s5 : Int)) ∧ Y0.cell? ⟨p12, 6, none⟩ = some (.int .u8 (s6 : Int)) ∧ Y0.cell? ⟨p12, 7, none⟩ = some (.int .u8 (s7 : Int)) := ⟨cell_of_row _ _ 0 _ _ _ hx6y, (HBY.out.cell (p := ⟨b, _, none⟩) HBL.out).trans (HCS.out 0 _ rfl), (HBY.out.cell (p := ⟨b, _, none⟩) HBL.out).trans (HCS.out 1 _ rfl), (HBY.out.cell (p := ⟨b, _, none⟩) HBL.out).trans (HCS.out 2 _ rfl), (HBY.out.cell (p := ⟨b, _, none⟩) HBL.out).trans (HCS.out 3 _ rfl), (HBY.out.cell (p := ⟨b, _, none⟩) HBL.out).trans (HCS.out 4 _ rfl), (HBY.out.cell (p := ⟨b, _, none⟩) HBL.out).trans (HCS.out 5 _ rfl), (HBY.out.cell (p := ⟨b, _, none⟩) HBL.out).trans (HCS.out 6 _ rfl), (HBY.out.cell (p := ⟨b, _, none⟩) HBL.out).trans (HCS.out 7 _ rfl), cell_of_row _ _ 0 _ _ _ hx12y, cell_of_row _ _ 1 _ _ _ hx12y, cell_of_row _ _ 2 _ _ _ hx12y, cell_of_row _ _ 3 _ _ _ hx12y, cell_of_row _ _ 4 _ _ _ hx12y, cell_of_row _ _ 5 _ _ _ hx12y, cell_of_row _ _ 6 _ _ _ hx12y, cell_of_row _ _ 7 _ _ _ hx12y⟩
                clear hx6y hx12y
                rw [hY0]
                clear hY0 hbY
                refine' wpAnyT_take (i := 0) (oi := ?oifb0) (v := ?vfb0) ?hifb0 (by kernel_rfl) (by kernel_rfl) ?hqfb0 ?hyfb0 hHeld ?restfb0
                case hifb0 => (simp only [List.getElem?_toArray, List.getElem?_cons_zero]; rfl)
                case hqfb0 => exact fun _ _ _ h => h
                case hyfb0 => (refine Or.inl ⟨by rfl, ?_⟩; intro w' hSw; (try dsimp only at hSw); go_simp; try with_reducible rfl)
                (try simp only [Act.put, List.setIfInBounds_toArray, List.set_cons_zero, List.set_cons_succ])
                refine' wpAnyT_take (i := 1) (oi := ?oifb1) (v := ?vfb1) ?hifb1 (by kernel_rfl) (by kernel_rfl) ?hqfb1 ?hyfb1 hHeld ?restfb1
                case hifb1 => (simp only [List.getElem?_toArray, List.getElem?_cons_zero, List.getElem?_cons_succ]; rfl)
                case hqfb1 => exact fun _ _ _ h => h
                case hyfb1 => (refine Or.inl ⟨by rfl, ?_⟩; intro w' hSw; (try dsimp only at hSw); go_simp; try with_reducible rfl)
                (try simp only [Act.put, List.setIfInBounds_toArray, List.set_cons_zero, List.set_cons_succ])
                refine' wpAnyT_take (i := 2) (oi := ?oifb2) (v := ?vfb2) ?hifb2 (by kernel_rfl) (by kernel_rfl) ?hqfb2 ?hyfb2 hHeld ?restfb2
                case hifb2 => (simp only [List.getElem?_toArray, List.getElem?_cons_zero, List.getElem?_cons_succ]; rfl)
                case hqfb2 => exact fun _ _ _ h => h
                case hyfb2 => (refine Or.inl ⟨by rfl, ?_⟩; intro w' hSw; (try dsimp only at hSw); go_simp; try with_reducible rfl)
                (try simp only [Act.put, List.setIfInBounds_toArray, List.set_cons_zero, List.set_cons_succ])
                refine' wpAnyT_take (i := 3) (oi := ?oifb3) (v := undef) ?hifb3 (by kernel_rfl) (by kernel_rfl) ?hqfb3 ?hyfb3 hHeld ?restfb3
                case hifb3 => (simp only [List.getElem?_toArray, List.getElem?_cons_zero, List.getElem?_cons_succ]; rfl)
                case hqfb3 => exact fun _ _ _ h => h
                case hyfb3 => exact Or.inr ⟨by rfl, rfl⟩
                (try simp only [Act.put, List.setIfInBounds_toArray, List.set_cons_zero, List.set_cons_succ])
                refine' wpAnyT_take (i := 4) (oi := ?oifb4) (v := undef) ?hifb4 (by kernel_rfl) (by kernel_rfl) ?hqfb4 ?hyfb4 hHeld ?restfb4
                case hifb4 => (simp only [List.getElem?_toArray, List.getElem?_cons_zero, List.getElem?_cons_succ]; rfl)
                case hqfb4 => exact fun _ _ _ h => h
                case hyfb4 => exact Or.inr ⟨by rfl, rfl⟩
                (try simp only [Act.put, List.setIfInBounds_toArray, List.set_cons_zero, List.set_cons_succ])
                refine' wpAnyT_take (i := 5) (oi := ?oifb5) (v := ?vfb5) ?hifb5 (by kernel_rfl) (by kernel_rfl) ?hqfb5 ?hyfb5 hHeld ?restfb5
                case hifb5 => (simp only [List.getElem?_toArray, List.getElem?_cons_zero, List.getElem?_cons_succ]; rfl)
                case hqfb5 => exact fun _ _ _ h => h
                case hyfb5 => (refine Or.inl ⟨by rfl, ?_⟩; intro w' hSw; (try dsimp only at hSw); go_simp; try with_reducible rfl)
                (try simp only [Act.put, List.setIfInBounds_toArray, List.set_cons_zero, List.set_cons_succ])
                refine' wpAnyT_take (i := 6) (oi := ?oifb6) (v := ?vfb6) ?hifb6 (by kernel_rfl) (by kernel_rfl) ?hqfb6 ?hyfb6 hHeld ?restfb6
                case hifb6 => (simp only [List.getElem?_toArray, List.getElem?_cons_zero, List.getElem?_cons_succ]; rfl)
                case hqfb6 => exact fun _ _ _ h => h
                case hyfb6 => (refine Or.inl ⟨by rfl, ?_⟩; intro w' hSw; (try dsimp only at hSw); go_simp; try with_reducible rfl)
                (try simp only [Act.put, List.setIfInBounds_toArray, List.set_cons_zero, List.set_cons_succ])
                refine' wpAnyT_take (i := 7) (oi := ?oifb7) (v := ?vfb7) ?hifb7 (by kernel_rfl) (by kernel_rfl) ?hqfb7 ?hyfb7 hHeld ?restfb7
                case hifb7 => (simp only [List.getElem?_toArray, List.getElem?_cons_zero, List.getElem?_cons_succ]; rfl)
                case hqfb7 => exact fun _ _ _ h => h
                case hyfb7 => (refine Or.inl ⟨by rfl, ?_⟩; intro w' hSw; (try dsimp only at hSw); go_simp; try with_reducible rfl)
                (try simp only [Act.put, List.setIfInBounds_toArray, List.set_cons_zero, List.set_cons_succ])
                refine' wpAnyT_take (i := 8) (oi := ?oifb8) (v := ?vfb8) ?hifb8 (by kernel_rfl) (by kernel_rfl) ?hqfb8 ?hyfb8 hHeld ?restfb8
                case hifb8 => (simp only [List.getElem?_toArray, List.getElem?_cons_zero, List.getElem?_cons_succ]; rfl)
                case hqfb8 => exact fun _ _ _ h => h
                case hyfb8 => (refine Or.inl ⟨by rfl, ?_⟩; intro w' hSw; (try dsimp only at hSw); go_simp; try with_reducible rfl)
                (try simp only [Act.put, List.setIfInBounds_toArray, List.set_cons_zero, List.set_cons_succ])
                refine' wpAnyT_take (i := 9) (oi := ?oifb9) (v := ?vfb9) ?hifb9 (by kernel_rfl) (by kernel_rfl) ?hqfb9 ?hyfb9 hHeld ?restfb9
                case hifb9 => (simp only [List.getElem?_toArray, List.getElem?_cons_zero, List.getElem?_cons_succ]; rfl)
                case hqfb9 => exact fun _ _ _ h => h
                case hyfb9 => (refine Or.inl ⟨by rfl, ?_⟩; intro w' hSw; (try dsimp only at hSw); go_simp; try with_reducible rfl)
                (try simp only [Act.put, List.setIfInBounds_toArray, List.set_cons_zero, List.set_cons_succ])
                refine' wpAnyT_take (i := 10) (oi := ?oifb10) (v := ?vfb10) ?hifb10 (by kernel_rfl) (by kernel_rfl) ?hqfb10 ?hyfb10 hHeld ?restfb10
                case hifb10 => (simp only [List.getElem?_toArray, List.getElem?_cons_zero, List.getElem?_cons_succ]; rfl)
                case hqfb10 => exact fun _ _ _ h => h
                case hyfb10 => (refine Or.inl ⟨by rfl, ?_⟩; intro w' hSw; (try dsimp only at hSw); go_simp; try with_reducible rfl)
                (try simp only [Act.put, List.setIfInBounds_toArray, List.set_cons_zero, List.set_cons_succ])
                refine' wpAnyT_take (i := 11) (oi := ?oifb11) (v := ?vfb11) ?hifb11 (by kernel_rfl) (by kernel_rfl) ?hqfb11 ?hyfb11 hHeld ?restfb11
                case hifb11 => (simp only [List.getElem?_toArray, List.getElem?_cons_zero, List.getElem?_cons_succ]; rfl)
                case hqfb11 => exact fun _ _ _ h => h
                case hyfb11 => (refine Or.inl ⟨by rfl, ?_⟩; intro w' hSw; (try dsimp only at hSw); go_simp; try with_reducible rfl)
                (try simp only [Act.put, List.setIfInBounds_toArray, List.set_cons_zero, List.set_cons_succ])
                refine' wpAnyT_take (i := 12) (oi := ?oifb12) (v := ?vfb12) ?hifb12 (by kernel_rfl) (by kernel_rfl) ?hqfb12 ?hyfb12 hHeld ?restfb12
                case hifb12 => (simp only [List.getElem?_toArray, List.getElem?_cons_zero, List.getElem?_cons_succ]; rfl)
                case hqfb12 => exact fun _ _ _ h => h
                case hyfb12 => (refine Or.inl ⟨by rfl, ?_⟩; intro w' hSw; (try dsimp only at hSw); go_simp; try with_reducible rfl)
                (try simp only [Act.put, List.setIfInBounds_toArray, List.set_cons_zero, List.set_cons_succ])
                refine' wpAnyT_one (i := 13) (o := ?oifb13) (by kernel_rfl) ?hifb13 (fun K hK => ?stfb13)
                case hifb13 => (simp only [List.getElem?_toArray, List.getElem?_cons_zero, List.getElem?_cons_succ]; rfl)
                go_simp
                refine hK.out _ _ (fun h => absurd h (by decide)) ?_
                clear hK K
                (try simp only [Act.put, List.setIfInBounds_toArray, List.set_cons_zero, List.set_cons_succ])
                refine' wpAnyT_one (i := 14) (o := ?oifb14) (by kernel_rfl) ?hifb14 (fun K hK => ?stfb14)
                case hifb14 => (simp only [List.getElem?_toArray, List.getElem?_cons_zero, List.getElem?_cons_succ]; rfl)
                go_simp
                refine hK.out _ _ (fun h => absurd h (by decide)) ?_
                clear hK K
                (try simp only [Act.put, List.setIfInBounds_toArray, List.set_cons_zero, List.set_cons_succ])
                refine wpAnyT_done (by kernel_rfl) ?_ _
                go_wp2_with fail
                go_roundw
                case rel => exact ⟨j + 1, by omega, by go_num, hid (HBJ.out.trans (HBY.out.mono HBJ.out.size))⟩
                case measure => simp [Go.RowKit.intOf]; omega
              · have g1 : decide ((j : Int) < 5) = false := decide_eq_false (by omega)
                have g1' : decide (j < 5) = false := decide_eq_false h5
                have g2 : decide (21 ≤ (j : Int)) = true := decide_eq_true (by omega)
                have g2' : decide (21 ≤ j) = true := decide_eq_true (by omega)
                refine region_tail 13 (fun X => X.cell? ⟨g6, 0, none⟩ = some (.slice (some ⟨b, off, none⟩) n c) ∧ X.cell? ⟨b, off + j * 8, none⟩ = some (.int .u8 (s0 : Int)) ∧ X.cell? ⟨b, off + j * 8 + 1, none⟩ = some (.int .u8 (s1 : Int)) ∧ X.cell? ⟨b, off + j * 8 + 2, none⟩ = some (.int .u8 (s2 : Int)) ∧ X.cell? ⟨b, off + j * 8 + 3, none⟩ = some (.int .u8 (s3 : Int)) ∧ X.cell? ⟨b, off + j * 8 + 4, none⟩ = some (.int .u8 (s4 : Int)) ∧ X.cell? ⟨b, off + j * 8 + 5, none⟩ = some (.int .u8 (s5 : Int)) ∧ X.cell? ⟨b, off + j * 8 + 6, none⟩ = some (.int .u8 (s6 : Int)) ∧ X.cell? ⟨b, off + j * 8 + 7, none⟩ = some (.int .u8 (s7 : Int)) ∧ X.cell? ⟨p12, 0, none⟩ = some (.int .u8 (s0 : Int)) ∧ X.cell? ⟨p12, 1, none⟩ = some (.int .u8 (s1 : Int)) ∧ X.cell? ⟨p12, 2, none⟩ = some (.int .u8 (s2 : Int)) ∧ X.cell? ⟨p12, 3, none⟩ = some (.int .u8 (s3 : Int)) ∧ X.cell? ⟨p12, 4, none⟩ = some (.int .u8 (s4 : Int)) ∧ X.cell? ⟨p12, 5, none⟩ = some (.int .u8 (s5 : Int)) ∧ X.cell? ⟨p12, 6, none⟩ = some (.int .u8 (s6 : Int)) ∧ X.cell? ⟨p12, 7, none⟩ = some (.int .u8 (s7 : Int))) (by kernel_rfl) ?_
                obtain ⟨Y0, hY0⟩ : ∃ Y, W1.drew = Y := ⟨_, rfl⟩
                have hbY : Below W1.heap.size W1 Y0 := by rw [← hY0]; exact (Below.refl W1.heap.size W1).drew
                have HBY : Hid (Below wr.heap.size wr Y0) := hid (HB2.out.trans (hbY.mono HB2.out.size))
                have hx6y := (HBY.out.block _ (box_lt HX6j.out)).trans HX6j.out
                have hx12y := (hbY.block _ (box_lt HX2.out)).trans HX2.out
                have hq0 := HQ0.out
                have hHeld : Y0.cell? ⟨g6, 0, none⟩ = some (.slice (some ⟨b, off, none⟩) n c) ∧ Y0.cell? ⟨b, off + j * 8, none⟩ = some (.int .u8 (s0 : Int)) ∧ Y0.cell? ⟨b, off + j * 8 + 1, none⟩ = some (.int .u8 (s1 : Int)) ∧ Y0.cell? ⟨b, off + j * 8 + 2, none⟩ = some (.int .u8 (s2 : Int)) ∧ Y0.cell? ⟨b, off + j * 8 + 3, none⟩ = some (.int .u8 (s3 : Int)) ∧ Y0.cell? ⟨b, off + j * 8 + 4, none⟩ = some (.int .u8 (s4 : Int)) ∧ Y0.cell? ⟨b, off + j * 8 + 5, none⟩ = some (.int .u8 (s5 : Int)) ∧ Y0.cell? ⟨b, off + j * 8 + 6, none⟩ = some (.int .u8 (s6 : Int)) ∧ Y0.cell? ⟨b, off + j * 8 + 7, none⟩ = some (.int .u8 (s7 : Int)) ∧ Y0.cell? ⟨p12, 0, none⟩ = some (.int .u8 (s0 : Int)) ∧ Y0.cell? ⟨p12, 1, none⟩ = some (.int .u8 (s1 : Int)) ∧ Y0.cell? ⟨p12, 2, none⟩ = some (.int .u8 (s2 : Int)) ∧ Y0.cell? ⟨p12, 3, none⟩ = some (.int .u8 (s3 : Int)) ∧ Y0.cell? ⟨p12, 4, none⟩ = some (.int .u8 (s4 : Int)) ∧ Y0.cell? ⟨p12, 5, none⟩ = some (.int .u8 (s5 : Int)) ∧ Y0.cell? ⟨p12, 6, none⟩ = some (.int .u8 (s6 : Int)) ∧ Y0.cell? ⟨p12, 7, none⟩ = some (.int .u8 (s7 : Int)) := ⟨cell_of_row _ _ 0 _ _ _ hx6y, (HBY.out.cell (p := ⟨b, _, none⟩) HBL.out).trans (HCS.out 0 _ rfl), (HBY.out.cell (p := ⟨b, _, none⟩) HBL.out).trans (HCS.out 1 _ rfl), (HBY.out.cell (p := ⟨b, _, none⟩) HBL.out).trans (HCS.out 2 _ rfl), (HBY.out.cell (p := ⟨b, _, none⟩) HBL.out).trans (HCS.out 3 _ rfl), (HBY.out.cell (p := ⟨b, _, none⟩) HBL.out).trans (HCS.out 4 _ rfl), (HBY.out.cell (p := ⟨b, _, none⟩) HBL.out).trans (HCS.out 5 _ rfl), (HBY.out.cell (p := ⟨b, _, none⟩) HBL.out).trans (HCS.out 6 _ rfl), (HBY.out.cell (p := ⟨b, _, none⟩) HBL.out).trans (HCS.out 7 _ rfl), cell_of_row _ _ 0 _ _ _ hx12y, cell_of_row _ _ 1 _ _ _ hx12y, cell_of_row _ _ 2 _ _ _ hx12y, cell_of_row _ _ 3 _ _ _ hx12y, cell_of_row _ _ 4 _ _ _ hx12y, cell_of_row _ _ 5 _ _ _ hx12y, cell_of_row _ _ 6 _ _ _ hx12y, cell_of_row _ _ 7 _ _ _ hx12y⟩
                clear hx6y hx12y
                rw [hY0]
                clear hY0 hbY
                refine' wpAnyT_take (i := 0) (oi := ?oifc0) (v := ?vfc0) ?hifc0 (by kernel_rfl) (by kernel_rfl) ?hqfc0 ?hyfc0 hHeld ?restfc0
                case hifc0 => (simp only [List.getElem?_toArray, List.getElem?_cons_zero]; rfl)
                case hqfc0 => exact fun _ _ _ h => h
                case hyfc0 => (refine Or.inl ⟨by rfl, ?_⟩; intro w' hSw; (try dsimp only at hSw); go_simp; try with_reducible rfl)
                (try simp only [Act.put, List.setIfInBounds_toArray, List.set_cons_zero, List.set_cons_succ])
                refine' wpAnyT_take (i := 1) (oi := ?oifc1) (v := ?vfc1) ?hifc1 (by kernel_rfl) (by kernel_rfl) ?hqfc1 ?hyfc1 hHeld ?restfc1
                case hifc1 => (simp only [List.getElem?_toArray, List.getElem?_cons_zero, List.getElem?_cons_succ]; rfl)
                case hqfc1 => exact fun _ _ _ h => h
                case hyfc1 => (refine Or.inl ⟨by rfl, ?_⟩; intro w' hSw; (try dsimp only at hSw); go_simp; try with_reducible rfl)
                (try simp only [Act.put, List.setIfInBounds_toArray, List.set_cons_zero, List.set_cons_succ])
                refine' wpAnyT_take (i := 2) (oi := ?oifc2) (v := ?vfc2) ?hifc2 (by kernel_rfl) (by kernel_rfl) ?hqfc2 ?hyfc2 hHeld ?restfc2
                case hifc2 => (simp only [List.getElem?_toArray, List.getElem?_cons_zero, List.getElem?_cons_succ]; rfl)
                case hqfc2 => exact fun _ _ _ h => h
                case hyfc2 => (refine Or.inl ⟨by rfl, ?_⟩; intro w' hSw; (try dsimp only at hSw); go_simp; try with_reducible rfl)
                (try simp only [Act.put, List.setIfInBounds_toArray, List.set_cons_zero, List.set_cons_succ])
                refine' wpAnyT_take (i := 3) (oi := ?oifc3) (v := ?vfc3) ?hifc3 (by kernel_rfl) (by kernel_rfl) ?hqfc3 ?hyfc3 hHeld ?restfc3
                case hifc3 => (simp only [List.getElem?_toArray, List.getElem?_cons_zero, List.getElem?_cons_succ]; rfl)
                case hqfc3 => exact fun _ _ _ h => h
                case hyfc3 => (refine Or.inl ⟨by rfl, ?_⟩; intro w' hSw; (try dsimp only at hSw); go_simp; try with_reducible rfl)
                (try simp only [Act.put, List.setIfInBounds_toArray, List.set_cons_zero, List.set_cons_succ])
                refine' wpAnyT_take (i := 4) (oi := ?oifc4) (v := ?vfc4) ?hifc4 (by kernel_rfl) (by kernel_rfl) ?hqfc4 ?hyfc4 hHeld ?restfc4
                case hifc4 => (simp only [List.getElem?_toArray, List.getElem?_cons_zero, List.getElem?_cons_succ]; rfl)
                case hqfc4 => exact fun _ _ _ h => h
                case hyfc4 => (refine Or.inl ⟨by rfl, ?_⟩; intro w' hSw; (try dsimp only at hSw); go_simp; try with_reducible rfl)
                (try simp only [Act.put, List.setIfInBounds_toArray, List.set_cons_zero, List.set_cons_succ])
                refine' wpAnyT_take (i := 5) (oi := ?oifc5) (v := ?vfc5) ?hifc5 (by kernel_rfl) (by kernel_rfl) ?hqfc5 ?hyfc5 hHeld ?restfc5
                case hifc5 => (simp only [List.getElem?_toArray, List.getElem?_cons_zero, List.getElem?_cons_succ]; rfl)
                case hqfc5 => exact fun _ _ _ h => h
                case hyfc5 => (refine Or.inl ⟨by rfl, ?_⟩; intro w' hSw; (try dsimp only at hSw); go_simp; try with_reducible rfl)
                (try simp only [Act.put, List.setIfInBounds_toArray, List.set_cons_zero, List.set_cons_succ])
                refine' wpAnyT_take (i := 6) (oi := ?oifc6) (v := ?vfc6) ?hifc6 (by kernel_rfl) (by kernel_rfl) ?hqfc6 ?hyfc6 hHeld ?restfc6
                case hifc6 => (simp only [List.getElem?_toArray, List.getElem?_cons_zero, List.getElem?_cons_succ]; rfl)
                case hqfc6 => exact fun _ _ _ h => h
                case hyfc6 => (refine Or.inl ⟨by rfl, ?_⟩; intro w' hSw; (try dsimp only at hSw); go_simp; try with_reducible rfl)
                (try simp only [Act.put, List.setIfInBounds_toArray, List.set_cons_zero, List.set_cons_succ])
                refine' wpAnyT_take (i := 7) (oi := ?oifc7) (v := ?vfc7) ?hifc7 (by kernel_rfl) (by kernel_rfl) ?hqfc7 ?hyfc7 hHeld ?restfc7
                case hifc7 => (simp only [List.getElem?_toArray, List.getElem?_cons_zero, List.getElem?_cons_succ]; rfl)
                case hqfc7 => exact fun _ _ _ h => h
                case hyfc7 => (refine Or.inl ⟨by rfl, ?_⟩; intro w' hSw; (try dsimp only at hSw); go_simp; try with_reducible rfl)
                (try simp only [Act.put, List.setIfInBounds_toArray, List.set_cons_zero, List.set_cons_succ])
                refine' wpAnyT_take (i := 8) (oi := ?oifc8) (v := ?vfc8) ?hifc8 (by kernel_rfl) (by kernel_rfl) ?hqfc8 ?hyfc8 hHeld ?restfc8
                case hifc8 => (simp only [List.getElem?_toArray, List.getElem?_cons_zero, List.getElem?_cons_succ]; rfl)
                case hqfc8 => exact fun _ _ _ h => h
                case hyfc8 => (refine Or.inl ⟨by rfl, ?_⟩; intro w' hSw; (try dsimp only at hSw); go_simp; try with_reducible rfl)
                (try simp only [Act.put, List.setIfInBounds_toArray, List.set_cons_zero, List.set_cons_succ])
                refine' wpAnyT_take (i := 9) (oi := ?oifc9) (v := ?vfc9) ?hifc9 (by kernel_rfl) (by kernel_rfl) ?hqfc9 ?hyfc9 hHeld ?restfc9
                case hifc9 => (simp only [List.getElem?_toArray, List.getElem?_cons_zero, List.getElem?_cons_succ]; rfl)
                case hqfc9 => exact fun _ _ _ h => h
                case hyfc9 => (refine Or.inl ⟨by rfl, ?_⟩; intro w' hSw; (try dsimp only at hSw); go_simp; try with_reducible rfl)
                (try simp only [Act.put, List.setIfInBounds_toArray, List.set_cons_zero, List.set_cons_succ])
                refine' wpAnyT_take (i := 10) (oi := ?oifc10) (v := ?vfc10) ?hifc10 (by kernel_rfl) (by kernel_rfl) ?hqfc10 ?hyfc10 hHeld ?restfc10
                case hifc10 => (simp only [List.getElem?_toArray, List.getElem?_cons_zero, List.getElem?_cons_succ]; rfl)
                case hqfc10 => exact fun _ _ _ h => h
                case hyfc10 => (refine Or.inl ⟨by rfl, ?_⟩; intro w' hSw; (try dsimp only at hSw); go_simp; try with_reducible rfl)
                (try simp only [Act.put, List.setIfInBounds_toArray, List.set_cons_zero, List.set_cons_succ])
                refine' wpAnyT_take (i := 11) (oi := ?oifc11) (v := ?vfc11) ?hifc11 (by kernel_rfl) (by kernel_rfl) ?hqfc11 ?hyfc11 hHeld ?restfc11
                case hifc11 => (simp only [List.getElem?_toArray, List.getElem?_cons_zero, List.getElem?_cons_succ]; rfl)
                case hqfc11 => exact fun _ _ _ h => h
                case hyfc11 => (refine Or.inl ⟨by rfl, ?_⟩; intro w' hSw; (try dsimp only at hSw); go_simp; try with_reducible rfl)
                (try simp only [Act.put, List.setIfInBounds_toArray, List.set_cons_zero, List.set_cons_succ])
                refine' wpAnyT_take (i := 12) (oi := ?oifc12) (v := ?vfc12) ?hifc12 (by kernel_rfl) (by kernel_rfl) ?hqfc12 ?hyfc12 hHeld ?restfc12
                case hifc12 => (simp only [List.getElem?_toArray, List.getElem?_cons_zero, List.getElem?_cons_succ]; rfl)
                case hqfc12 => exact fun _ _ _ h => h
                case hyfc12 => (refine Or.inl ⟨by rfl, ?_⟩; intro w' hSw; (try dsimp only at hSw); go_simp; try with_reducible rfl)
                (try simp only [Act.put, List.setIfInBounds_toArray, List.set_cons_zero, List.set_cons_succ])
                refine' wpAnyT_one (i := 13) (o := ?oifc13) (by kernel_rfl) ?hifc13 (fun K hK => ?stfc13)
                case hifc13 => (simp only [List.getElem?_toArray, List.getElem?_cons_zero, List.getElem?_cons_succ]; rfl)
                go_simp
                refine hK.out _ _ (fun h => absurd h (by decide)) ?_
                clear hK K
                (try simp only [Act.put, List.setIfInBounds_toArray, List.set_cons_zero, List.set_cons_succ])
                refine' wpAnyT_one (i := 14) (o := ?oifc14) (by kernel_rfl) ?hifc14 (fun K hK => ?stfc14)
                case hifc14 => (simp only [List.getElem?_toArray, List.getElem?_cons_zero, List.getElem?_cons_succ]; rfl)
                go_simp
                refine hK.out _ _ (fun h => absurd h (by decide)) ?_
                clear hK K
                (try simp only [Act.put, List.setIfInBounds_toArray, List.set_cons_zero, List.set_cons_succ])
                refine wpAnyT_done (by kernel_rfl) ?_ _
                go_wp2_with fail
                go_roundw
                case rel => exact ⟨j + 1, by omega, by go_num, hid (HBJ.out.trans (HBY.out.mono HBJ.out.size))⟩
                case measure => simp [Go.RowKit.intOf]; omega
        · obtain rfl : j = n := by omega
          have dj : decide ((j : Int) < (j : Int)) = false := decide_eq_false (by omega)
          have dj' : decide (j < j) = false := decide_eq_false (by omega)
          have HLC : Hid (((j : Int) == (cn : Int) + 30) = true) := hid (by have := HNL.out; rw [beq_iff_eq]; omega)
          have hlc := HLC.out
          have hcn30 := HC30.out
          have hwc : IntKind.i64.wrap ((cn : Int) + 30) = (cn : Int) + 30 := by rw [IntKind.wrap_i64]; omega
          go_wp2_with (go_at_call 10; refine (awake_any wr).mono ?_; rintro e X2 ⟨rfl, hb⟩; have HBE := hid (HBW.out.trans (hb.mono HBW.out.size)); have hx6e := (hb.block _ (box_lt HX6j.out)).trans HX6j.out; have c6e := cell_of_row _ _ 0 _ _ _ hx6e; clear hb hx6e)
          go_ret
          exact ⟨rfl, HBE.out⟩
end Go.Proofs.Ytnocgfhcamnjdaa
