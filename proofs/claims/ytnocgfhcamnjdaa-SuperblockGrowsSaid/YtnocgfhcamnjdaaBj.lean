/- The walk of Grows. -/
import Derived.Test.YtnocgfhcamnjdaaBh
namespace Go.Proofs.Ytnocgfhcamnjdaa
open Go.RowKit Go.Lib

theorem cutW {G : World → Nat → Option Addr → Nat → Option Addr → Nat → Prop} {R : Prop} (F : World → Nat → Option Addr → Nat → Option Addr → Nat → Prop) (main : (∀ X p A m B n, F X p A m B n → G X p A m B n) → R) (cont : ∀ X p A m B n, F X p A m B n → G X p A m B n) : R := main cont
set_option maxHeartbeats 4000000 in
set_option maxRecDepth 100000 in
theorem grows_any (v : Value) (C : List Sect) (u : Value) (l : List StT) (w : World) (hv : Sec w v C) (hvn : NilOk v) (hu : Steps w u l) :
    Calls Try.prog 7 #[v, u] w (TrueQ w) := by
  obtain ⟨VA, vc, rfl⟩ := sec_form hv
  obtain ⟨UA, uc, rfl⟩ := steps_form hu
  obtain ⟨cn, hcn⟩ : ∃ n, C.length = n := ⟨_, rfl⟩
  obtain ⟨sn, hsn⟩ : ∃ n, l.length = n := ⟨_, rfl⟩
  have HSM := hid (small_any l _ w hu)
  have HV0 := hid hv
  have HVN := hid hvn
  have HSV := hid hu
  rw [hsn] at HSM HSV
  rw [hcn] at HV0 HVN
  have HCN := hid hcn
  have HSN := hid hsn
  rw [hcn, hsn]
  clear hv hvn hu hcn hsn
  by_cases h30 : 30 < cn
  · have d0 : decide (30 < (cn : Int)) = true := decide_eq_true (by omega)
    have d0' : decide (30 < cn) = true := decide_eq_true h30
    go_enter Try.func7, Try.ntmps7
    go_wp2_with (go_at_call 10; refine (awake_any w).mono ?_; rintro e X ⟨rfl, hb⟩)
    go_ret
    exact ⟨rfl, hb⟩
  have d0 : decide (30 < (cn : Int)) = false := decide_eq_false (by omega)
  have d0' : decide (30 < cn) = false := decide_eq_false h30
  by_cases hsm : smallB l = true
  case neg =>
    rw [show smallB l = false by simpa using hsm] at HSM
    clear hsm
    go_enter Try.func7, Try.ntmps7
    go_wp2_with (first
      | (go_at_call 20; refine HSM.out.mono ?_; rintro e X ⟨rfl, rfl⟩)
      | (go_at_call 10; refine (awake_any _).mono ?_; rintro e X ⟨rfl, hb⟩))
    go_ret
    exact ⟨rfl, hb⟩
  rw [hsm] at HSM
  have hsm2 := of_decide_eq_true hsm
  have HFEW := hid hsm2.1
  have H12 : Hid (sn ≤ 12) := hid (by rw [← HSN.out]; exact hsm2.2)
  have HC30 : Hid (cn ≤ 30) := hid (by omega)
  clear hsm hsm2
  have HBG := hid (begin_any C _ _ [] w HV0.out HVN.out (byt_nil w) (by rw [HCN.out]; exact HC30.out) (by decide))
  go_enter Try.func7, Try.ntmps7
  go_upto_region 3 with (go_at_call 20; refine HSM.out.mono ?_; rintro e w ⟨rfl, rfl⟩)
  go_upto_region 4 with (go_at_call 21; refine HBG.out.mono ?_; rintro e X1 ⟨st0, A0, c0, B0, d0, rfl, hg0, hbg, hb0⟩; have HG0 := hid hg0; have HBGN := hid hbg; have HB1x := hid hb0; clear hg0 hbg hb0)
  obtain ⟨n, hn⟩ : ∃ n, st0.length = n := ⟨_, rfl⟩
  obtain ⟨W2, hW2⟩ : ∃ X, X1.alloc (.cells #[.slice A0 st0.length c0, .slice B0 0 d0] 35) = X := ⟨_, rfl⟩
  obtain ⟨g6, hg6⟩ : ∃ q, X1.heap.size = q := ⟨_, rfl⟩
  have hb2 : Below X1.heap.size X1 W2 := by rw [← hW2]; exact al1 _ _
  have hx6 : W2.heap[g6]? = some (.cells #[.slice A0 st0.length c0, .slice B0 0 d0] 35) := by rw [← hW2, ← hg6]; exact heap_alloc_new _ _
  have hb12 := HB1x.out.trans (hb2.mono HB1x.out.size)
  have HG2 := hid (HG0.out.keep (keep_below hb2) (keep_below hb2) (Nat.le_refl _))
  have HB2 := hid hb12
  have HX62 := hid hx6
  have HNL : Hid (n = cn + 30) := hid (by rw [← hn, HBGN.out.len, HCN.out])
  have HLEN0 := hid hn
  have HG6W : Hid (w.heap.size ≤ g6) := hid (by rw [← hg6]; exact HB1x.out.size)
  rw [hn] at HX62 HG2
  rw [hW2, hg6]
  clear hW2 hg6 hb2 hx6 hb12 HG0 hn
  go_upto_region 6 with fail
  go_loopw [8, 7] (fun iv vv wr => ∃ (i : Nat) (st : List Sect) (A : Option Addr) (c : Nat) (B : Option Addr) (d : Nat) (ii : Nat) (p : List Nat) (g : Nat), i ≤ sn ∧ iv = .int .i64 (i : Int) ∧ vv = .int .i64 (g : Int) ∧ Hid (wr.heap[g6]? = some (.cells #[.slice A n c, .slice B 0 d] 35)) ∧ Hid (OwnG wr w.heap.size st [] (.agg #[.slice A n c, .slice B 0 d])) ∧ Hid (st.length = n) ∧ Hid (Good (supL st) ii p g) ∧ Hid (grt (supL st) ≤ 1 + i) ∧ Hid (Below w.heap.size w wr)) (fun iv _ _ => sn - (Go.RowKit.intOf iv).toNat)
  case atStart =>
    exact ⟨0, st0, A0, c0, B0, d0, 0, [], 1, Nat.zero_le _, rfl, rfl, HX62, HG2, HLEN0, hid HBGN.out.good, hid (by have := HBGN.out.grt; omega), HB2⟩
  case round =>
    obtain ⟨i, st, A, c, B, d, ii, p, g, hi, rfl, rfl, HX6, HGD, HLENn, HGOOD, HGRT, HB⟩ := hrel
    have HLEN : Hid (st.length = n) := HLENn
    have HNN := HNL
    by_cases hin : i < sn
    · have dl : decide ((i : Int) < (sn : Int)) = true := decide_eq_true (by omega)
      obtain ⟨b, off, hAv, hblw, hcell⟩ := steps_at (HSV.out.below HB.out) (by rw [HSN.out]; omega)
      subst hAv
      obtain ⟨x, hx⟩ : ∃ s, l[i]? = some s := ⟨l[i]'(by rw [HSN.out]; exact hin), List.getElem?_eq_getElem _⟩
      have hok := (HSV.out.below HB.out).1 x (List.mem_of_getElem? hx)
      have hfew := HFEW.out x (List.mem_of_getElem? hx)
      have hcx := fun j u => hcell i x hx j u
      obtain ⟨xpv, q, k, xcv, ch⟩ := x
      obtain ⟨hpv8, hk256, hch8⟩ := hok
      dsimp only at hpv8 hk256 hch8
      obtain ⟨PA, pc, rfl⟩ := byt_form hpv8
      obtain ⟨LA, lc, rfl⟩ := ints_form hch8
      have hstp := fun X (hX : Below wr.heap.size wr X) => step_any st _ ⟨_, q, k, _, ch⟩ ii p g X (HGD.out.dk.below hX) (StOk.below (w := wr) ⟨hpv8, hk256, hch8⟩ hX) hfew (by rw [HLEN.out]; have := HNL.out; omega) (by rw [HLEN.out]; have := HNL.out; have := HC30.out; omega) HGOOD.out (by have := HGRT.out; have := H12.out; omega)
      obtain ⟨S, hS⟩ : ∃ z, secsN (grt (supL st) + 1) 8 (conL q) = z := ⟨_, rfl⟩
      obtain ⟨bb, hbb⟩ : ∃ z, 5 + 8 * (1 - ii) = z := ⟨_, rfl⟩
      obtain ⟨dn, hdn⟩ : ∃ z, doneK k = z := ⟨_, rfl⟩
      obtain ⟨pm, hpm⟩ : ∃ z, q.length = z := ⟨_, rfl⟩
      obtain ⟨lm, hlm⟩ : ∃ z, ch.length = z := ⟨_, rfl⟩
      dsimp only [cSt] at hstp hcx
      rw [hS, hbb, hdn, hpm, hlm] at hstp
      rw [hpm, hlm] at hcx
      have HSTP : Hid (∀ X, Below wr.heap.size wr X → Calls Try.prog 22 #[.agg #[.slice A n c, .slice B 0 d], .agg #[.slice PA pm pc, .int .u8 (k : Int), .slice LA lm lc]] X fun e w' => ∃ st9 A9 c9 B9 d9, e = .returned (.tuple #[.agg #[.slice A9 n c9, .slice B9 0 d9], .bool dn, .bool true]) ∧ OwnG w' wr.heap.size st9 [] (.agg #[.slice A9 n c9, .slice B9 0 d9]) ∧ Left st bb S st9 (2 ≤ k) ∧ Below X.heap.size X w') := hid (fun X hX => by
        refine (hstp X hX).mono ?_
        rintro e w' ⟨st9, A9, c9, B9, d9, rfl, h1, h2, h3⟩
        have e9 : st9.length = n := by rw [h2.len, HLEN.out]
        rw [e9] at h1 ⊢
        exact ⟨st9, A9, c9, B9, d9, rfl, h1.keep (fun _ _ h => h) (fun _ _ h => h) hX.size, h2, h3⟩)
      have HK : Hid (∀ X, Below wr.heap.size wr X → X.cell? ⟨g6, 0, none⟩ = some (.slice A n c) ∧ X.cell? ⟨g6, 1, none⟩ = some (.slice B 0 d) ∧ X.cell? ⟨b, off + i * 3, none⟩ = some (.slice PA pm pc) ∧ X.cell? ⟨b, off + i * 3 + 1, none⟩ = some (.int .u8 (k : Int)) ∧ X.cell? ⟨b, off + i * 3 + 2, none⟩ = some (.slice LA lm lc)) := hid (fun X hX => by
        have h6 := (hX.block _ (box_lt HX6.out)).trans HX6.out
        exact ⟨cell_of_row _ _ 0 _ _ _ h6, cell_of_row _ _ 1 _ _ _ h6, (hX.cell (p := ⟨b, _, none⟩) hblw).trans (hcx 0 _ rfl), (hX.cell (p := ⟨b, _, none⟩) hblw).trans (hcx 1 _ rfl), (hX.cell (p := ⟨b, _, none⟩) hblw).trans (hcx 2 _ rfl)⟩)
      have HPV := hid hpv8
      rw [hpm] at HPV
      have HFW := hid hfew.1
      have HPMq := hid hpm
      have HSS := hid hS
      have HBBe := hid hbb
      have HDN := hid hdn
      have HCX : Hid (wr.cell? ⟨b, off + i * 3, none⟩ = some (.slice PA pm pc)) := hid (hcx 0 _ rfl)
      have HBLW := hid hblw
      have hin' : (i : Int) < (sn : Int) := by omega
      clear hcell hx hfew hcx hpv8 hk256 hch8 hstp hS hbb hdn hpm hlm hblw
      have HHI : Hid (21 ≤ n ∧ n ≤ 4096) := hid ⟨by have := HNL.out; omega, by have := HNL.out; have := HC30.out; omega⟩
      have HGDK := hid (HGD.out)
      go_upto_region 8 with fail
      apply cutW (fun X px A9 c9 B9 d9 => Below wr.heap.size wr X ∧ wr.heap.size ≤ px ∧ X.heap[px]? = some (.cells #[.slice A9 n c9, .slice B9 0 d9] 35) ∧ ∃ st9, OwnG X wr.heap.size st9 [] (.agg #[.slice A9 n c9, .slice B9 0 d9]) ∧ Left st bb S st9 (2 ≤ k))
      · intro HC
        have HC := hid HC
        refine region_tail 13 (fun X => X.cell? ⟨g6, 0, none⟩ = some (.slice A n c) ∧ X.cell? ⟨g6, 1, none⟩ = some (.slice B 0 d) ∧ X.cell? ⟨b, off + i * 3, none⟩ = some (.slice PA pm pc) ∧ X.cell? ⟨b, off + i * 3 + 1, none⟩ = some (.int .u8 (k : Int)) ∧ X.cell? ⟨b, off + i * 3 + 2, none⟩ = some (.slice LA lm lc)) (by kernel_rfl) ?_
        obtain ⟨X0, hX0⟩ : ∃ X, wr.drew = X := ⟨_, rfl⟩
        have hB0 : Below wr.heap.size wr X0 := by rw [← hX0]; exact (Below.refl wr.heap.size wr).drew
        have hHeld := HK.out X0 hB0
        rw [hX0]
        clear hX0
        refine' wpAnyT_take (i := 0) (oi := ?oiq1) (v := ?vq1) ?hiq1 (by kernel_rfl) (by kernel_rfl) ?hqq1 ?hyq1 hHeld ?restq1
        case hiq1 => (simp only [List.getElem?_toArray, List.getElem?_cons_zero]; rfl)
        case hqq1 => exact fun _ _ _ h => h
        case hyq1 => (refine Or.inl ⟨by rfl, ?_⟩; intro w' hSw; (try dsimp only at hSw); go_simp; try with_reducible rfl)
        (try simp only [Act.put, List.setIfInBounds_toArray, List.set_cons_zero, List.set_cons_succ])
        refine' wpAnyT_take (i := 1) (oi := ?oiq2) (v := ?vq2) ?hiq2 (by kernel_rfl) (by kernel_rfl) ?hqq2 ?hyq2 hHeld ?restq2
        case hiq2 => (simp only [List.getElem?_toArray, List.getElem?_cons_zero, List.getElem?_cons_succ]; rfl)
        case hqq2 => exact fun _ _ _ h => h
        case hyq2 => (refine Or.inl ⟨by rfl, ?_⟩; intro w' hSw; (try dsimp only at hSw); go_simp; try with_reducible rfl)
        (try simp only [Act.put, List.setIfInBounds_toArray, List.set_cons_zero, List.set_cons_succ])
        refine' wpAnyT_take (i := 2) (oi := ?oiq3) (v := ?vq3) ?hiq3 (by kernel_rfl) (by kernel_rfl) ?hqq3 ?hyq3 hHeld ?restq3
        case hiq3 => (simp only [List.getElem?_toArray, List.getElem?_cons_zero, List.getElem?_cons_succ]; rfl)
        case hqq3 => exact fun _ _ _ h => h
        case hyq3 => (refine Or.inl ⟨by rfl, ?_⟩; intro w' hSw; (try dsimp only at hSw); go_simp; try with_reducible rfl)
        (try simp only [Act.put, List.setIfInBounds_toArray, List.set_cons_zero, List.set_cons_succ])
        refine' wpAnyT_take (i := 3) (oi := ?oiq4) (v := ?vq4) ?hiq4 (by kernel_rfl) (by kernel_rfl) ?hqq4 ?hyq4 hHeld ?restq4
        case hiq4 => (simp only [List.getElem?_toArray, List.getElem?_cons_zero, List.getElem?_cons_succ]; rfl)
        case hqq4 => exact fun _ _ _ h => h
        case hyq4 => (refine Or.inl ⟨by rfl, ?_⟩; intro w' hSw; (try dsimp only at hSw); go_simp; try with_reducible rfl)
        (try simp only [Act.put, List.setIfInBounds_toArray, List.set_cons_zero, List.set_cons_succ])
        refine' wpAnyT_take (i := 4) (oi := ?oiq5) (v := ?vq5) ?hiq5 (by kernel_rfl) (by kernel_rfl) ?hqq5 ?hyq5 hHeld ?restq5
        case hiq5 => (simp only [List.getElem?_toArray, List.getElem?_cons_zero, List.getElem?_cons_succ]; rfl)
        case hqq5 => exact fun _ _ _ h => h
        case hyq5 => (refine Or.inl ⟨by rfl, ?_⟩; intro w' hSw; (try dsimp only at hSw); go_simp; try with_reducible rfl)
        (try simp only [Act.put, List.setIfInBounds_toArray, List.set_cons_zero, List.set_cons_succ])
        refine wpAnyT_all (l := [5, 10]) (by kernel_rfl) (by decide) ?_
        intro i hi
        simp only [List.mem_cons, List.not_mem_nil, or_false] at hi
        rcases hi with rfl | rfl
        · refine ⟨_, by (simp only [List.getElem?_toArray, List.getElem?_cons_zero, List.getElem?_cons_succ]; rfl), fun K hK => ?_⟩
          go_simp
          go_at_call 22
          refine (HSTP.out X0 hB0).mono ?_
          rintro e Yq44 ⟨st9, A9, c9, B9, d9, rfl, hg9, hl9, hbb44⟩
          have HG9 := hid hg9
          have HL9 := hid hl9
          clear hg9 hl9
          clear hHeld
          have hHeld := HK.out Yq44 (below_both hB0 hbb44)
          refine hK.out _ _ (fun _ => hHeld) ?_
          clear hK K
          (try simp only [Act.put, List.setIfInBounds_toArray, List.set_cons_zero, List.set_cons_succ])
          refine' wpAnyT_take (i := 6) (oi := ?oiq6) (v := ?vq6) ?hiq6 (by kernel_rfl) (by kernel_rfl) ?hqq6 ?hyq6 hHeld ?restq6
          case hiq6 => (simp only [List.getElem?_toArray, List.getElem?_cons_zero, List.getElem?_cons_succ]; rfl)
          case hqq6 => exact fun _ _ _ h => h
          case hyq6 => (refine Or.inl ⟨by rfl, ?_⟩; intro w' hSw; (try dsimp only at hSw); go_simp; try with_reducible rfl)
          (try simp only [Act.put, List.setIfInBounds_toArray, List.set_cons_zero, List.set_cons_succ])
          refine' wpAnyT_take (i := 7) (oi := ?oiq7) (v := ?vq7) ?hiq7 (by kernel_rfl) (by kernel_rfl) ?hqq7 ?hyq7 hHeld ?restq7
          case hiq7 => (simp only [List.getElem?_toArray, List.getElem?_cons_zero, List.getElem?_cons_succ]; rfl)
          case hqq7 => exact fun _ _ _ h => h
          case hyq7 => (refine Or.inl ⟨by rfl, ?_⟩; intro w' hSw; (try dsimp only at hSw); go_simp; try with_reducible rfl)
          (try simp only [Act.put, List.setIfInBounds_toArray, List.set_cons_zero, List.set_cons_succ])
          refine' wpAnyT_take (i := 8) (oi := ?oiq8) (v := ?vq8) ?hiq8 (by kernel_rfl) (by kernel_rfl) ?hqq8 ?hyq8 hHeld ?restq8
          case hiq8 => (simp only [List.getElem?_toArray, List.getElem?_cons_zero, List.getElem?_cons_succ]; rfl)
          case hqq8 => exact fun _ _ _ h => h
          case hyq8 => (refine Or.inl ⟨by rfl, ?_⟩; intro w' hSw; (try dsimp only at hSw); go_simp; try with_reducible rfl)
          (try simp only [Act.put, List.setIfInBounds_toArray, List.set_cons_zero, List.set_cons_succ])
          refine' wpAnyT_take (i := 9) (oi := ?oiq9) (v := ?vq9) ?hiq9 (by kernel_rfl) (by kernel_rfl) ?hqq9 ?hyq9 hHeld ?restq9
          case hiq9 => (simp only [List.getElem?_toArray, List.getElem?_cons_zero, List.getElem?_cons_succ]; rfl)
          case hqq9 => exact fun _ _ _ h => h
          case hyq9 => (refine Or.inl ⟨by rfl, ?_⟩; intro w' hSw; (try dsimp only at hSw); go_simp; try with_reducible rfl)
          (try simp only [Act.put, List.setIfInBounds_toArray, List.set_cons_zero, List.set_cons_succ])
          refine' wpAnyT_one (i := 10) (o := ?oiq10) (by kernel_rfl) ?hiq10 (fun K hK => ?stq10)
          case hiq10 => (simp only [List.getElem?_toArray, List.getElem?_cons_zero, List.getElem?_cons_succ]; rfl)
          go_simp
          obtain ⟨Yq9, hY⟩ : ∃ X, Yq44.alloc (.cells #[.slice none 0 0, .slice none 0 0] 35) = X := ⟨_, rfl⟩
          obtain ⟨px, hh⟩ : ∃ h, Yq44.heap.size = h := ⟨_, rfl⟩
          have hbb9 : Below Yq44.heap.size Yq44 Yq9 := by rw [← hY]; exact al1 _ _
          have HZpx : Hid (Yq9.heap[px]? = some (.cells #[.slice none 0 0, .slice none 0 0] 35)) := hid (by rw [← hY, ← hh]; exact heap_alloc_new _ _)
          have HPW : Hid (wr.heap.size ≤ px) := hid (by rw [← hh]; exact (below_both hB0 hbb44).size)
          rw [hY, hh]
          clear hY hh
          clear hHeld
          have hHeld := HK.out Yq9 (below_both hB0 (below_both hbb44 hbb9))
          refine hK.out _ _ (fun _ => hHeld) ?_
          clear hK K
          (try simp only [Act.put, List.setIfInBounds_toArray, List.set_cons_zero, List.set_cons_succ])
          refine' wpAnyT_one (i := 11) (o := ?oiq11) (by kernel_rfl) ?hiq11 (fun K hK => ?stq11)
          case hiq11 => (simp only [List.getElem?_toArray, List.getElem?_cons_zero, List.getElem?_cons_succ]; rfl)
          have hp15 := (((Below.refl _ _).block _ (box_lt HZpx.out)).trans HZpx.out)
          have p0 := cell_of_row _ _ 0 _ _ _ hp15
          have p1 := cell_of_row _ _ 1 _ _ _ hp15
          have fp0 := box_fr hp15 0
          have fp1 := box_fr hp15 1
          go_simp
          obtain ⟨YqN11, hY⟩ : ∃ X, (Yq9.setCell ⟨px, 0, none⟩ (.slice A9 n c9)).setCell ⟨px, 1, none⟩ (.slice B9 0 d9) = X := ⟨_, rfl⟩
          rw [hY]
          have HP15 : Hid (YqN11.heap[px]? = some (.cells #[.slice A9 n c9, .slice B9 0 d9] 35)) := hid (by rw [← hY]; exact disk_set hp15 _ _)
          have HO15 : Hid (OwnG YqN11 wr.heap.size st9 [] (.agg #[.slice A9 n c9, .slice B9 0 d9])) := hid (by rw [← hY]; exact (HG9.out.keep (keep_below hbb9) (keep_below hbb9) (Nat.le_refl _)).keep (keep_two hp15 (by decide)) (keep_two hp15 (by decide)) (Nat.le_refl _))
          have hbbnone11 : Below wr.heap.size wr YqN11 := by rw [← hY]; exact ((below_both hB0 (below_both hbb44 hbb9)).setCell HPW.out _).setCell HPW.out _
          clear hY hp15 p0 p1 fp0 fp1
          clear hHeld
          have hHeld := HK.out YqN11 hbbnone11
          refine hK.out _ _ (fun _ => hHeld) ?_
          clear hK K
          refine' wpAnyT_one (i := 12) (o := ?oiq12) (by kernel_rfl) ?hiq12 (fun K hK => ?stq12)
          case hiq12 => (simp only [List.getElem?_toArray, List.getElem?_cons_zero, List.getElem?_cons_succ]; rfl)
          go_simp
          refine hK.out _ _ (fun _ => hHeld) ?_
          clear hK K
          (try simp only [Act.put, List.setIfInBounds_toArray, List.set_cons_zero, List.set_cons_succ])
          refine' wpAnyT_one (i := 13) (o := ?oiq13) (by kernel_rfl) ?hiq13 (fun K hK => ?stq13)
          case hiq13 => (simp only [List.getElem?_toArray, List.getElem?_cons_zero, List.getElem?_cons_succ]; rfl)
          go_simp
          refine hK.out _ _ (fun h => absurd h (by decide)) ?_
          clear hK K
          (try simp only [Act.put, List.setIfInBounds_toArray, List.set_cons_zero, List.set_cons_succ])
          refine wpAnyT_done (by kernel_rfl) ?_ _
          exact HC.out YqN11 px A9 c9 B9 d9 ⟨hbbnone11, HPW.out, HP15.out, st9, HO15.out, HL9.out⟩
        · refine ⟨_, by (simp only [List.getElem?_toArray, List.getElem?_cons_zero, List.getElem?_cons_succ]; rfl), fun K hK => ?_⟩
          go_simp
          obtain ⟨Yq9, hY⟩ : ∃ X, X0.alloc (.cells #[.slice none 0 0, .slice none 0 0] 35) = X := ⟨_, rfl⟩
          obtain ⟨px, hh⟩ : ∃ h, X0.heap.size = h := ⟨_, rfl⟩
          have hbb9 : Below X0.heap.size X0 Yq9 := by rw [← hY]; exact al1 _ _
          have HZpx : Hid (Yq9.heap[px]? = some (.cells #[.slice none 0 0, .slice none 0 0] 35)) := hid (by rw [← hY, ← hh]; exact heap_alloc_new _ _)
          have HPW : Hid (wr.heap.size ≤ px) := hid (by rw [← hh]; exact hB0.size)
          rw [hY, hh]
          clear hY hh
          clear hHeld
          have hHeld := HK.out Yq9 (below_both hB0 hbb9)
          refine hK.out _ _ (fun _ => hHeld) ?_
          clear hK K
          (try simp only [Act.put, List.setIfInBounds_toArray, List.set_cons_zero, List.set_cons_succ])
          refine' wpAnyT_one (i := 5) (o := ?oiq14) (by kernel_rfl) ?hiq14 (fun K hK => ?stq14)
          case hiq14 => (simp only [List.getElem?_toArray, List.getElem?_cons_zero, List.getElem?_cons_succ]; rfl)
          go_simp
          go_at_call 22
          refine (HSTP.out Yq9 (below_both hB0 hbb9)).mono ?_
          rintro e Yq44 ⟨st9, A9, c9, B9, d9, rfl, hg9, hl9, hbb44⟩
          have HG9 := hid hg9
          have HL9 := hid hl9
          clear hg9 hl9
          clear hHeld
          have hHeld := HK.out Yq44 (below_both hB0 (below_both hbb9 hbb44))
          refine hK.out _ _ (fun _ => hHeld) ?_
          clear hK K
          (try simp only [Act.put, List.setIfInBounds_toArray, List.set_cons_zero, List.set_cons_succ])
          refine' wpAnyT_take (i := 6) (oi := ?oiq15) (v := ?vq15) ?hiq15 (by kernel_rfl) (by kernel_rfl) ?hqq15 ?hyq15 hHeld ?restq15
          case hiq15 => (simp only [List.getElem?_toArray, List.getElem?_cons_zero, List.getElem?_cons_succ]; rfl)
          case hqq15 => exact fun _ _ _ h => h
          case hyq15 => (refine Or.inl ⟨by rfl, ?_⟩; intro w' hSw; (try dsimp only at hSw); go_simp; try with_reducible rfl)
          (try simp only [Act.put, List.setIfInBounds_toArray, List.set_cons_zero, List.set_cons_succ])
          refine' wpAnyT_take (i := 7) (oi := ?oiq16) (v := ?vq16) ?hiq16 (by kernel_rfl) (by kernel_rfl) ?hqq16 ?hyq16 hHeld ?restq16
          case hiq16 => (simp only [List.getElem?_toArray, List.getElem?_cons_zero, List.getElem?_cons_succ]; rfl)
          case hqq16 => exact fun _ _ _ h => h
          case hyq16 => (refine Or.inl ⟨by rfl, ?_⟩; intro w' hSw; (try dsimp only at hSw); go_simp; try with_reducible rfl)
          (try simp only [Act.put, List.setIfInBounds_toArray, List.set_cons_zero, List.set_cons_succ])
          refine' wpAnyT_take (i := 8) (oi := ?oiq17) (v := ?vq17) ?hiq17 (by kernel_rfl) (by kernel_rfl) ?hqq17 ?hyq17 hHeld ?restq17
          case hiq17 => (simp only [List.getElem?_toArray, List.getElem?_cons_zero, List.getElem?_cons_succ]; rfl)
          case hqq17 => exact fun _ _ _ h => h
          case hyq17 => (refine Or.inl ⟨by rfl, ?_⟩; intro w' hSw; (try dsimp only at hSw); go_simp; try with_reducible rfl)
          (try simp only [Act.put, List.setIfInBounds_toArray, List.set_cons_zero, List.set_cons_succ])
          refine' wpAnyT_take (i := 9) (oi := ?oiq18) (v := ?vq18) ?hiq18 (by kernel_rfl) (by kernel_rfl) ?hqq18 ?hyq18 hHeld ?restq18
          case hiq18 => (simp only [List.getElem?_toArray, List.getElem?_cons_zero, List.getElem?_cons_succ]; rfl)
          case hqq18 => exact fun _ _ _ h => h
          case hyq18 => (refine Or.inl ⟨by rfl, ?_⟩; intro w' hSw; (try dsimp only at hSw); go_simp; try with_reducible rfl)
          (try simp only [Act.put, List.setIfInBounds_toArray, List.set_cons_zero, List.set_cons_succ])
          refine' wpAnyT_one (i := 11) (o := ?oiq19) (by kernel_rfl) ?hiq19 (fun K hK => ?stq19)
          case hiq19 => (simp only [List.getElem?_toArray, List.getElem?_cons_zero, List.getElem?_cons_succ]; rfl)
          have hp15 := ((hbb44.block _ (box_lt HZpx.out)).trans HZpx.out)
          have p0 := cell_of_row _ _ 0 _ _ _ hp15
          have p1 := cell_of_row _ _ 1 _ _ _ hp15
          have fp0 := box_fr hp15 0
          have fp1 := box_fr hp15 1
          go_simp
          obtain ⟨YqN11, hY⟩ : ∃ X, (Yq44.setCell ⟨px, 0, none⟩ (.slice A9 n c9)).setCell ⟨px, 1, none⟩ (.slice B9 0 d9) = X := ⟨_, rfl⟩
          rw [hY]
          have HP15 : Hid (YqN11.heap[px]? = some (.cells #[.slice A9 n c9, .slice B9 0 d9] 35)) := hid (by rw [← hY]; exact disk_set hp15 _ _)
          have HO15 : Hid (OwnG YqN11 wr.heap.size st9 [] (.agg #[.slice A9 n c9, .slice B9 0 d9])) := hid (by rw [← hY]; exact (HG9.out.keep (keep_below (Below.refl _ _)) (keep_below (Below.refl _ _)) (Nat.le_refl _)).keep (keep_two hp15 (by decide)) (keep_two hp15 (by decide)) (Nat.le_refl _))
          have hbbnone11 : Below wr.heap.size wr YqN11 := by rw [← hY]; exact ((below_both hB0 (below_both hbb9 hbb44)).setCell HPW.out _).setCell HPW.out _
          clear hY hp15 p0 p1 fp0 fp1
          clear hHeld
          have hHeld := HK.out YqN11 hbbnone11
          refine hK.out _ _ (fun _ => hHeld) ?_
          clear hK K
          refine' wpAnyT_one (i := 12) (o := ?oiq20) (by kernel_rfl) ?hiq20 (fun K hK => ?stq20)
          case hiq20 => (simp only [List.getElem?_toArray, List.getElem?_cons_zero, List.getElem?_cons_succ]; rfl)
          go_simp
          refine hK.out _ _ (fun _ => hHeld) ?_
          clear hK K
          (try simp only [Act.put, List.setIfInBounds_toArray, List.set_cons_zero, List.set_cons_succ])
          refine' wpAnyT_one (i := 13) (o := ?oiq21) (by kernel_rfl) ?hiq21 (fun K hK => ?stq21)
          case hiq21 => (simp only [List.getElem?_toArray, List.getElem?_cons_zero, List.getElem?_cons_succ]; rfl)
          go_simp
          refine hK.out _ _ (fun h => absurd h (by decide)) ?_
          clear hK K
          (try simp only [Act.put, List.setIfInBounds_toArray, List.set_cons_zero, List.set_cons_succ])
          refine wpAnyT_done (by kernel_rfl) ?_ _
          exact HC.out YqN11 px A9 c9 B9 d9 ⟨hbbnone11, HPW.out, HP15.out, st9, HO15.out, HL9.out⟩
      · rintro X px A9 c9 B9 d9 ⟨hbx, hpw, hpx, st9, hg9, hl9⟩
        have HBX := hid hbx
        have HPX := hid hpx
        have HG9 := hid hg9
        have hsg := step_good (full := 2 ≤ k) (i := ii) (p := p) (q := q) (g := g) (st := st) (st' := st9) (by rw [HLEN.out]; exact HHI.out.1) HGOOD.out HFW.out HPV.out.1 (by have := HGRT.out; have := H12.out; omega) (by rw [HBBe.out, HSS.out]; exact hl9)
        obtain ⟨hgr9, ii9, p9, g9, hgood9, hcase⟩ := hsg
        have h9l : st9.length = n := by rw [hl9.len, HLEN.out]
        have HLD := hid (load_dk hg9.dk (a := 5) ⟨by omega, by omega⟩ (by decide) (load_good (by rw [h9l]; exact HHI.out.1) (by rw [h9l]; exact HHI.out.2) hgood9))
        have HGR9 : Hid (grt (supL st9) ≤ 1 + (i + 1)) := hid (by have := HGRT.out; omega)
        have HGOOD9 := hid hgood9
        have H9L := hid h9l
        obtain ⟨pl9, hpl9⟩ : ∃ z, p9.length = z := ⟨_, rfl⟩
        rw [hpl9] at HLD
        have HPL9 := hid hpl9
        have u0 := cell_of_row _ _ 0 _ _ _ hpx
        have u1 := cell_of_row _ _ 1 _ _ _ hpx
        clear hbx hpx hg9 hl9 hgr9 hgood9 h9l hpl9 HSTP HK
        go_upto_region 10 with (go_at_call 15; refine HLD.out.mono ?_; rintro e X2 ⟨PP, ppc, rfl, _, hb9⟩; have HBX2 := hid (HBX.out.trans (hb9.mono HBX.out.size)); have HB92 := hid hb9; have hpv := (HBX2.out.cell (p := ⟨b, off + i * 3, none⟩) HBLW.out).trans HCX.out; clear hb9)
        clear u0 u1
        have HX6z := hid ((HBX2.out.block _ (box_lt HX6.out)).trans HX6.out)
        have hpx2 := (HB92.out.block _ (box_lt HPX.out)).trans HPX.out
        have HPX2 := hid hpx2
        have HG92 := hid (HG9.out.keep (keep_below HB92.out) (keep_below HB92.out) (Nat.le_refl _))
        have HBZ : Hid (Below w.heap.size w X2) := hid (HB.out.trans (HBX2.out.mono HB.out.size))
        have HWSZ : Hid (w.heap.size ≤ wr.heap.size) := hid (HB.out.size)
        have hpx6 : px ≠ g6 := by
          have := box_lt HX6.out
          omega
        have hp6x := hpx6.symm
        have cdn : dn = decide (2 ≤ k) := HDN.out.symm
        have HCASE := hid hcase
        have HCDN := hid cdn
        clear hcase cdn hpw HLD HBX HPX
        have dl2 := dl
        clear dl
        have hge : g ≤ g9 := by
          rcases HCASE.out with ⟨_, h, _⟩ | ⟨_, h⟩ <;> omega
        have dlt : decide ((g9 : Int) < (g : Int)) = false := decide_eq_false (by omega)
        have dlt' : decide (g9 < g) = false := decide_eq_false (by omega)
        cases dn with
        | true =>
          have hgt : g < g9 := by
            rcases HCASE.out with ⟨_, _, hnf⟩ | ⟨_, h⟩
            · exact absurd (of_decide_eq_true HCDN.out.symm) hnf
            · exact h
          have deq : ((g9 : Int) == (g : Int)) = false := by rw [beq_eq_false_iff_ne]; omega
          clear hgt hge
          go_upto_region 12 with fail
          have hs12 := H12.out
          have hq0 := cell_of_row _ _ 0 _ _ _ HPX2.out
          have hq1 := cell_of_row _ _ 1 _ _ _ HPX2.out
          have hs0 := cell_of_row _ _ 0 _ _ _ HX6z.out
          have hs1 := cell_of_row _ _ 1 _ _ _ HX6z.out
          have hf0 := box_fr HX6z.out 0
          have hf1 := box_fr HX6z.out 1
          have HXN : Hid (((X2.setCell ⟨g6, 0, none⟩ (.slice A9 n c9)).setCell ⟨g6, 1, none⟩ (.slice B9 0 d9)).heap[g6]? = some (.cells #[.slice A9 n c9, .slice B9 0 d9] 35)) := hid (disk_set HX6z.out _ _)
          have HGN : Hid (OwnG ((X2.setCell ⟨g6, 0, none⟩ (.slice A9 n c9)).setCell ⟨g6, 1, none⟩ (.slice B9 0 d9)) w.heap.size st9 [] (.agg #[.slice A9 n c9, .slice B9 0 d9])) := hid (HG92.out.keep (keep_two HX6z.out (by decide)) (keep_two HX6z.out (by decide)) HWSZ.out)
          have HBN : Hid (Below w.heap.size w ((X2.setCell ⟨g6, 0, none⟩ (.slice A9 n c9)).setCell ⟨g6, 1, none⟩ (.slice B9 0 d9))) := hid ((HBZ.out.setCell (p := ⟨g6, 0, none⟩) HG6W.out _).setCell (p := ⟨g6, 1, none⟩) HG6W.out _)
          go_wp2_with fail
          go_roundw
          case rel => exact ⟨i + 1, st9, A9, c9, B9, d9, ii9, p9, g9, by omega, by go_num, rfl, HXN, HGN, H9L, HGOOD9, HGR9, HBN⟩
          case measure => simp [Go.RowKit.intOf]; omega
        | false =>
          clear hge
          go_upto_region 12 with fail
          have hs12 := H12.out
          have hq0 := cell_of_row _ _ 0 _ _ _ HPX2.out
          have hq1 := cell_of_row _ _ 1 _ _ _ HPX2.out
          have hs0 := cell_of_row _ _ 0 _ _ _ HX6z.out
          have hs1 := cell_of_row _ _ 1 _ _ _ HX6z.out
          have hf0 := box_fr HX6z.out 0
          have hf1 := box_fr HX6z.out 1
          have HXN : Hid (((X2.setCell ⟨g6, 0, none⟩ (.slice A9 n c9)).setCell ⟨g6, 1, none⟩ (.slice B9 0 d9)).heap[g6]? = some (.cells #[.slice A9 n c9, .slice B9 0 d9] 35)) := hid (disk_set HX6z.out _ _)
          have HGN : Hid (OwnG ((X2.setCell ⟨g6, 0, none⟩ (.slice A9 n c9)).setCell ⟨g6, 1, none⟩ (.slice B9 0 d9)) w.heap.size st9 [] (.agg #[.slice A9 n c9, .slice B9 0 d9])) := hid (HG92.out.keep (keep_two HX6z.out (by decide)) (keep_two HX6z.out (by decide)) HWSZ.out)
          have HBN : Hid (Below w.heap.size w ((X2.setCell ⟨g6, 0, none⟩ (.slice A9 n c9)).setCell ⟨g6, 1, none⟩ (.slice B9 0 d9))) := hid ((HBZ.out.setCell (p := ⟨g6, 0, none⟩) HG6W.out _).setCell (p := ⟨g6, 1, none⟩) HG6W.out _)
          go_wp2_with fail
          go_roundw
          case rel => exact ⟨i + 1, st9, A9, c9, B9, d9, ii9, p9, g9, by omega, by go_num, rfl, HXN, HGN, H9L, HGOOD9, HGR9, HBN⟩
          case measure => simp [Go.RowKit.intOf]; omega
    · obtain rfl : i = sn := by omega
      have dl : decide ((i : Int) < (i : Int)) = false := decide_eq_false (by omega)
      go_wp2_with (go_at_call 10; refine (awake_any wr).mono ?_; rintro e X2 ⟨rfl, hb⟩; have HBE := hid (HB.out.trans (hb.mono HB.out.size)); clear hb)
      go_ret
      exact ⟨rfl, HBE.out⟩
end Go.Proofs.Ytnocgfhcamnjdaa
