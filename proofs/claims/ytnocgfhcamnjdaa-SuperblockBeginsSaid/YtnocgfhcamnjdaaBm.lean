/- The walk of Begins. -/
import Derived.Test.YtnocgfhcamnjdaaBl
namespace Go.Proofs.Ytnocgfhcamnjdaa
open Go.RowKit Go.Lib

set_option maxHeartbeats 4000000 in
set_option maxRecDepth 100000 in
theorem begins_any (v : Value) (old : List Nat) (u : Value) (pay : List Nat) (x : StT) (w : World) (hv : Byt w v old) (hu : Byt w u pay) (hx : StOk w x) :
    Calls Try.prog 9 #[v, u, .agg (cSt x).toArray] w (TrueQ w) := by
  obtain ⟨VA, vc, rfl⟩ := byt_form hv
  obtain ⟨UA, uc, rfl⟩ := byt_form hu
  obtain ⟨xpv, q, k, xcv, ch⟩ := x
  obtain ⟨hpv8, hk256, hch8⟩ := hx
  dsimp only at hpv8 hk256 hch8
  obtain ⟨PA, pc, rfl⟩ := byt_form hpv8
  obtain ⟨LA, lc, rfl⟩ := ints_form hch8
  obtain ⟨vn, hvn⟩ : ∃ n, old.length = n := ⟨_, rfl⟩
  obtain ⟨un, hun⟩ : ∃ n, pay.length = n := ⟨_, rfl⟩
  obtain ⟨pm, hpm⟩ : ∃ n, q.length = n := ⟨_, rfl⟩
  obtain ⟨lm, hlm⟩ : ∃ n, ch.length = n := ⟨_, rfl⟩
  unfold cSt
  dsimp only
  rw [hvn] at hv
  rw [hun] at hu
  rw [hpm] at hpv8
  rw [hlm] at hch8
  rw [hvn, hun, hpm, hlm]
  obtain ⟨g5, hg5⟩ : ∃ q, w.heap.size = q := ⟨_, rfl⟩
  obtain ⟨W1, hW1⟩ : ∃ X, w.alloc (.cells #[.slice PA pm pc, .int .u8 (k : Int), .slice LA lm lc] 54) = X := ⟨_, rfl⟩
  have hb1 : Below w.heap.size w W1 := by rw [← hW1]; exact al1 _ _
  have hx5 : W1.heap[g5]? = some (.cells #[.slice PA pm pc, .int .u8 (k : Int), .slice LA lm lc] 54) := by rw [← hW1, ← hg5]; exact heap_alloc_new _ _
  obtain ⟨W2, hW2⟩ : ∃ X, W1.alloc (.cells #[.slice PA pm pc, .int .u8 (k : Int), .slice LA lm lc] 54) = X := ⟨_, rfl⟩
  have hb12 : Below W1.heap.size W1 W2 := by rw [← hW2]; exact al1 _ _
  have hst2 : Steps W2 (.slice (some ⟨W1.heap.size, 0, none⟩) 1 1) [⟨.slice PA pm pc, q, k, .slice LA lm lc, ch⟩] := by
    refine ⟨fun y hy => ?_, ?_⟩
    · rw [List.mem_singleton.1 hy]
      exact StOk.below (w := w) ⟨hpv8, hk256, hch8⟩ (below_both hb1 hb12)
    · rw [← hW2]
      exact arr_new W1 54 3 1 [cSt ⟨.slice PA pm pc, q, k, .slice LA lm lc, ch⟩] _ (fun r hr => by rw [List.mem_singleton.1 hr]; rfl) rfl (by unfold maxLen; omega) rfl
  have HSM := hid (small_any _ _ W2 hst2)
  have HFD : Hid (smallB [⟨.slice PA pm pc, q, k, .slice LA lm lc, ch⟩] = decide (q.length ≤ 31 ∧ ch.length ≤ 40)) := hid (by
    unfold smallB
    refine decide_eq_decide.2 ⟨fun h => h.1 _ (List.mem_singleton.2 rfl), fun h => ⟨fun y hy => by rw [List.mem_singleton.1 hy]; exact h, by show 1 ≤ 12; omega⟩⟩)
  have s0 := cell_of_row _ _ 0 _ _ _ hx5
  have s1 := cell_of_row _ _ 1 _ _ _ hx5
  have s2 := cell_of_row _ _ 2 _ _ _ hx5
  have HV := hid hv
  have HU := hid hu
  have HPV := hid hpv8
  have HCH := hid hch8
  have HVN := hid hvn
  have HUN := hid hun
  have HPM := hid hpm
  have HLM := hid hlm
  have HX5 := hid hx5
  have HB1 := hid hb1
  have HB12 := hid (below_both hb1 hb12)
  have HW1 := hid hW1
  have HW2 := hid hW2
  have HG5 := hid hg5
  have HX5b := hid ((hb12.block _ (box_lt hx5)).trans hx5)
  clear hv hu hpv8 hch8 hvn hun hpm hlm hg5 hW1 hb1 hx5 hW2 hb12 hst2
  by_cases h31 : 31 < vn
  · have d0 : decide (31 < (vn : Int)) = true := decide_eq_true (by omega)
    have d0' : decide (31 < vn) = true := decide_eq_true h31
    go_enter Try.func9, Try.ntmps9
    go_upto_region 1 with fail
    rw [HW1.out, HG5.out]
    go_wp2_with (go_at_call 10; refine (awake_any W1).mono ?_; rintro e X ⟨rfl, hb⟩)
    go_ret
    exact ⟨rfl, below_both HB1.out hb⟩
  have d0 : decide (31 < (vn : Int)) = false := decide_eq_false (by omega)
  have d0' : decide (31 < vn) = false := decide_eq_false h31
  by_cases h32 : 31 < un
  · have d1 : decide (31 < (un : Int)) = true := decide_eq_true (by omega)
    have d1' : decide (31 < un) = true := decide_eq_true h32
    go_enter Try.func9, Try.ntmps9
    go_upto_region 1 with fail
    rw [HW1.out, HG5.out]
    go_wp2_with (go_at_call 10; refine (awake_any W1).mono ?_; rintro e X ⟨rfl, hb⟩)
    go_ret
    exact ⟨rfl, below_both HB1.out hb⟩
  have d1 : decide (31 < (un : Int)) = false := decide_eq_false (by omega)
  have d1' : decide (31 < un) = false := decide_eq_false h32
  rw [HFD.out] at HSM
  by_cases hfw : q.length ≤ 31 ∧ ch.length ≤ 40
  case neg =>
    rw [decide_eq_false hfw] at HSM
    clear hfw
    go_enter Try.func9, Try.ntmps9
    go_upto_region 1 with fail
    rw [HW1.out, HG5.out]
    go_wp2_with (first
      | (go_at_call 20; rw [HW2.out]; refine HSM.out.mono ?_; rintro e X ⟨rfl, rfl⟩)
      | (go_at_call 10; refine (awake_any _).mono ?_; rintro e X ⟨rfl, hb⟩))
    go_ret
    exact ⟨rfl, below_both HB12.out hb⟩
  rw [decide_eq_true hfw] at HSM
  have HFW := hid hfw
  have HBG := hid (begin_any [] (.slice none 0 0) _ old W2 ⟨(fun s (hs : s ∈ []) => by cases hs), arr_nil _ _⟩ nilOk_nil (HV.out.below HB12.out) (by decide) (by rw [HVN.out]; omega))
  have HVL : Hid (old.length ≤ 31) := hid (by rw [HVN.out]; omega)
  have HUL : Hid (pay.length ≤ 31) := hid (by rw [HUN.out]; omega)
  clear hfw HFD
  go_enter Try.func9, Try.ntmps9
  go_upto_region 1 with fail
  rw [HW1.out, HG5.out]
  go_upto_region 3 with (go_at_call 20; rw [HW2.out]; refine HSM.out.mono ?_; rintro e W2 ⟨rfl, rfl⟩)
  clear s0 s1 s2 d0 d0' d1 d1'
  go_upto_region 4 with (go_at_call 21; refine HBG.out.mono ?_; rintro e X1 ⟨st0, A0, c0, B0, d0, rfl, hg0, hbg, hb0⟩; have HG0 := hid hg0; have HBGN := hid hbg; have HB1x := hid hb0; clear hg0 hbg hb0)
  obtain ⟨n, hn⟩ : ∃ n, st0.length = n := ⟨_, rfl⟩
  obtain ⟨W3, hW3⟩ : ∃ X, X1.alloc (.cells #[.slice A0 st0.length c0, .slice B0 0 d0] 35) = X := ⟨_, rfl⟩
  obtain ⟨g7, hg7⟩ : ∃ q, X1.heap.size = q := ⟨_, rfl⟩
  have hb3 : Below X1.heap.size X1 W3 := by rw [← hW3]; exact al1 _ _
  have hx7 : W3.heap[g7]? = some (.cells #[.slice A0 st0.length c0, .slice B0 0 d0] 35) := by rw [← hW3, ← hg7]; exact heap_alloc_new _ _
  have hb23 := HB1x.out.trans (hb3.mono HB1x.out.size)
  have hx5 := (hb23.block _ (box_lt HX5b.out)).trans HX5b.out
  have hb13 := HB12.out.trans (hb23.mono HB12.out.size)
  have hn30 : n = 30 := by rw [← hn, HBGN.out.len]; rfl
  have hgr1 : grt (supL st0) = 1 := by
    have h1 := HBGN.out.grt
    have h2 := good_grt HBGN.out.good
    omega
  have hstp := step_any st0 _ ⟨_, q, k, _, ch⟩ 0 old 1 W3 (HG0.out.dk.below hb3) (StOk.below (w := w) ⟨by rw [← HPM.out] at HPV; exact HPV.out, hk256, by rw [← HLM.out] at HCH; exact HCH.out⟩ hb13) HFW.out (by rw [hn, hn30]; decide) (by rw [hn, hn30]; decide) HBGN.out.good (by rw [hgr1]; decide)
  dsimp only [cSt] at hstp
  rw [hgr1, hn, HPM.out, HLM.out] at hstp
  obtain ⟨dn, hdn⟩ : ∃ z, doneK k = z := ⟨_, rfl⟩
  rw [hdn] at hstp
  have HSTP : Hid (Calls Try.prog 22 #[.agg #[.slice A0 n c0, .slice B0 0 d0], .agg #[.slice PA pm pc, .int .u8 (k : Int), .slice LA lm lc]] W3 fun e w' => ∃ st9 A9 c9 B9 d9, e = .returned (.tuple #[.agg #[.slice A9 n c9, .slice B9 0 d9], .bool dn, .bool true]) ∧ OwnG w' W3.heap.size st9 [] (.agg #[.slice A9 n c9, .slice B9 0 d9]) ∧ (st9.length = n ∧ Known [old, q] (supL st9)) ∧ Below W3.heap.size W3 w') := hid (by
    refine hstp.mono ?_
    rintro e w' ⟨st9, A9, c9, B9, d9, rfl, h1, h2, h3⟩
    have e9 : st9.length = n := by rw [h2.len, hn]
    rw [e9] at h1 ⊢
    exact ⟨st9, A9, c9, B9, d9, rfl, h1, ⟨e9, known_step (by rw [hn, hn30]; decide) HBGN.out HFW.out.1 h2⟩, h3⟩)
  rw [hn] at hx7
  have HX7 := hid hx7
  have HX53 := hid hx5
  have HB3 := hid hb13
  have HN30 := hid hn30
  have HG7 : Hid (w.heap.size ≤ g7) := hid (by rw [← hg7]; exact (HB12.out.trans (HB1x.out.mono HB12.out.size)).size)
  have hg57 : g5 ≠ g7 := by
    have h1 := box_lt HX5b.out
    have h2 := HB1x.out.size
    omega
  have hg75 := hg57.symm
  have t0 := cell_of_row _ _ 0 _ _ _ hx7
  have t1 := cell_of_row _ _ 1 _ _ _ hx7
  have s0 := cell_of_row _ _ 0 _ _ _ hx5
  have s1 := cell_of_row _ _ 1 _ _ _ hx5
  have s2 := cell_of_row _ _ 2 _ _ _ hx5
  rw [hW3, hg7]
  rw [hn]
  clear hW3 hg7 hb3 hx7 hb23 hx5 hb13 hn30 hgr1 hstp hdn hn
  go_upto_region 5 with (go_at_call 22; refine HSTP.out.mono ?_; rintro e X4 ⟨st, A, c, B, d, rfl, hg4, hkn, hb4⟩; have HG4 := hid hg4; have HKN := hid hkn; have HB4 := hid (HB3.out.trans (hb4.mono HB3.out.size)); have hx7 := (hb4.block _ (box_lt HX7.out)).trans HX7.out; have HX74 := hid hx7; have HX54 := hid ((hb4.block _ (box_lt HX53.out)).trans HX53.out); have z0 := cell_of_row _ _ 0 _ _ _ hx7; have z1 := cell_of_row _ _ 1 _ _ _ hx7; have f0 := box_fr hx7 0; have f1 := box_fr hx7 1; clear hg4 hkn hb4 hx7)
  clear t0 t1 s0 s1 s2 z0 z1 f0 f1
  obtain ⟨W5, hW5⟩ : ∃ X, (X4.setCell ⟨g7, 0, none⟩ (.slice A n c)).setCell ⟨g7, 1, none⟩ (.slice B 0 d) = X := ⟨_, rfl⟩
  have HX75 : Hid (W5.heap[g7]? = some (.cells #[.slice A n c, .slice B 0 d] 35)) := hid (by rw [← hW5]; exact disk_set HX74.out _ _)
  have HX55 : Hid (W5.heap[g5]? = some (.cells #[.slice PA pm pc, .int .u8 (k : Int), .slice LA lm lc] 54)) := hid (by rw [← hW5, Below.heap_setCell _ _ _ _ hg57, Below.heap_setCell _ _ _ _ hg57]; exact HX54.out)
  have HG5b : Hid (OwnG W5 W3.heap.size st [] (.agg #[.slice A n c, .slice B 0 d])) := hid (by rw [← hW5]; exact HG4.out.keep (keep_two HX74.out (by decide)) (keep_two HX74.out (by decide)) (Nat.le_refl _))
  have HB5 : Hid (Below w.heap.size w W5) := hid (by rw [← hW5]; exact (HB4.out.setCell (p := ⟨g7, 0, none⟩) HG7.out _).setCell (p := ⟨g7, 1, none⟩) HG7.out _)
  rw [hW5]
  clear hW5
  have hfE : fmtE 5 pay = 0 := by unfold fmtE; rw [if_neg (by omega), if_neg (by have := HUL.out; omega)]
  have hfC : fmtC 5 pay = repC 5 (List.replicate 16 zs) ++ repC 5 (secsN 1 8 (conL pay)) := by unfold fmtC; rw [if_pos hfE]
  have hFM := made_at 4 (format_any 5 pay _ W5 (HU.out.below HB5.out) ⟨by omega, by omega⟩) hfE hfC rfl
  have HFM := hid hFM
  clear hfE hfC hFM HG4 HX74 HX54
  go_upto_region 9 with (go_at_call 11; refine HFM.out.mono ?_; rintro e X6 ⟨O7, o7, l7, rfl, ho, hon, hl7, hb6⟩; have HO := hid ho; have HLO := hid hl7; have HG6 := hid (HG5b.out.keep (keep_below hb6) (keep_below hb6) (Nat.le_refl _)); have HX76 := hid ((hb6.block _ (box_lt HX75.out)).trans HX75.out); have HX56 := hid ((hb6.block _ (box_lt HX55.out)).trans HX55.out); have HB6 := hid (HB5.out.trans (hb6.mono HB5.out.size)); clear ho hon hl7 hb6)
  clear HFM HX75 HX55 HG5b
  go_loopw [13] (fun jv wr => ∃ j : Nat, j ≤ 5 ∧ jv = .int .i64 (j : Int) ∧ Hid (Below X6.heap.size X6 wr)) (fun jv _ => 5 - (Go.RowKit.intOf jv).toNat)
  case atStart => exact ⟨0, Nat.zero_le _, rfl, hid (Below.refl _ _)⟩
  case round =>
    obtain ⟨j, hj, rfl, HBJ⟩ := hrel
    have HBW : Hid (Below w.heap.size w wr) := hid (HB6.out.trans (HBJ.out.mono HB6.out.size))
    by_cases hj4 : j ≤ 4
    · have dj : decide ((j : Int) ≤ 4) = true := decide_eq_true (by omega)
      have hx7 := (HBJ.out.block _ (box_lt HX76.out)).trans HX76.out
      have hx5 := (HBJ.out.block _ (box_lt HX56.out)).trans HX56.out
      have HX5r := hid hx5
      have c0 := cell_of_row _ _ 0 _ _ _ hx7
      have c1 := cell_of_row _ _ 1 _ _ _ hx7
      have c2 := cell_of_row _ _ 2 _ _ _ hx5
      obtain ⟨st', ch', hin, hlen', hk1, hk2, hk4⟩ := fmt_inter (p := pay) (K := [old, q]) (ops := l7) HG6.out.2.1 (by rw [HKN.out.1, HN30.out]; decide) (by rw [HKN.out.1, HN30.out]; decide) HUL.out HU.out.1 HKN.out.2 HLO.out j hj4 ch
      have hst' : st'.length = n := by rw [hlen', HKN.out.1]
      obtain ⟨sv1, cv1, e1, q1, q2, q3⟩ := HG6.out.dk.below HBJ.out
      injection e1 with e1
      injection e1 with e1
      injection e1 with e1 e1'
      injection e1' with e1'
      subst e1 e1'
      have hch := HCH.out.below HBW.out
      have HIT := hid (interrupt_any st [] _ _ _ _ l7 (j : Int) ch wr q1 q2 q3 (HO.out.below HBJ.out) hch (by rw [HKN.out.1, HN30.out]; decide) (by rw [tot_mk, HLO.out]; show 0 + (16 + (0 + ((secsN 1 8 (conL pay)).length + (0 + 0)))) ≤ 500000; rw [secsN_len]; decide) (by have := HFW.out.2; omega) ⟨by omega, by omega⟩)
      rw [hin] at HIT
      have HIT2 : Hid (∀ e w', IntQ wr (0, st', [], ch') e w' → ∃ A c B d u, e = .returned (.tuple #[.agg #[.slice A n c, .slice B 0 d], u, .int .i64 0]) ∧ OwnG w' wr.heap.size st' [] (.agg #[.slice A n c, .slice B 0 d]) ∧ Below wr.heap.size wr w') := hid (fun e w' h => by
        obtain ⟨v', u', rfl, hg, _, hb⟩ := h
        obtain ⟨sv', cv', rfl, p1, p2, p3⟩ := hg.dk
        obtain ⟨A, c, rfl⟩ := sec_form p1
        obtain ⟨B, d, rfl⟩ := cas_form p3
        rw [hst'] at hg ⊢
        exact ⟨A, c, B, d, u', rfl, hg, hb⟩)
      have HST' : Hid (st'.length = n) := hid hst'
      have HK1 := hid hk1
      have HK2 := hid hk2
      have HK4 := hid hk4
      clear q1 q2 q3 hin hlen' hk1 hk2 hk4 hst' hch hx7 hx5
      go_upto_region 12 with (go_at_call 23; refine HIT.out.mono ?_; intro e X7 hQ; obtain ⟨A9, c9, B9, d9, u9, rfl, hg9, hb9⟩ := HIT2.out _ _ hQ; have HG9 := hid hg9; have HB7 := hid hb9; clear hQ hg9 hb9)
      clear c0 c1 c2
      obtain ⟨W8, hW8⟩ : ∃ X, X7.alloc (.cells #[.slice A9 n c9, .slice B9 0 d9] 35) = X := ⟨_, rfl⟩
      obtain ⟨g14, hg14⟩ : ∃ q, X7.heap.size = q := ⟨_, rfl⟩
      have hb8 : Below X7.heap.size X7 W8 := by rw [← hW8]; exact al1 _ _
      have hx14 : W8.heap[g14]? = some (.cells #[.slice A9 n c9, .slice B9 0 d9] 35) := by rw [← hW8, ← hg14]; exact heap_alloc_new _ _
      have HB8 := hid (HB7.out.trans (hb8.mono HB7.out.size))
      have HD8 := hid ((HG9.out.keep (keep_below hb8) (keep_below hb8) (Nat.le_refl _)).dk)
      have e0 := cell_of_row _ _ 0 _ _ _ hx14
      have e1 := cell_of_row _ _ 1 _ _ _ hx14
      rw [hW8, hg14]
      clear hW8 hg14 hb8 hx14
      have hln : 21 ≤ st'.length ∧ st'.length ≤ 4096 := by rw [HST'.out, HN30.out]; decide
      have hres : ∃ er pp gg, loadR st' [] 5 = (er, pp, gg) ∧ (er = 0 ∧ (j < 2 → pp ∈ [old, q]) ∧ (2 ≤ j → pp = pay) ∨ er = 9 ∧ j ≠ 4) := by
        by_cases hj44 : j = 4
        · have hg := HK4.out hj44
          exact ⟨0, pay, 1, load_good hln.1 hln.2 hg, .inl ⟨rfl, fun h => by omega, fun _ => rfl⟩⟩
        · by_cases hj2 : j < 2
          · rcases load_known hln.1 hln.2 (HK1.out hj2) with ⟨pp, gg, h1, h2⟩ | h1
            · exact ⟨0, pp, gg, h1, .inl ⟨rfl, fun _ => h2, fun h => by omega⟩⟩
            · exact ⟨9, [], 0, h1, .inr ⟨rfl, hj44⟩⟩
          · rcases load_known hln.1 hln.2 (HK2.out (by omega)) with ⟨pp, gg, h1, h2⟩ | h1
            · exact ⟨0, pp, gg, h1, .inl ⟨rfl, fun h => absurd h hj2, fun _ => List.mem_singleton.1 h2⟩⟩
            · exact ⟨9, [], 0, h1, .inr ⟨rfl, hj44⟩⟩
      obtain ⟨er, pp, gg, hres, hcase⟩ := hres
      obtain ⟨ppl, hppl⟩ : ∃ z, pp.length = z := ⟨_, rfl⟩
      have HLD := hid (load_dk HD8.out (a := 5) ⟨by omega, by omega⟩ (by decide) hres)
      rw [hppl] at HLD
      have HCASE := hid hcase
      clear hres hcase hppl hln
      go_upto_region 13 with (go_at_call 15; refine HLD.out.mono ?_; rintro e X9 ⟨PP, ppc, rfl, hp9, hb9⟩; have HP9 := hid hp9; have HB9 := hid (HB8.out.trans (hb9.mono HB8.out.size)); clear hp9 hb9)
      clear e0 e1
      have HB9w : Hid (Below w.heap.size w X9) := hid (HBW.out.trans (HB9.out.mono HBW.out.size))
      have hx5z := (HB9.out.block _ (box_lt HX5r.out)).trans HX5r.out
      have k0 := cell_of_row _ _ 0 _ _ _ hx5z
      have HE1 := hid (equal_any pp pay _ _ X9 HP9.out (HU.out.below HB9w.out))
      have HE2 := hid (equal_any pp old _ _ X9 HP9.out (HV.out.below HB9w.out))
      have HE3 := hid (equal_any pp q _ _ X9 HP9.out (HPV.out.below HB9w.out))
      have HBR : Hid (Below X6.heap.size X6 X9) := hid (HBJ.out.trans (HB9.out.mono HBJ.out.size))
      clear hx5z dj
      rcases HCASE.out with ⟨rfl, hc1, hc2⟩ | ⟨rfl, hc4⟩
      · by_cases hj2 : j < 2
        · have d2 : decide ((j : Int) < 2) = true := decide_eq_true (by omega)
          have d2' : decide (j < 2) = true := decide_eq_true (by omega)
          have dn4 : ((j : Int) == 4) = false := by rw [beq_eq_false_iff_ne]; omega
          have hm := hc1 hj2
          clear hc1 hc2
          by_cases h1 : pp = pay
          · rw [decide_eq_true h1] at HE1
            clear h1 hm
            go_wp2_with (go_at_call 17; (first | (with_reducible refine HE1.out.mono ?_) | (with_reducible refine HE2.out.mono ?_) | (with_reducible refine HE3.out.mono ?_)); rintro e X9 ⟨rfl, rfl⟩)
            go_roundw
            case rel => exact ⟨j + 1, by omega, by go_num, HBR⟩
            case measure => simp [Go.RowKit.intOf]; omega
          rw [decide_eq_false h1] at HE1
          clear h1
          by_cases h2 : pp = old
          · rw [decide_eq_true h2] at HE2
            clear h2 hm
            go_wp2_with (go_at_call 17; (first | (with_reducible refine HE1.out.mono ?_) | (with_reducible refine HE2.out.mono ?_) | (with_reducible refine HE3.out.mono ?_)); rintro e X9 ⟨rfl, rfl⟩)
            go_roundw
            case rel => exact ⟨j + 1, by omega, by go_num, HBR⟩
            case measure => simp [Go.RowKit.intOf]; omega
          rw [decide_eq_false h2] at HE2
          have h3 : pp = q := by
            rcases List.mem_cons.1 hm with h | h
            · exact absurd h h2
            · exact List.mem_singleton.1 h
          rw [decide_eq_true h3] at HE3
          clear h2 h3 hm
          go_wp2_with (go_at_call 17; (first | (with_reducible refine HE1.out.mono ?_) | (with_reducible refine HE2.out.mono ?_) | (with_reducible refine HE3.out.mono ?_)); rintro e X9 ⟨rfl, rfl⟩)
          go_roundw
          case rel => exact ⟨j + 1, by omega, by go_num, HBR⟩
          case measure => simp [Go.RowKit.intOf]; omega
        have h1 := hc2 (by omega)
        rw [decide_eq_true h1] at HE1
        clear h1 hc1 hc2
        have d2 : decide ((j : Int) < 2) = false := decide_eq_false (by omega)
        have d2' : decide (j < 2) = false := decide_eq_false (by omega)
        by_cases hj44 : j = 4
        · have dn4 : ((j : Int) == 4) = true := by rw [beq_iff_eq]; omega
          go_wp2_with (go_at_call 17; (first | (with_reducible refine HE1.out.mono ?_) | (with_reducible refine HE2.out.mono ?_) | (with_reducible refine HE3.out.mono ?_)); rintro e X9 ⟨rfl, rfl⟩)
          go_roundw
          case rel => exact ⟨j + 1, by omega, by go_num, HBR⟩
          case measure => simp [Go.RowKit.intOf]; omega
        · have dn4 : ((j : Int) == 4) = false := by rw [beq_eq_false_iff_ne]; omega
          go_wp2_with (go_at_call 17; (first | (with_reducible refine HE1.out.mono ?_) | (with_reducible refine HE2.out.mono ?_) | (with_reducible refine HE3.out.mono ?_)); rintro e X9 ⟨rfl, rfl⟩)
          go_roundw
          case rel => exact ⟨j + 1, by omega, by go_num, HBR⟩
          case measure => simp [Go.RowKit.intOf]; omega
      · have hc4' := hc4
        have dn4 : ((j : Int) == 4) = false := by rw [beq_eq_false_iff_ne]; omega
        clear hc4'
        by_cases h1 : pp = pay
        · rw [decide_eq_true h1] at HE1
          clear h1
          go_wp2_with (go_at_call 17; (first | (with_reducible refine HE1.out.mono ?_) | (with_reducible refine HE2.out.mono ?_) | (with_reducible refine HE3.out.mono ?_)); rintro e X9 ⟨rfl, rfl⟩)
          go_roundw
          case rel => exact ⟨j + 1, by omega, by go_num, HBR⟩
          case measure => simp [Go.RowKit.intOf]; omega
        rw [decide_eq_false h1] at HE1
        clear h1
        by_cases hj2 : j < 2
        · have d2 : decide ((j : Int) < 2) = true := decide_eq_true (by omega)
          have d2' : decide (j < 2) = true := decide_eq_true (by omega)
          by_cases h2 : pp = old
          · rw [decide_eq_true h2] at HE2
            clear h2
            go_wp2_with (go_at_call 17; (first | (with_reducible refine HE1.out.mono ?_) | (with_reducible refine HE2.out.mono ?_) | (with_reducible refine HE3.out.mono ?_)); rintro e X9 ⟨rfl, rfl⟩)
            go_roundw
            case rel => exact ⟨j + 1, by omega, by go_num, HBR⟩
            case measure => simp [Go.RowKit.intOf]; omega
          rw [decide_eq_false h2] at HE2
          clear h2
          obtain ⟨b3, hb3⟩ : ∃ z, decide (pp = q) = z := ⟨_, rfl⟩
          rw [hb3] at HE3
          clear hb3
          cases b3 with
          | true =>
            go_wp2_with (go_at_call 17; (first | (with_reducible refine HE1.out.mono ?_) | (with_reducible refine HE2.out.mono ?_) | (with_reducible refine HE3.out.mono ?_)); rintro e X9 ⟨rfl, rfl⟩)
            go_roundw
            case rel => exact ⟨j + 1, by omega, by go_num, HBR⟩
            case measure => simp [Go.RowKit.intOf]; omega
          | false =>
            go_wp2_with (go_at_call 17; (first | (with_reducible refine HE1.out.mono ?_) | (with_reducible refine HE2.out.mono ?_) | (with_reducible refine HE3.out.mono ?_)); rintro e X9 ⟨rfl, rfl⟩)
            go_roundw
            case rel => exact ⟨j + 1, by omega, by go_num, HBR⟩
            case measure => simp [Go.RowKit.intOf]; omega
        · have d2 : decide ((j : Int) < 2) = false := decide_eq_false (by omega)
          have d2' : decide (j < 2) = false := decide_eq_false (by omega)
          go_wp2_with (go_at_call 17; (first | (with_reducible refine HE1.out.mono ?_) | (with_reducible refine HE2.out.mono ?_) | (with_reducible refine HE3.out.mono ?_)); rintro e X9 ⟨rfl, rfl⟩)
          go_roundw
          case rel => exact ⟨j + 1, by omega, by go_num, HBR⟩
          case measure => simp [Go.RowKit.intOf]; omega
    · obtain rfl : j = 5 := by omega
      have dj : decide (((5 : Nat) : Int) ≤ 4) = false := by decide
      go_wp2_with (go_at_call 10; refine (awake_any wr).mono ?_; rintro e X2 ⟨rfl, hb⟩; have HBE := hid (HBW.out.trans (hb.mono HBW.out.size)); clear hb)
      go_ret
      exact ⟨rfl, HBE.out⟩
end Go.Proofs.Ytnocgfhcamnjdaa
