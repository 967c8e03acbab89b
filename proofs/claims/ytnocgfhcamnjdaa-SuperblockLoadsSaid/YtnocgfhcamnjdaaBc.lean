/- The walks of Formats, Loads, Stores. -/
import Derived.Test.YtnocgfhcamnjdaaBb
import Derived.Test.YtnocgfhcamnjdaaAk
namespace Go.Proofs.Ytnocgfhcamnjdaa
open Go.RowKit Go.Lib

set_option maxHeartbeats 2000000 in
set_option maxRecDepth 100000 in
theorem formats_any (a : Int) (v : Value) (p : List Nat) (w : World) (hr : R64 a) (hv : Byt w v p) :
    Calls Try.prog 3 #[.int .i64 a, v] w (TrueQ w) := by
  obtain ⟨A, c, rfl⟩ := byt_form hv
  obtain ⟨m, hm⟩ : ∃ m, p.length = m := ⟨_, rfl⟩
  have HA1 := hid (format_any a p _ w hv hr)
  have HA2 : Hid (∀ X, Below w.heap.size w X → Calls Try.prog 12 #[.int .i64 a, .slice A m c] X (MadeOps X (fmtE a p) (fmtC a p))) := hid (fun X hX => by rw [← hm]; exact refFormat_any a p _ X (hv.below hX) hr)
  obtain ⟨E, hE⟩ : ∃ z, fmtE a p = z := ⟨_, rfl⟩
  obtain ⟨C, hC⟩ : ∃ z, fmtC a p = z := ⟨_, rfl⟩
  have HCL : Hid (C.length ≤ 1000000) := hid (by rw [← hC]; unfold fmtC; split <;> first | (show 4 ≤ 1000000; decide) | (show 0 ≤ 1000000; decide))
  rw [hm, hE, hC] at HA1
  rw [hE, hC] at HA2
  rw [hm]
  clear hv hm hE hC hr
  go_enter Try.func3, Try.ntmps3
  by_cases h : 100 < m
  · have d0 : decide (100 < (m : Int)) = true := decide_eq_true (by omega)
    have d0' : decide (100 < m) = true := decide_eq_true h
    go_wp2_with (go_at_call 10; refine (awake_any w).mono ?_; rintro e X ⟨rfl, hb⟩)
    go_ret
    exact ⟨rfl, hb⟩
  · have d0 : decide (100 < (m : Int)) = false := decide_eq_false (by omega)
    have d0' : decide (100 < m) = false := decide_eq_false h
    go_upto_region 5 with (first
      | (go_at_call 12; refine (HA2.out X1 HB1.out).mono ?_; intro e X2 hQ2; obtain ⟨A2, c2, l2, rfl, ho2, _, hl2, hb2⟩ := made_open hQ2; have HO2 := hid ho2; have HL2 := hid hl2; have HO1b := hid (HO1.out.below hb2); have HB2 := hid (below_both HB1.out hb2); clear hQ2 ho2 hl2 hb2)
      | (go_at_call 11; refine HA1.out.mono ?_; intro e X1 hQ1; obtain ⟨A1, c1, l1, rfl, ho1, _, hl1, hb1⟩ := made_open hQ1; have HO1 := hid ho1; have HL1 := hid hl1; have HB1 := hid hb1; clear hQ1 ho1 hl1 hb1))
    have deq : (E == E) = true := by simp
    have HSO := hid (fun X (hX : Below X2.heap.size X2 X) => sameOps_eq l1 l2 _ _ X (HO1b.out.below hX) (HO2.out.below hX) (by rw [HL1.out, HL2.out]) (by rw [show l1.length = C.length from by rw [← HL1.out, List.length_map]]; exact HCL.out))
    go_wp2_with (first
      | (go_at_call 10; refine (awake_any X2).mono ?_; rintro e X3 ⟨rfl, hb3⟩; have HBX3 := hid hb3; have HB3 := hid (below_both HB2.out hb3); clear hb3)
      | (go_at_call 13; refine (HSO.out X3 HBX3.out).mono ?_; rintro e X4 ⟨rfl, hb4⟩; have HB4 := hid (below_both HB3.out hb4); clear hb4))
    go_ret
    exact ⟨rfl, HB4.out⟩
set_option maxHeartbeats 2000000 in
set_option maxRecDepth 100000 in
theorem loads_any (v : Value) (st : List Sect) (ca : List Ca) (a : Int) (w : World) (hd : Dk w v st ca) (hr : R64 a) :
    Calls Try.prog 4 #[v, .int .i64 a] w (TrueQ w) := by
  obtain ⟨sv, cv, rfl, hs, hsn, hc⟩ := hd
  obtain ⟨A, c, rfl⟩ := sec_form hs
  obtain ⟨B, d, rfl⟩ := cas_form hc
  obtain ⟨n, hn⟩ : ∃ n, st.length = n := ⟨_, rfl⟩
  obtain ⟨m, hm⟩ : ∃ n, ca.length = n := ⟨_, rfl⟩
  obtain ⟨g, hg⟩ : ∃ g, w.heap.size = g := ⟨_, rfl⟩
  obtain ⟨W1, hW1⟩ : ∃ X, w.alloc (.cells #[.slice A n c, .slice B m d] 35) = X := ⟨_, rfl⟩
  have hb1 : Below w.heap.size w W1 := by rw [← hW1]; exact al1 _ _
  have hx1 : W1.heap[g]? = some (.cells #[.slice A n c, .slice B m d] 35) := by rw [← hW1, ← hg]; exact heap_alloc_new _ _
  have HFW := hid (few_any st ca _ _ W1 (hs.below hb1) (hc.below hb1))
  have HLD : Hid (m ≤ 80 → ∀ X, Below W1.heap.size W1 X → Calls Try.prog 15 #[.agg #[.slice A n c, .slice B m d], .int .i64 a] X (LoadQ X (loadR st ca a))) := hid (fun h X hX => by
    have hb := hb1.trans (hX.mono hb1.size)
    have h1 := load_any st ca _ _ a X (hs.below hb) hsn (hc.below hb) hr (by omega)
    rw [hn, hm] at h1
    exact h1)
  have HRL : Hid (∀ X, Below W1.heap.size W1 X → Calls Try.prog 16 #[.agg #[.slice A n c, .slice B m d], .int .i64 a] X (LoadQ X (loadR st ca a))) := hid (fun X hX => by
    have hb := hb1.trans (hX.mono hb1.size)
    have h1 := refLoad_any st ca _ _ a X (hs.below hb) hsn (hc.below hb) hr
    rw [hn, hm] at h1
    exact h1)
  have HLO : Hid (∀ X e w', LoadQ X (loadR st ca a) e w' → ∃ u, e = .returned (.tuple #[u, .int .i64 ((loadR st ca a).2.2 : Int), .int .i64 (loadR st ca a).1]) ∧ Byt w' u (loadR st ca a).2.1 ∧ Below X.heap.size X w') := hid (fun X e w' h => h)
  obtain ⟨r, hr9⟩ : ∃ r, loadR st ca a = r := ⟨_, rfl⟩
  rw [hr9] at HLD HRL HLO
  obtain ⟨er, p, k⟩ := r
  rw [hn, hm] at HFW
  rw [hn, hm]
  have x0 := cell_of_row _ _ 0 _ _ _ hx1
  have x1 := cell_of_row _ _ 1 _ _ _ hx1
  have HX1 := hid hx1
  have HB1 := hid hb1
  have HW1 := hid hW1
  have HG := hid hg
  clear hs hsn hc hb1 hx1 hW1 hg hn hm hr9 hr
  go_enter Try.func4, Try.ntmps4
  go_upto_region 1 with fail
  rw [HW1.out, HG.out]
  by_cases hf : n ≤ 80 ∧ m ≤ 80
  · rw [decide_eq_true hf] at HFW
    have HLD := hid (HLD.out hf.2)
    clear hf
    go_upto_region 3 with (go_at_call 14; refine HFW.out.mono ?_; rintro e X1 ⟨rfl, hb⟩; have hx2 := (hb.block _ (box_lt HX1.out)).trans HX1.out; have y0 := cell_of_row _ _ 0 _ _ _ hx2; have y1 := cell_of_row _ _ 1 _ _ _ hx2; have HX2 := hid hx2; have HBW := hid hb; have HB2 := hid (below_both HB1.out hb); clear hb hx2)
    clear x0 x1
    go_upto_region 4 with (go_at_call 15; refine (HLD.out X1 HBW.out).mono ?_; intro e X2 hQ; obtain ⟨u1, rfl, hu1, hb⟩ := HLO.out _ _ _ hQ; have hx3 := (hb.block _ (box_lt HX2.out)).trans HX2.out; have z0 := cell_of_row _ _ 0 _ _ _ hx3; have z1 := cell_of_row _ _ 1 _ _ _ hx3; have HU1 := hid hu1; have HBW2 := hid (below_both HBW.out hb); have HB3 := hid (below_both HB2.out hb); clear hQ hu1 hb hx3)
    clear y0 y1
    go_upto_region 5 with (go_at_call 16; refine (HRL.out X2 HBW2.out).mono ?_; intro e X3 hQ; obtain ⟨u2, rfl, hu2, hb⟩ := HLO.out _ _ _ hQ; have HU2 := hid hu2; have HU1b := hid (HU1.out.below hb); have HB4 := hid (below_both HB3.out hb); clear hQ hu2 hb)
    clear z0 z1
    have dk : ((k : Int) == (k : Int)) = true := by simp
    have de : (er == er) = true := by simp
    have HEQ : Hid (∀ X, Below X3.heap.size X3 X → Calls Try.prog 17 #[u1, u2] X (Says true X)) := hid (fun X hX => by
      have h := equal_any p p _ _ X (HU1b.out.below hX) (HU2.out.below hX)
      rw [decide_eq_true rfl] at h
      exact h)
    go_wp2_with (first
      | (go_at_call 10; refine (awake_any X3).mono ?_; rintro e X4 ⟨rfl, hb4⟩; have HBX4 := hid hb4; have HB5 := hid (below_both HB4.out hb4); clear hb4)
      | (go_at_call 17; refine (HEQ.out X4 HBX4.out).mono ?_; rintro e X5 ⟨rfl, rfl⟩))
    go_ret
    exact ⟨rfl, HB5.out⟩
  · rw [decide_eq_false hf] at HFW
    clear hf
    go_wp2_with (first
      | (go_at_call 14; refine HFW.out.mono ?_; rintro e X1 ⟨rfl, hb⟩; have HB2 := hid (below_both HB1.out hb); clear hb)
      | (go_at_call 10; refine (awake_any X1).mono ?_; rintro e X4 ⟨rfl, hb4⟩; have HB5 := hid (below_both HB2.out hb4); clear hb4))
    go_ret
    exact ⟨rfl, HB5.out⟩
set_option maxHeartbeats 2000000 in
set_option maxRecDepth 100000 in
theorem stores_any (v : Value) (st : List Sect) (ca : List Ca) (a : Int) (pv : Value) (p : List Nat) (w : World) (hd : Dk w v st ca) (hr : R64 a) (hp : Byt w pv p) :
    Calls Try.prog 5 #[v, .int .i64 a, pv] w (TrueQ w) := by
  obtain ⟨sv, cv, rfl, hs, hsn, hc⟩ := hd
  obtain ⟨A, c, rfl⟩ := sec_form hs
  obtain ⟨B, d, rfl⟩ := cas_form hc
  obtain ⟨PA, pc, rfl⟩ := byt_form hp
  obtain ⟨n, hn⟩ : ∃ n, st.length = n := ⟨_, rfl⟩
  obtain ⟨m, hm⟩ : ∃ n, ca.length = n := ⟨_, rfl⟩
  obtain ⟨pm, hpm⟩ : ∃ n, p.length = n := ⟨_, rfl⟩
  obtain ⟨g, hg⟩ : ∃ g, w.heap.size = g := ⟨_, rfl⟩
  obtain ⟨W1, hW1⟩ : ∃ X, w.alloc (.cells #[.slice A n c, .slice B m d] 35) = X := ⟨_, rfl⟩
  have hb1 : Below w.heap.size w W1 := by rw [← hW1]; exact al1 _ _
  have hx1 : W1.heap[g]? = some (.cells #[.slice A n c, .slice B m d] 35) := by rw [← hW1, ← hg]; exact heap_alloc_new _ _
  have HFW := hid (few_any st ca _ _ W1 (hs.below hb1) (hc.below hb1))
  have HST : Hid (m ≤ 80 → ∀ X, Below W1.heap.size W1 X → Calls Try.prog 18 #[.agg #[.slice A n c, .slice B m d], .int .i64 a, .slice PA pm pc] X (MadeOps X (storE st ca a p) (storC st ca a p))) := hid (fun h X hX => by
    have hb := hb1.trans (hX.mono hb1.size)
    have h1 := store_any st ca _ _ _ a p X (hs.below hb) hsn (hc.below hb) hr (by omega) (hp.below hb)
    rw [hn, hm, hpm] at h1
    exact h1)
  have HRS : Hid (∀ X, Below W1.heap.size W1 X → Calls Try.prog 19 #[.agg #[.slice A n c, .slice B m d], .int .i64 a, .slice PA pm pc] X (MadeOps X (storE st ca a p) (storC st ca a p))) := hid (fun X hX => by
    have hb := hb1.trans (hX.mono hb1.size)
    have h1 := refStore_any st ca _ _ _ a p X (hs.below hb) hsn (hc.below hb) hr (hp.below hb)
    rw [hn, hm, hpm] at h1
    exact h1)
  obtain ⟨E, hE⟩ : ∃ z, storE st ca a p = z := ⟨_, rfl⟩
  obtain ⟨C, hC⟩ : ∃ z, storC st ca a p = z := ⟨_, rfl⟩
  have HCL : Hid (C.length ≤ 1000000) := hid (by rw [← hC]; unfold storC; split <;> first | (show 2 ≤ 1000000; decide) | (show 0 ≤ 1000000; decide))
  rw [hE, hC] at HST HRS
  rw [hn, hm] at HFW
  rw [hn, hm, hpm]
  have x0 := cell_of_row _ _ 0 _ _ _ hx1
  have x1 := cell_of_row _ _ 1 _ _ _ hx1
  have HX1 := hid hx1
  have HB1 := hid hb1
  have HW1 := hid hW1
  have HG := hid hg
  clear hs hsn hc hb1 hx1 hW1 hg hn hm hr hp hpm hE hC
  go_enter Try.func5, Try.ntmps5
  go_upto_region 1 with fail
  rw [HW1.out, HG.out]
  by_cases hf : n ≤ 80 ∧ m ≤ 80
  · rw [decide_eq_true hf] at HFW
    have HST := hid (HST.out hf.2)
    clear hf
    by_cases h : 100 < pm
    · have d0 : decide (100 < (pm : Int)) = true := decide_eq_true (by omega)
      have d0' : decide (100 < pm) = true := decide_eq_true h
      go_wp2_with (first
        | (go_at_call 14; refine HFW.out.mono ?_; rintro e X1 ⟨rfl, hb⟩; have HB2 := hid (below_both HB1.out hb); clear hb)
        | (go_at_call 10; refine (awake_any X1).mono ?_; rintro e X4 ⟨rfl, hb4⟩; have HB5 := hid (below_both HB2.out hb4); clear hb4))
      go_ret
      exact ⟨rfl, HB5.out⟩
    have d0 : decide (100 < (pm : Int)) = false := decide_eq_false (by omega)
    have d0' : decide (100 < pm) = false := decide_eq_false h
    go_upto_region 3 with (go_at_call 14; refine HFW.out.mono ?_; rintro e X1 ⟨rfl, hb⟩; have hx2 := (hb.block _ (box_lt HX1.out)).trans HX1.out; have y0 := cell_of_row _ _ 0 _ _ _ hx2; have y1 := cell_of_row _ _ 1 _ _ _ hx2; have HX2 := hid hx2; have HBW := hid hb; have HB2 := hid (below_both HB1.out hb); clear hb hx2)
    clear x0 x1
    go_upto_region 4 with (go_at_call 18; refine (HST.out X1 HBW.out).mono ?_; intro e X2 hQ; obtain ⟨A1, c1, l1, rfl, ho1, _, hl1, hb⟩ := made_open hQ; have hx3 := (hb.block _ (box_lt HX2.out)).trans HX2.out; have z0 := cell_of_row _ _ 0 _ _ _ hx3; have z1 := cell_of_row _ _ 1 _ _ _ hx3; have HO1 := hid ho1; have HL1 := hid hl1; have HBW2 := hid (below_both HBW.out hb); have HB3 := hid (below_both HB2.out hb); clear hQ ho1 hl1 hb hx3)
    clear y0 y1
    go_upto_region 5 with (go_at_call 19; refine (HRS.out X2 HBW2.out).mono ?_; intro e X3 hQ; obtain ⟨A2, c2, l2, rfl, ho2, _, hl2, hb⟩ := made_open hQ; have HO2 := hid ho2; have HL2 := hid hl2; have HO1b := hid (HO1.out.below hb); have HB4 := hid (below_both HB3.out hb); clear hQ ho2 hl2 hb)
    clear z0 z1
    have deq : (E == E) = true := by simp
    have HSO := hid (fun X (hX : Below X3.heap.size X3 X) => sameOps_eq l1 l2 _ _ X (HO1b.out.below hX) (HO2.out.below hX) (by rw [HL1.out, HL2.out]) (by rw [show l1.length = C.length from by rw [← HL1.out, List.length_map]]; exact HCL.out))
    go_wp2_with (first
      | (go_at_call 10; refine (awake_any X3).mono ?_; rintro e X4 ⟨rfl, hb3⟩; have HBX3 := hid hb3; have HB5 := hid (below_both HB4.out hb3); clear hb3)
      | (go_at_call 13; refine (HSO.out X4 HBX3.out).mono ?_; rintro e X5 ⟨rfl, hb4⟩; have HB6 := hid (below_both HB5.out hb4); clear hb4))
    go_ret
    exact ⟨rfl, HB6.out⟩
  · rw [decide_eq_false hf] at HFW
    clear hf
    go_wp2_with (first
      | (go_at_call 14; refine HFW.out.mono ?_; rintro e X1 ⟨rfl, hb⟩; have HB2 := hid (below_both HB1.out hb); clear hb)
      | (go_at_call 10; refine (awake_any X1).mono ?_; rintro e X4 ⟨rfl, hb4⟩; have HB5 := hid (below_both HB2.out hb4); clear hb4))
    go_ret
    exact ⟨rfl, HB5.out⟩
end Go.Proofs.Ytnocgfhcamnjdaa
