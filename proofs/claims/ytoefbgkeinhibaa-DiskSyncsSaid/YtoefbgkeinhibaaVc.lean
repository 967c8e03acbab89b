/- The walk of DiskInterrupts. -/
import Derived.Test.YtoefbgkeinhibaaSh
namespace Go.Proofs.Ytoefbgkeinhibaa
open Go.RowKit Go.Lib

theorem inter_mem {st : List Sect} {ca : List Ca} {ops : List OpT} {k : Int} {l : List Int} {x : Int} (h : x ∈ (interS st ca ops k l).2.2.2) : x ∈ l := by
  unfold interS at h
  split at h
  · cases h
  · split at h
    · cases h
    · exact crs_mem h
theorem inter_len (st : List Sect) (ca : List Ca) (ops : List OpT) (k : Int) (l : List Int) : (interS st ca ops k l).2.2.1.length ≤ ca.length + tot ops ∧ (interS st ca ops k l).2.2.2.length ≤ l.length := by
  unfold interS
  split
  · exact ⟨Nat.zero_le _, Nat.zero_le _⟩
  · split
    · exact ⟨Nat.zero_le _, Nat.zero_le _⟩
    · refine ⟨Nat.le_trans (crash_ca _ _ _) (Nat.le_trans (runS_len st ca (ops.take k.toNat)).2 (by have := tot_take ops k.toNat; omega)), ?_⟩
      dsimp only
      unfold crashS
      split
      · dsimp only
        rw [crs_ch, List.length_drop]
        exact Nat.sub_le _ _
      · exact Nat.le_refl _
theorem int_open {w w' : World} {ie : Int} {rs : List Sect} {rc : List Ca} {rl : List Int} {e : Ending} (h : IntQ w (ie, rs, rc, rl) e w') (hr : ∀ x ∈ rl, R64 x) : ∃ A c B d U uc, e = .returned (.tuple #[.agg #[.slice A rs.length c, .slice B rc.length d], .slice U rl.length uc, .int .i64 ie]) ∧ Dk w' (.agg #[.slice A rs.length c, .slice B rc.length d]) rs rc ∧ Ints w' (.slice U rl.length uc) rl ∧ Below w.heap.size w w' := by
  obtain ⟨v, u, rfl, ⟨⟨sv, cv, rfl, h1, h2⟩, h3⟩, h4, hb⟩ := h
  dsimp only at h1 h2 h3 h4
  obtain ⟨A, c, rfl⟩ := ownAny_form h1
  obtain ⟨B, d, rfl⟩ := ownAny_form h2
  obtain ⟨U, uc, rfl⟩ := own_formE h4
  exact ⟨A, c, B, d, U, uc, rfl, dk_own ⟨_, _, rfl, h1, h2⟩ h3.1 h3.2, ints_of_own h4 hr, hb⟩
theorem rint_open {w w' : World} {ie : Int} {rs : List Sect} {rc : List Ca} {rl : List Int} {e : Ending} (h : RIntQ w (ie, rs, rc, rl) e w') : ∃ A c B d U uc, e = .returned (.tuple #[.agg #[.slice A rs.length c, .slice B rc.length d], .slice U rl.length uc, .int .i64 ie]) ∧ Dk w' (.agg #[.slice A rs.length c, .slice B rc.length d]) rs rc ∧ Ints w' (.slice U rl.length uc) rl ∧ Below w.heap.size w w' := by
  obtain ⟨v, u, rfl, hd, hi, hb⟩ := h
  dsimp only at hd hi
  have hd' := hd
  obtain ⟨sv, cv, rfl, h1, h2, h3⟩ := hd'
  obtain ⟨A, c, rfl⟩ := sec_form h1
  obtain ⟨B, d, rfl⟩ := cas_form h3
  obtain ⟨U, uc, rfl⟩ := ints_form hi
  exact ⟨A, c, B, d, U, uc, rfl, hd, hi, hb⟩
set_option maxHeartbeats 8000000 in
set_option maxRecDepth 100000 in
theorem interrupts_any (v : Value) (st : List Sect) (ca : List Ca) (ov : Value) (ops : List OpT) (bk : Int) (lv : Value) (l : List Int) (w : World) (hd : Dk w v st ca) (ho : OpsA w ov ops) (hbig : BigO ops) (hrk : R64 bk) (hl : Ints w lv l) :
    Calls Try.prog 6 #[v, ov, .agg #[.int .i64 bk, lv]] w (TrueQ w) := by
  obtain ⟨sv, cv, rfl, hs1, hs2, hs3⟩ := hd
  obtain ⟨A, c, rfl⟩ := sec_form hs1
  obtain ⟨B, d, rfl⟩ := cas_form hs3
  obtain ⟨O, oc, rfl⟩ := ops_form ho
  obtain ⟨L, lc, rfl⟩ := ints_form hl
  obtain ⟨g, hg⟩ : ∃ g, w.heap.size = g := ⟨_, rfl⟩
  obtain ⟨W3, hW3⟩ : ∃ X, (w.alloc (.cells #[.slice A st.length c, .slice B ca.length d] 25)).alloc (.cells #[.int .i64 bk, .slice L l.length lc] 65) = X := ⟨_, rfl⟩
  have hb3 : Below w.heap.size w W3 := by rw [← hW3]; exact ((Below.refl _ w).alloc (Nat.le_refl _) _).alloc (by simp) _
  have hx : W3.heap[g]? = some (.cells #[.slice A st.length c, .slice B ca.length d] 25) := by rw [← hW3, ← hg]; exact (Below.heap_alloc _ _ _ (by simp)).trans (heap_alloc_new w _)
  have hy : W3.heap[g + 1]? = some (.cells #[.int .i64 bk, .slice L l.length lc] 65) := by rw [← hW3, ← hg]; simpa using heap_alloc_new (w.alloc (.cells #[.slice A st.length c, .slice B ca.length d] 25)) (.cells #[.int .i64 bk, .slice L l.length lc] 65)
  have HB3 := hid hb3
  have HDK := hid (fun X (hX : Below W3.heap.size W3 X) => (show Sec X (.slice A st.length c) st ∧ Cas X (.slice B ca.length d) ca ∧ OpsA X (.slice O ops.length oc) ops ∧ Ints X (.slice L l.length lc) l from ⟨hs1.below (hb3.trans (hX.mono hb3.size)), hs3.below (hb3.trans (hX.mono hb3.size)), ho.below (hb3.trans (hX.mono hb3.size)), hl.below (hb3.trans (hX.mono hb3.size))⟩))
  have HBX := hid (fun X (hX : Below W3.heap.size W3 X) => (hX.block _ (box_lt hx)).trans hx)
  have HBY := hid (fun X (hX : Below W3.heap.size W3 X) => (hX.block _ (box_lt hy)).trans hy)
  have HSN := hid hs2
  have HAW := hid (fun W => awake_any W)
  have HW3 := hid hW3
  have HG := hid hg
  have HRL := hid hl.1
  have HF := hid (few_any (.agg #[.slice A st.length c, .slice B ca.length d]) st ca W3 ⟨_, _, rfl, (HDK.out W3 (Below.refl _ _)).1, hs2, (HDK.out W3 (Below.refl _ _)).2.1⟩)
  have HOPS := hid (fun X (hX : Below W3.heap.size W3 X) => fewOps_any ops (.slice O ops.length oc) X (HDK.out X hX).2.2.1 hbig)
  have x0 := cell_of_row _ _ 0 _ _ _ hx
  have x1 := cell_of_row _ _ 1 _ _ _ hx
  clear hs1 hs2 hs3 ho hl hb3 hx hy hW3 hg
  obtain ⟨f1, hf1⟩ : ∃ b, fewD st ca = b := ⟨_, rfl⟩
  rw [hf1] at HF
  rcases f1 with _ | _
  · clear hf1
    go_enter Try.func6, Try.ntmps6
    go_upto_region 1 with fail
    rw [HW3.out, HG.out]
    go_upto_region 2 with (go_at_call 11; refine HF.out.mono ?_; rintro e X4 ⟨rfl, hb4⟩; have HB4 := hid hb4; clear hb4)
    clear x0 x1
    go_wp2_with (go_at_call 13; refine (HAW.out _).mono ?_; rintro e X5 ⟨rfl, hb5⟩; have HB5 := hid hb5; clear hb5)
    go_ret
    exact ⟨rfl, below_both HB3.out (below_both HB4.out HB5.out)⟩
  obtain ⟨f2, hf2⟩ : ∃ b, fewO ops = b := ⟨_, rfl⟩
  rw [hf2] at HOPS
  rcases f2 with _ | _
  · clear hf1 hf2
    go_enter Try.func6, Try.ntmps6
    go_upto_region 1 with fail
    rw [HW3.out, HG.out]
    go_upto_region 2 with (first
      | (go_at_call 11; refine HF.out.mono ?_; rintro e X4 ⟨rfl, hb4⟩; have HB4 := hid hb4; clear hb4)
      | (go_at_call 12; refine (HOPS.out X4 HB4.out).mono ?_; rintro e X5 ⟨rfl, hb5⟩; have HB5 := hid hb5; have hy5 := HBY.out X5 (below_both HB4.out hb5); have y1 := cell_of_row _ _ 1 _ _ _ hy5; clear hb5 hy5))
    clear x0 x1
    go_wp2_with (go_at_call 13; refine (HAW.out _).mono ?_; rintro e X6 ⟨rfl, hb6⟩; have HB6 := hid hb6; clear hb6)
    go_ret
    exact ⟨rfl, below_both HB3.out (below_both HB4.out (below_both HB5.out HB6.out))⟩
  by_cases h4 : 400 < l.length
  · have d4 : decide (400 < l.length) = true := decide_eq_true h4
    have d4' : decide (400 < (l.length : Int)) = true := decide_eq_true (by omega)
    clear hf1 hf2
    go_enter Try.func6, Try.ntmps6
    go_upto_region 1 with fail
    rw [HW3.out, HG.out]
    go_upto_region 2 with (first
      | (go_at_call 11; refine HF.out.mono ?_; rintro e X4 ⟨rfl, hb4⟩; have HB4 := hid hb4; clear hb4)
      | (go_at_call 12; refine (HOPS.out X4 HB4.out).mono ?_; rintro e X5 ⟨rfl, hb5⟩; have HB5 := hid hb5; have hy5 := HBY.out X5 (below_both HB4.out hb5); have y1 := cell_of_row _ _ 1 _ _ _ hy5; clear hb5 hy5))
    clear x0 x1
    go_wp2_with (go_at_call 13; refine (HAW.out _).mono ?_; rintro e X6 ⟨rfl, hb6⟩; have HB6 := hid hb6; clear hb6)
    go_ret
    exact ⟨rfl, below_both HB3.out (below_both HB4.out (below_both HB5.out HB6.out))⟩
  obtain ⟨hst, hca⟩ : st.length ≤ 400 ∧ ca.length ≤ 400 := by
    unfold fewD at hf1
    rw [Bool.and_eq_true] at hf1
    exact ⟨of_decide_eq_true hf1.1, of_decide_eq_true hf1.2⟩
  obtain ⟨hol, htot⟩ := fewO_tot hf2
  have d4 : decide (400 < l.length) = false := decide_eq_false h4
  have d4' : decide (400 < (l.length : Int)) = false := decide_eq_false (by omega)
  clear hf1 hf2
  obtain ⟨r, hr⟩ : ∃ r, interS st ca ops bk l = r := ⟨_, rfl⟩
  have hil := inter_len st ca ops bk l
  rw [hr] at hil
  have HL2 : Hid (r.2.2.1.length ≤ 1000000) := hid (by omega)
  have HM2 : Hid (∀ x ∈ r.2.2.2, R64 x) := hid (fun x hx => HRL.out x (inter_mem (by rw [← hr] at hx; exact hx)))
  have HL3 : Hid (r.2.2.2.length ≤ 1000000) := hid (by omega)
  have HCA := hid (fun X (hX : Below W3.heap.size W3 X) => (by
    obtain ⟨q1, q2, q3, q4⟩ := HDK.out X hX
    have h := interrupt_any st ca _ _ _ _ ops bk l X q1 HSN.out q2 q3 q4 (by omega) (by omega) (by omega) hrk
    rw [hr] at h
    exact h : Calls Try.prog 34 #[.agg #[.slice A st.length c, .slice B ca.length d], .slice O ops.length oc, .int .i64 bk, .slice L l.length lc] X (IntQ X r)))
  have HCF := hid (fun X (hX : Below W3.heap.size W3 X) => (by
    obtain ⟨q1, q2, q3, q4⟩ := HDK.out X hX
    have h := refInterrupt_any st ca _ _ _ _ ops bk l X q1 HSN.out q2 q3 q4 (by omega) (by omega) (by omega) hrk
    rw [hr] at h
    exact h : Calls Try.prog 35 #[.agg #[.slice A st.length c, .slice B ca.length d], .slice O ops.length oc, .int .i64 bk, .slice L l.length lc] X (RIntQ X r)))
  clear hil
  clear hr
  obtain ⟨n, hn⟩ : ∃ n, st.length = n := ⟨_, rfl⟩
  obtain ⟨m, hm⟩ : ∃ n, ca.length = n := ⟨_, rfl⟩
  obtain ⟨on, hon⟩ : ∃ n, ops.length = n := ⟨_, rfl⟩
  obtain ⟨ln, hln⟩ : ∃ n, l.length = n := ⟨_, rfl⟩
  rw [hn, hm] at x0 x1
  rw [hn, hm, hon, hln] at HCA HCF
  rw [hn, hm] at HF HBX
  rw [hln] at HBY
  rw [hn, hm, hln] at HW3
  rw [hon] at HOPS
  rw [hln] at d4 d4'
  rw [hn, hm, hon, hln]
  clear hn hm hon hln hst hca hol htot h4
  obtain ⟨ie, cs, cc, cl⟩ := r
  dsimp only at HL2 HL3 HM2
  obtain ⟨csl, hcsl⟩ : ∃ l, cs.length = l := ⟨_, rfl⟩
  obtain ⟨ccl, hccl⟩ : ∃ l, cc.length = l := ⟨_, rfl⟩
  obtain ⟨cll, hcll⟩ : ∃ l, cl.length = l := ⟨_, rfl⟩
  have HCO := hid (fun (w w' : World) (e : Ending) (h : IntQ w (ie, cs, cc, cl) e w') => (by
    have h := int_open h HM2.out
    rw [hcsl, hccl, hcll] at h
    exact h : ∃ A c B d U uc, e = .returned (.tuple #[.agg #[.slice A csl c, .slice B ccl d], .slice U cll uc, .int .i64 ie]) ∧ Dk w' (.agg #[.slice A csl c, .slice B ccl d]) cs cc ∧ Ints w' (.slice U cll uc) cl ∧ Below w.heap.size w w'))
  have HCP := hid (fun (w w' : World) (e : Ending) (h : RIntQ w (ie, cs, cc, cl) e w') => (by
    have h := rint_open h
    rw [hcsl, hccl, hcll] at h
    exact h : ∃ A c B d U uc, e = .returned (.tuple #[.agg #[.slice A csl c, .slice B ccl d], .slice U cll uc, .int .i64 ie]) ∧ Dk w' (.agg #[.slice A csl c, .slice B ccl d]) cs cc ∧ Ints w' (.slice U cll uc) cl ∧ Below w.heap.size w w'))
  clear hcsl hccl hcll HM2
  go_enter Try.func6, Try.ntmps6
  go_upto_region 1 with fail
  rw [HW3.out, HG.out]
  go_upto_region 3 with (first
    | (go_at_call 11; refine HF.out.mono ?_; rintro e X4 ⟨rfl, hb4⟩; have HB4 := hid hb4; clear hb4)
    | (go_at_call 12; refine (HOPS.out X4 HB4.out).mono ?_; rintro e X5 ⟨rfl, hb5⟩; have HB5 : Hid (Below W3.heap.size W3 X5) := hid (below_both HB4.out hb5); have hy5 := HBY.out X5 HB5.out; have y1 := cell_of_row _ _ 1 _ _ _ hy5; clear hb5 hy5))
  clear x0 x1 y1
  have HBX5 := HB5
  have hx5 := HBX.out X5 HBX5.out
  have x0 := cell_of_row _ _ 0 _ _ _ hx5
  have x1 := cell_of_row _ _ 1 _ _ _ hx5
  clear hx5
  have hy5 := HBY.out X5 HBX5.out
  have y0 := cell_of_row _ _ 0 _ _ _ hy5
  have y1 := cell_of_row _ _ 1 _ _ _ hy5
  clear hy5
  go_upto_region 4 with (go_at_call 34; refine (HCA.out X5 HBX5.out).mono ?_; intro e Y11 hQ; obtain ⟨A11, c11, B11, d11, U11, u11, rfl, hk11, hi11, hb11⟩ := HCO.out _ _ _ hQ; have HK11 := hid hk11; have HI11 := hid hi11; have HY11 := hid hb11; clear hQ hk11 hb11 hi11)
  obtain ⟨W11, hW11⟩ : ∃ X, Y11.alloc (.cells #[.slice A11 csl c11, .slice B11 ccl d11] 25) = X := ⟨_, rfl⟩
  obtain ⟨p11, hp11⟩ : ∃ p, Y11.heap.size = p := ⟨_, rfl⟩
  have hb11 : Below Y11.heap.size Y11 W11 := by rw [← hW11]; exact al1 _ _
  have hx11 : W11.heap[p11]? = some (.cells #[.slice A11 csl c11, .slice B11 ccl d11] 25) := by rw [← hW11, ← hp11]; exact heap_alloc_new _ _
  rw [hW11, hp11]
  have HS11 : Hid (Below X5.heap.size X5 W11) := hid (below_both HY11.out hb11)
  have HBW11 : Hid (Below W3.heap.size W3 W11) := hid (below_both HBX5.out HS11.out)
  have HP11 := hid (fun X (hX : Below W11.heap.size W11 X) => (show X.heap[p11]? = some (.cells #[.slice A11 csl c11, .slice B11 ccl d11] 25) ∧ Dk X (.agg #[.slice A11 csl c11, .slice B11 ccl d11]) cs cc ∧ Ints X (.slice U11 cll u11) cl from ⟨(hX.block _ (box_lt hx11)).trans hx11, (HK11.out.below hb11).below hX, (HI11.out.below hb11).below hX⟩))
  clear hW11 hp11 hb11 hx11 x0 x1 y0 y1
  have hx5 := HBX.out W11 HBW11.out
  have x0 := cell_of_row _ _ 0 _ _ _ hx5
  have x1 := cell_of_row _ _ 1 _ _ _ hx5
  clear hx5
  have hy5 := HBY.out W11 HBW11.out
  have y0 := cell_of_row _ _ 0 _ _ _ hy5
  have y1 := cell_of_row _ _ 1 _ _ _ hy5
  clear hy5
  go_upto_region 5 with (go_at_call 35; refine (HCF.out W11 HBW11.out).mono ?_; intro e Y13 hQ; obtain ⟨A13, c13, B13, d13, U13, u13, rfl, hk13, hi13, hb13⟩ := HCP.out _ _ _ hQ; have HK13 := hid hk13; have HI13 := hid hi13; have HY13 := hid hb13; clear hQ hk13 hb13 hi13)
  obtain ⟨W13, hW13⟩ : ∃ X, Y13.alloc (.cells #[.slice A13 csl c13, .slice B13 ccl d13] 25) = X := ⟨_, rfl⟩
  obtain ⟨p13, hp13⟩ : ∃ p, Y13.heap.size = p := ⟨_, rfl⟩
  have hb13 : Below Y13.heap.size Y13 W13 := by rw [← hW13]; exact al1 _ _
  have hx13 : W13.heap[p13]? = some (.cells #[.slice A13 csl c13, .slice B13 ccl d13] 25) := by rw [← hW13, ← hp13]; exact heap_alloc_new _ _
  rw [hW13, hp13]
  have HS13 : Hid (Below W11.heap.size W11 W13) := hid (below_both HY13.out hb13)
  have HBW13 : Hid (Below W3.heap.size W3 W13) := hid (below_both HBW11.out HS13.out)
  have HP13 := hid (fun X (hX : Below W13.heap.size W13 X) => (show X.heap[p13]? = some (.cells #[.slice A13 csl c13, .slice B13 ccl d13] 25) ∧ Dk X (.agg #[.slice A13 csl c13, .slice B13 ccl d13]) cs cc ∧ Ints X (.slice U13 cll u13) cl from ⟨(hX.block _ (box_lt hx13)).trans hx13, (HK13.out.below hb13).below hX, (HI13.out.below hb13).below hX⟩))
  clear hW13 hp13 hb13 hx13 x0 x1 y0 y1
  obtain ⟨hx7, hk7, hi7⟩ := HP11.out W13 HS13.out
  obtain ⟨hx9, hk9, hi9⟩ := HP13.out W13 (Below.refl _ _)
  have x0 := cell_of_row _ _ 0 _ _ _ hx7
  have x1 := cell_of_row _ _ 1 _ _ _ hx7
  have y0 := cell_of_row _ _ 0 _ _ _ hx9
  have y1 := cell_of_row _ _ 1 _ _ _ hx9
  have HSM := hid (same_eq cs cc _ _ W13 hk7 hk9 HL2.out)
  have HIN := hid (fun X (hX : Below W13.heap.size W13 X) => sameInts_any cl _ _ X (hi7.below hX) (hi9.below hX) HL3.out)
  have dre : (ie == ie) = true := by simp
  clear hx7 hk7 hi7 hx9 hk9 hi9
  go_wp2_with (first
    | (go_at_call 33; refine (HIN.out X14 HB14.out).mono ?_; rintro e X16 ⟨rfl, hb16⟩; have HB16 := hid hb16; clear hb16)
    | (go_at_call 18; refine HSM.out.mono ?_; rintro e X14 ⟨rfl, hb14⟩; have HB14 := hid hb14; clear hb14)
    | (go_at_call 13; refine (HAW.out _).mono ?_; rintro e X17 ⟨rfl, hb17⟩; have HB17 := hid hb17; clear hb17))
  go_ret
  exact ⟨rfl, below_both HB3.out (below_both HBW13.out (below_both HB14.out (below_both HB16.out HB17.out)))⟩
end Go.Proofs.Ytoefbgkeinhibaa
