/- The walk of DiskRuns. -/
import Derived.Test.YtoefbgkeinhibaaSg
import Derived.Test.YtoefbgkeinhibaaSb
namespace Go.Proofs.Ytoefbgkeinhibaa
open Go.RowKit Go.Lib

theorem crs_mem {st : List Sect} {ca : List Ca} {l : List Int} {x : Int} (h : x ∈ (crashS st ca l).2.2) : x ∈ l := by
  unfold crashS at h
  split at h
  · dsimp only at h
    rw [crs_ch] at h
    exact List.mem_of_mem_drop h
  · exact h
theorem crash_ca (st : List Sect) (ca : List Ca) (l : List Int) : (crashS st ca l).2.1.length ≤ ca.length := by
  unfold crashS
  split
  · exact Nat.zero_le _
  · exact Nat.le_refl _
theorem crash_open {w w' : World} {rs : List Sect} {rc : List Ca} {rl : List Int} {e : Ending} (h : CrashQ w (rs, rc, rl) e w') (hr : ∀ x ∈ rl, R64 x) : ∃ A c B d U uc, e = .returned (.tuple #[.agg #[.slice A rs.length c, .slice B rc.length d], .slice U rl.length uc]) ∧ Dk w' (.agg #[.slice A rs.length c, .slice B rc.length d]) rs rc ∧ Ints w' (.slice U rl.length uc) rl ∧ Below w.heap.size w w' := by
  obtain ⟨v, u, rfl, ⟨⟨sv, cv, rfl, h1, h2⟩, h3⟩, h4, hb⟩ := h
  dsimp only at h1 h2 h3 h4
  obtain ⟨A, c, rfl⟩ := ownAny_form h1
  obtain ⟨B, d, rfl⟩ := ownAny_form h2
  obtain ⟨U, uc, rfl⟩ := own_formE h4
  exact ⟨A, c, B, d, U, uc, rfl, dk_own ⟨_, _, rfl, h1, h2⟩ h3.1 h3.2, ints_of_own h4 hr, hb⟩
theorem rcr_open {w w' : World} {rs : List Sect} {rc : List Ca} {rl : List Int} {e : Ending} (h : RCrQ w (rs, rc, rl) e w') : ∃ A c B d U uc, e = .returned (.tuple #[.agg #[.slice A rs.length c, .slice B rc.length d], .slice U rl.length uc]) ∧ Dk w' (.agg #[.slice A rs.length c, .slice B rc.length d]) rs rc ∧ Ints w' (.slice U rl.length uc) rl ∧ Below w.heap.size w w' := by
  obtain ⟨v, u, rfl, hd, hi, hb⟩ := h
  dsimp only at hd hi
  have hd' := hd
  obtain ⟨sv, cv, rfl, h1, h2, h3⟩ := hd'
  obtain ⟨A, c, rfl⟩ := sec_form h1
  obtain ⟨B, d, rfl⟩ := cas_form h3
  obtain ⟨U, uc, rfl⟩ := ints_form hi
  exact ⟨A, c, B, d, U, uc, rfl, hd, hi, hb⟩
theorem ints_len {w : World} {U : Option Addr} {n c : Nat} {l : List Int} (h : Ints w (.slice U n c) l) : n ≤ 9223372036854775807 := by
  obtain ⟨_, h5, h6⟩ := arr_cap h.2.2
  omega
set_option maxHeartbeats 8000000 in
set_option maxRecDepth 100000 in
theorem runs_any (v : Value) (st : List Sect) (ca : List Ca) (ov : Value) (ops : List OpT) (lv : Value) (l : List Int) (w : World) (hd : Dk w v st ca) (ho : OpsA w ov ops) (hbig : BigO ops) (hl : Ints w lv l) :
    Calls Try.prog 5 #[v, ov, lv] w (TrueQ w) := by
  obtain ⟨sv, cv, rfl, hs1, hs2, hs3⟩ := hd
  obtain ⟨A, c, rfl⟩ := sec_form hs1
  obtain ⟨B, d, rfl⟩ := cas_form hs3
  obtain ⟨O, oc, rfl⟩ := ops_form ho
  obtain ⟨L, lc, rfl⟩ := ints_form hl
  obtain ⟨g, hg⟩ : ∃ g, w.heap.size = g := ⟨_, rfl⟩
  obtain ⟨W3, hW3⟩ : ∃ X, w.alloc (.cells #[.slice A st.length c, .slice B ca.length d] 25) = X := ⟨_, rfl⟩
  have hb3 : Below w.heap.size w W3 := by rw [← hW3]; exact al1 _ _
  have hx : W3.heap[g]? = some (.cells #[.slice A st.length c, .slice B ca.length d] 25) := by rw [← hW3, ← hg]; exact heap_alloc_new _ _
  have HB3 := hid hb3
  have HDK := hid (fun X (hX : Below W3.heap.size W3 X) => (show Sec X (.slice A st.length c) st ∧ Cas X (.slice B ca.length d) ca ∧ OpsA X (.slice O ops.length oc) ops ∧ Ints X (.slice L l.length lc) l from ⟨hs1.below (hb3.trans (hX.mono hb3.size)), hs3.below (hb3.trans (hX.mono hb3.size)), ho.below (hb3.trans (hX.mono hb3.size)), hl.below (hb3.trans (hX.mono hb3.size))⟩))
  have HBX := hid (fun X (hX : Below W3.heap.size W3 X) => (hX.block _ (box_lt hx)).trans hx)
  have HSN := hid hs2
  have HAW := hid (fun W => awake_any W)
  have HW3 := hid hW3
  have HG := hid hg
  have HRL := hid hl.1
  have HF := hid (few_any (.agg #[.slice A st.length c, .slice B ca.length d]) st ca W3 ⟨_, _, rfl, (HDK.out W3 (Below.refl _ _)).1, hs2, (HDK.out W3 (Below.refl _ _)).2.1⟩)
  have HOPS := hid (fun X (hX : Below W3.heap.size W3 X) => fewOps_any ops (.slice O ops.length oc) X (HDK.out X hX).2.2.1 hbig)
  have x0 := cell_of_row _ _ 0 _ _ _ hx
  have x1 := cell_of_row _ _ 1 _ _ _ hx
  clear hs1 hs2 hs3 ho hl hb3 hx hW3 hg
  obtain ⟨f1, hf1⟩ : ∃ b, fewD st ca = b := ⟨_, rfl⟩
  rw [hf1] at HF
  rcases f1 with _ | _
  · clear hf1
    go_enter Try.func5, Try.ntmps5
    go_upto_region 1 with fail
    rw [HW3.out, HG.out]
    go_upto_region 2 with (go_at_call 11; refine HF.out.mono ?_; rintro e X4 ⟨rfl, hb4⟩; have HB4 := hid hb4; clear hb4)
    clear x0 x1
    go_wp2_with (go_at_call 13; refine (HAW.out _).mono ?_; rintro e X5 ⟨rfl, hb5⟩; have HB5 := hid hb5; clear hb5)
    go_ret
    exact ⟨rfl, below_both HB3.out (below_both HB4.out HB5.out)⟩
  obtain ⟨f2, hf2⟩ : ∃ b, fewO ops = b := ⟨_, rfl⟩
  rw [hf2] at HOPS
  rcases f2 with _ | _
  · clear hf1 hf2
    go_enter Try.func5, Try.ntmps5
    go_upto_region 1 with fail
    rw [HW3.out, HG.out]
    go_upto_region 2 with (first
      | (go_at_call 11; refine HF.out.mono ?_; rintro e X4 ⟨rfl, hb4⟩; have HB4 := hid hb4; clear hb4)
      | (go_at_call 12; refine (HOPS.out X4 HB4.out).mono ?_; rintro e X5 ⟨rfl, hb5⟩; have HB5 := hid hb5; clear hb5))
    clear x0 x1
    go_wp2_with (go_at_call 13; refine (HAW.out _).mono ?_; rintro e X6 ⟨rfl, hb6⟩; have HB6 := hid hb6; clear hb6)
    go_ret
    exact ⟨rfl, below_both HB3.out (below_both HB4.out (below_both HB5.out HB6.out))⟩
  by_cases h4 : 400 < l.length
  · have d4 : decide (400 < l.length) = true := decide_eq_true h4
    have d4' : decide (400 < (l.length : Int)) = true := decide_eq_true (by omega)
    clear hf1 hf2
    go_enter Try.func5, Try.ntmps5
    go_upto_region 1 with fail
    rw [HW3.out, HG.out]
    go_upto_region 2 with (first
      | (go_at_call 11; refine HF.out.mono ?_; rintro e X4 ⟨rfl, hb4⟩; have HB4 := hid hb4; clear hb4)
      | (go_at_call 12; refine (HOPS.out X4 HB4.out).mono ?_; rintro e X5 ⟨rfl, hb5⟩; have HB5 := hid hb5; clear hb5))
    clear x0 x1
    go_wp2_with (go_at_call 13; refine (HAW.out _).mono ?_; rintro e X6 ⟨rfl, hb6⟩; have HB6 := hid hb6; clear hb6)
    go_ret
    exact ⟨rfl, below_both HB3.out (below_both HB4.out (below_both HB5.out HB6.out))⟩
  obtain ⟨hst, hca⟩ : st.length ≤ 400 ∧ ca.length ≤ 400 := by
    unfold fewD at hf1
    rw [Bool.and_eq_true] at hf1
    exact ⟨of_decide_eq_true hf1.1, of_decide_eq_true hf1.2⟩
  obtain ⟨hol, htot⟩ := fewO_tot hf2
  have d4 : decide (400 < l.length) = false := decide_eq_false h4
  have d4' : decide (400 < (l.length : Int)) = false := decide_eq_false (by omega)
  clear hf1 hf2
  obtain ⟨r, hr⟩ : ∃ r, runS st ca ops = r := ⟨_, rfl⟩
  obtain ⟨r2, hr2⟩ : ∃ r, crashS st ca l = r := ⟨_, rfl⟩
  have HL1 : Hid (r.2.2.2.length ≤ 1000000) := hid (by rw [← hr]; have := (runS_len st ca ops).2; omega)
  have HL2 : Hid (r2.2.1.length ≤ 1000000) := hid (by rw [← hr2]; have := crash_ca st ca l; omega)
  have HM2 : Hid (∀ x ∈ r2.2.2, R64 x) := hid (fun x hx => HRL.out x (crs_mem (by rw [← hr2] at hx; exact hx)))
  have HL3 : Hid (r2.2.2.length ≤ 1000000) := hid (by
    rw [← hr2]
    unfold crashS
    split
    · dsimp only
      rw [crs_ch, List.length_drop]
      omega
    · dsimp only
      omega)
  have HRA := hid (fun X (hX : Below W3.heap.size W3 X) => (by
    obtain ⟨q1, q2, q3, q4⟩ := HDK.out X hX
    have h := run_any st ca _ _ _ ops X q1 HSN.out q2 q3 (by omega)
    rw [hr] at h
    exact h : Calls Try.prog 29 #[.agg #[.slice A st.length c, .slice B ca.length d], .slice O ops.length oc] X (RunQ X r)))
  have HRF := hid (fun X (hX : Below W3.heap.size W3 X) => (by
    obtain ⟨q1, q2, q3, q4⟩ := HDK.out X hX
    have h := refRun_any st ca _ _ _ ops X q1 HSN.out q2 q3 (by omega)
    rw [hr] at h
    exact h : Calls Try.prog 30 #[.agg #[.slice A st.length c, .slice B ca.length d], .slice O ops.length oc] X (RunQ X r)))
  have HCA := hid (fun X (hX : Below W3.heap.size W3 X) => (by
    obtain ⟨q1, q2, q3, q4⟩ := HDK.out X hX
    have h := crash_any st ca _ _ _ l X q1 HSN.out q2 q4 (by omega) (by omega) (by omega)
    rw [hr2] at h
    exact h : Calls Try.prog 31 #[.agg #[.slice A st.length c, .slice B ca.length d], .slice L l.length lc] X (CrashQ X r2)))
  have HCF := hid (fun X (hX : Below W3.heap.size W3 X) => (by
    obtain ⟨q1, q2, q3, q4⟩ := HDK.out X hX
    have h := refCrash_any st ca _ _ _ l X q1 HSN.out q2 q4 (by omega)
    rw [hr2] at h
    exact h : Calls Try.prog 32 #[.agg #[.slice A st.length c, .slice B ca.length d], .slice L l.length lc] X (RCrQ X r2)))
  clear hr hr2
  obtain ⟨n, hn⟩ : ∃ n, st.length = n := ⟨_, rfl⟩
  obtain ⟨m, hm⟩ : ∃ n, ca.length = n := ⟨_, rfl⟩
  obtain ⟨on, hon⟩ : ∃ n, ops.length = n := ⟨_, rfl⟩
  obtain ⟨ln, hln⟩ : ∃ n, l.length = n := ⟨_, rfl⟩
  rw [hn, hm] at x0 x1
  rw [hn, hm, hon] at HRA HRF
  rw [hn, hm, hln] at HCA HCF
  rw [hn, hm] at HF HBX HW3
  rw [hon] at HOPS
  rw [hln] at d4 d4'
  rw [hn, hm, hon, hln]
  clear hn hm hon hln hst hca hol htot h4
  obtain ⟨rn, re, rs, rc⟩ := r
  obtain ⟨cs, cc, cl⟩ := r2
  dsimp only at HL1 HL2 HL3 HM2
  obtain ⟨rsl, hrsl⟩ : ∃ l, rs.length = l := ⟨_, rfl⟩
  obtain ⟨rcl, hrcl⟩ : ∃ l, rc.length = l := ⟨_, rfl⟩
  obtain ⟨csl, hcsl⟩ : ∃ l, cs.length = l := ⟨_, rfl⟩
  obtain ⟨ccl, hccl⟩ : ∃ l, cc.length = l := ⟨_, rfl⟩
  obtain ⟨cll, hcll⟩ : ∃ l, cl.length = l := ⟨_, rfl⟩
  have HRO := hid (fun (w w' : World) (e : Ending) (h : RunQ w (rn, re, rs, rc) e w') => (by
    obtain ⟨A, c, B, d, h1, h2, h3⟩ := runQ_open h
    have h2 := h2.dk
    rw [hrsl, hrcl] at h1 h2
    exact ⟨A, c, B, d, h1, h2, h3⟩ : ∃ A c B d, e = .returned (.tuple #[.agg #[.slice A rsl c, .slice B rcl d], .int .i64 rn, .int .i64 re]) ∧ Dk w' (.agg #[.slice A rsl c, .slice B rcl d]) rs rc ∧ Below w.heap.size w w'))
  have HCO := hid (fun (w w' : World) (e : Ending) (h : CrashQ w (cs, cc, cl) e w') => (by
    have h := crash_open h HM2.out
    rw [hcsl, hccl, hcll] at h
    exact h : ∃ A c B d U uc, e = .returned (.tuple #[.agg #[.slice A csl c, .slice B ccl d], .slice U cll uc]) ∧ Dk w' (.agg #[.slice A csl c, .slice B ccl d]) cs cc ∧ Ints w' (.slice U cll uc) cl ∧ Below w.heap.size w w'))
  have HCP := hid (fun (w w' : World) (e : Ending) (h : RCrQ w (cs, cc, cl) e w') => (by
    have h := rcr_open h
    rw [hcsl, hccl, hcll] at h
    exact h : ∃ A c B d U uc, e = .returned (.tuple #[.agg #[.slice A csl c, .slice B ccl d], .slice U cll uc]) ∧ Dk w' (.agg #[.slice A csl c, .slice B ccl d]) cs cc ∧ Ints w' (.slice U cll uc) cl ∧ Below w.heap.size w w'))
  clear hrsl hrcl hcsl hccl hcll HM2
  go_enter Try.func5, Try.ntmps5
  go_upto_region 1 with fail
  rw [HW3.out, HG.out]
  go_upto_region 3 with (first
    | (go_at_call 11; refine HF.out.mono ?_; rintro e X4 ⟨rfl, hb4⟩; have HB4 := hid hb4; clear hb4)
    | (go_at_call 12; refine (HOPS.out X4 HB4.out).mono ?_; rintro e X5 ⟨rfl, hb5⟩; have HB5 : Hid (Below W3.heap.size W3 X5) := hid (below_both HB4.out hb5); clear hb5))
  clear x0 x1
  have HBX5 := HB5
  have hx5 := HBX.out X5 HBX5.out
  have x0 := cell_of_row _ _ 0 _ _ _ hx5
  have x1 := cell_of_row _ _ 1 _ _ _ hx5
  clear hx5
  go_upto_region 4 with (go_at_call 29; refine (HRA.out X5 HBX5.out).mono ?_; intro e Y7 hQ; obtain ⟨A7, c7, B7, d7, rfl, hk7, hb7⟩ := HRO.out _ _ _ hQ; have HK7 := hid hk7; have HY7 := hid hb7; clear hQ hk7 hb7)
  obtain ⟨W7, hW7⟩ : ∃ X, Y7.alloc (.cells #[.slice A7 rsl c7, .slice B7 rcl d7] 25) = X := ⟨_, rfl⟩
  obtain ⟨p7, hp7⟩ : ∃ p, Y7.heap.size = p := ⟨_, rfl⟩
  have hb7 : Below Y7.heap.size Y7 W7 := by rw [← hW7]; exact al1 _ _
  have hx7 : W7.heap[p7]? = some (.cells #[.slice A7 rsl c7, .slice B7 rcl d7] 25) := by rw [← hW7, ← hp7]; exact heap_alloc_new _ _
  rw [hW7, hp7]
  have HS7 : Hid (Below X5.heap.size X5 W7) := hid (below_both HY7.out hb7)
  have HBW7 : Hid (Below W3.heap.size W3 W7) := hid (below_both HBX5.out HS7.out)
  have HP7 := hid (fun X (hX : Below W7.heap.size W7 X) => (show X.heap[p7]? = some (.cells #[.slice A7 rsl c7, .slice B7 rcl d7] 25) ∧ Dk X (.agg #[.slice A7 rsl c7, .slice B7 rcl d7]) rs rc from ⟨(hX.block _ (box_lt hx7)).trans hx7, (HK7.out.below hb7).below hX⟩))
  clear hW7 hp7 hb7 hx7 x0 x1
  have hx5 := HBX.out W7 HBW7.out
  have x0 := cell_of_row _ _ 0 _ _ _ hx5
  have x1 := cell_of_row _ _ 1 _ _ _ hx5
  clear hx5
  go_upto_region 5 with (go_at_call 30; refine (HRF.out W7 HBW7.out).mono ?_; intro e Y9 hQ; obtain ⟨A9, c9, B9, d9, rfl, hk9, hb9⟩ := HRO.out _ _ _ hQ; have HK9 := hid hk9; have HY9 := hid hb9; clear hQ hk9 hb9)
  obtain ⟨W9, hW9⟩ : ∃ X, Y9.alloc (.cells #[.slice A9 rsl c9, .slice B9 rcl d9] 25) = X := ⟨_, rfl⟩
  obtain ⟨p9, hp9⟩ : ∃ p, Y9.heap.size = p := ⟨_, rfl⟩
  have hb9 : Below Y9.heap.size Y9 W9 := by rw [← hW9]; exact al1 _ _
  have hx9 : W9.heap[p9]? = some (.cells #[.slice A9 rsl c9, .slice B9 rcl d9] 25) := by rw [← hW9, ← hp9]; exact heap_alloc_new _ _
  rw [hW9, hp9]
  have HS9 : Hid (Below W7.heap.size W7 W9) := hid (below_both HY9.out hb9)
  have HBW9 : Hid (Below W3.heap.size W3 W9) := hid (below_both HBW7.out HS9.out)
  have HP9 := hid (fun X (hX : Below W9.heap.size W9 X) => (show X.heap[p9]? = some (.cells #[.slice A9 rsl c9, .slice B9 rcl d9] 25) ∧ Dk X (.agg #[.slice A9 rsl c9, .slice B9 rcl d9]) rs rc from ⟨(hX.block _ (box_lt hx9)).trans hx9, (HK9.out.below hb9).below hX⟩))
  clear hW9 hp9 hb9 hx9 x0 x1
  have hx5 := HBX.out W9 HBW9.out
  have x0 := cell_of_row _ _ 0 _ _ _ hx5
  have x1 := cell_of_row _ _ 1 _ _ _ hx5
  clear hx5
  go_upto_region 6 with (go_at_call 31; refine (HCA.out W9 HBW9.out).mono ?_; intro e Y11 hQ; obtain ⟨A11, c11, B11, d11, U11, u11, rfl, hk11, hi11, hb11⟩ := HCO.out _ _ _ hQ; have HK11 := hid hk11; have HI11 := hid hi11; have HY11 := hid hb11; clear hQ hk11 hb11 hi11)
  obtain ⟨W11, hW11⟩ : ∃ X, Y11.alloc (.cells #[.slice A11 csl c11, .slice B11 ccl d11] 25) = X := ⟨_, rfl⟩
  obtain ⟨p11, hp11⟩ : ∃ p, Y11.heap.size = p := ⟨_, rfl⟩
  have hb11 : Below Y11.heap.size Y11 W11 := by rw [← hW11]; exact al1 _ _
  have hx11 : W11.heap[p11]? = some (.cells #[.slice A11 csl c11, .slice B11 ccl d11] 25) := by rw [← hW11, ← hp11]; exact heap_alloc_new _ _
  rw [hW11, hp11]
  have HS11 : Hid (Below W9.heap.size W9 W11) := hid (below_both HY11.out hb11)
  have HBW11 : Hid (Below W3.heap.size W3 W11) := hid (below_both HBW9.out HS11.out)
  have HP11 := hid (fun X (hX : Below W11.heap.size W11 X) => (show X.heap[p11]? = some (.cells #[.slice A11 csl c11, .slice B11 ccl d11] 25) ∧ Dk X (.agg #[.slice A11 csl c11, .slice B11 ccl d11]) cs cc ∧ Ints X (.slice U11 cll u11) cl from ⟨(hX.block _ (box_lt hx11)).trans hx11, (HK11.out.below hb11).below hX, (HI11.out.below hb11).below hX⟩))
  clear hW11 hp11 hb11 hx11 x0 x1
  have hx5 := HBX.out W11 HBW11.out
  have x0 := cell_of_row _ _ 0 _ _ _ hx5
  have x1 := cell_of_row _ _ 1 _ _ _ hx5
  clear hx5
  go_upto_region 7 with (go_at_call 32; refine (HCF.out W11 HBW11.out).mono ?_; intro e Y13 hQ; obtain ⟨A13, c13, B13, d13, U13, u13, rfl, hk13, hi13, hb13⟩ := HCP.out _ _ _ hQ; have HK13 := hid hk13; have HI13 := hid hi13; have HY13 := hid hb13; clear hQ hk13 hb13 hi13)
  obtain ⟨W13, hW13⟩ : ∃ X, Y13.alloc (.cells #[.slice A13 csl c13, .slice B13 ccl d13] 25) = X := ⟨_, rfl⟩
  obtain ⟨p13, hp13⟩ : ∃ p, Y13.heap.size = p := ⟨_, rfl⟩
  have hb13 : Below Y13.heap.size Y13 W13 := by rw [← hW13]; exact al1 _ _
  have hx13 : W13.heap[p13]? = some (.cells #[.slice A13 csl c13, .slice B13 ccl d13] 25) := by rw [← hW13, ← hp13]; exact heap_alloc_new _ _
  rw [hW13, hp13]
  have HS13 : Hid (Below W11.heap.size W11 W13) := hid (below_both HY13.out hb13)
  have HBW13 : Hid (Below W3.heap.size W3 W13) := hid (below_both HBW11.out HS13.out)
  have HP13 := hid (fun X (hX : Below W13.heap.size W13 X) => (show X.heap[p13]? = some (.cells #[.slice A13 csl c13, .slice B13 ccl d13] 25) ∧ Dk X (.agg #[.slice A13 csl c13, .slice B13 ccl d13]) cs cc ∧ Ints X (.slice U13 cll u13) cl from ⟨(hX.block _ (box_lt hx13)).trans hx13, (HK13.out.below hb13).below hX, (HI13.out.below hb13).below hX⟩))
  clear hW13 hp13 hb13 hx13 x0 x1
  have h1113 : Below W11.heap.size W11 W13 := HS13.out
  have h913 : Below W9.heap.size W9 W13 := below_both HS11.out h1113
  have h713 : Below W7.heap.size W7 W13 := below_both HS9.out h913
  obtain ⟨hx7, hk7⟩ := HP7.out W13 h713
  obtain ⟨hx9, hk9⟩ := HP9.out W13 h913
  have x0 := cell_of_row _ _ 0 _ _ _ hx7
  have x1 := cell_of_row _ _ 1 _ _ _ hx7
  have y0 := cell_of_row _ _ 0 _ _ _ hx9
  have y1 := cell_of_row _ _ 1 _ _ _ hx9
  have HSM := hid (same_eq rs rc _ _ W13 hk7 hk9 HL1.out)
  have HQ11 := hid (fun X (hX : Below W13.heap.size W13 X) => HP11.out X (below_both h1113 hX))
  have HSM2 := hid (fun X (hX : Below W13.heap.size W13 X) => same_eq cs cc _ _ X (HQ11.out X hX).2.1 (HP13.out X hX).2.1 HL2.out)
  have HIN := hid (fun X (hX : Below W13.heap.size W13 X) => sameInts_any cl _ _ X (HQ11.out X hX).2.2 (HP13.out X hX).2.2 HL3.out)
  have drn : (rn == rn) = true := by simp
  have dre : (re == re) = true := by simp
  clear hx7 hk7 hx9 hk9 h1113 h913 h713
  go_wp2_with (first
    | (have Z15 := HB15; go_at_call 33; refine (HIN.out X15 HB15.out).mono ?_; rintro e X16 ⟨rfl, hb16⟩; have HB16 := hid hb16; clear hb16)
    | (have Z14 := HB14; go_at_call 18; refine (HSM2.out X14 HB14.out).mono ?_; rintro e X15 ⟨rfl, hb15⟩; have HB15 : Hid (Below W13.heap.size W13 X15) := hid (below_both HB14.out hb15); clear hb15 z0 z1 t0 t1)
    | (go_at_call 18; refine HSM.out.mono ?_; rintro e X14 ⟨rfl, hb14⟩; have HB14 := hid hb14; clear hb14; have z0 := cell_of_row _ _ 0 _ _ _ (HQ11.out X14 HB14.out).1; have z1 := cell_of_row _ _ 1 _ _ _ (HQ11.out X14 HB14.out).1; have t0 := cell_of_row _ _ 0 _ _ _ (HP13.out X14 HB14.out).1; have t1 := cell_of_row _ _ 1 _ _ _ (HP13.out X14 HB14.out).1)
    | (go_at_call 13; refine (HAW.out _).mono ?_; rintro e X17 ⟨rfl, hb17⟩; have HB17 := hid hb17; clear hb17))
  go_ret
  exact ⟨rfl, below_both HB3.out (below_both HBW13.out (below_both HB15.out (below_both HB16.out HB17.out)))⟩
end Go.Proofs.Ytoefbgkeinhibaa
