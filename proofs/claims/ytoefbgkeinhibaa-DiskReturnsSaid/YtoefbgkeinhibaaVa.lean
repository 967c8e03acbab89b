/- The walk of DiskWrites. -/
import Derived.Test.YtoefbgkeinhibaaSc
import Derived.Test.YtoefbgkeinhibaaSb
namespace Go.Proofs.Ytoefbgkeinhibaa
open Go.RowKit Go.Lib

theorem wrQ_open {w w' : World} {r : Int × Int × List Sect × List Ca} {e : Ending} (h : WrQ w r e w') : ∃ A c B d, e = .returned (.tuple #[.agg #[.slice A r.2.2.1.length c, .slice B r.2.2.2.length d], .int .i64 r.2.1]) ∧ Dk w' (.agg #[.slice A r.2.2.1.length c, .slice B r.2.2.2.length d]) r.2.2.1 r.2.2.2 ∧ Below w.heap.size w w' := by
  obtain ⟨v, rfl, ⟨⟨sv, cv, rfl, h1, h2⟩, h3⟩, hb⟩ := h
  obtain ⟨A, c, rfl⟩ := ownAny_form h1
  obtain ⟨B, d, rfl⟩ := ownAny_form h2
  exact ⟨A, c, B, d, rfl, dk_own ⟨_, _, rfl, h1, h2⟩ h3.1 h3.2, hb⟩
def readL (st : List Sect) (ca : List Ca) (s m : Int) : List Sect := if readE st.length ca s m = 0 then ((newL st ca).drop s.toNat).take m.toNat else []
theorem readQ_open {w w' : World} {st : List Sect} {ca : List Ca} {s m : Int} {e : Ending} (h : ReadQ w st ca s m e w') : ∃ A c, e = .returned (.tuple #[.slice A (readL st ca s m).length c, .int .i64 (readE st.length ca s m)]) ∧ Sec w' (.slice A (readL st ca s m).length c) (readL st ca s m) ∧ Below w.heap.size w w' := by
  obtain ⟨hb, ⟨er, h1, h2, rfl⟩ | ⟨h0, v, rfl, hs⟩⟩ := h
  · have hl : readL st ca s m = [] := by unfold readL; rw [if_neg (by rw [h1]; exact h2)]
    rw [hl, h1]
    exact ⟨none, 0, rfl, ⟨(fun s (hs : s ∈ []) => by cases hs), arr_nil _ _⟩, hb⟩
  · have hl : readL st ca s m = ((newL st ca).drop s.toNat).take m.toNat := by unfold readL; rw [if_pos h0]
    rw [hl, h0]
    obtain ⟨A, c, rfl⟩ := sec_form hs
    exact ⟨A, c, rfl, hs, hb⟩
theorem wrS_len (st : List Sect) (ca : List Ca) (a : Int) (l : List Sect) : (wrS st ca a l).2.2.2.length ≤ ca.length + l.length := by
  unfold wrS
  split
  · split
    · rw [List.length_append, putL_len]; exact Nat.le_refl _
    · exact Nat.zero_le _
  · exact Nat.zero_le _
set_option maxHeartbeats 8000000 in
set_option maxRecDepth 100000 in
theorem writes_any (v : Value) (st : List Sect) (ca : List Ca) (dv : Value) (k a : Int) (dl : List Sect) (s m : Int) (w : World) (hd : Dk w v st ca) (hdl : Sec w dv dl) (hdn : NilOk dv) (hrk : R64 k) (hra : R64 a) (hbig : dl.length ≤ 17592186044416) (hrs : R64 s) (hrm : R64 m) :
    Calls Try.prog 3 #[v, .agg #[.int .i64 k, .int .i64 a, dv], .agg #[.int .i64 s, .int .i64 m]] w (TrueQ w) := by
  obtain ⟨sv, cv, rfl, hs1, hs2, hs3⟩ := hd
  obtain ⟨A, c, rfl⟩ := sec_form hs1
  obtain ⟨B, d, rfl⟩ := cas_form hs3
  obtain ⟨D, dc, rfl⟩ := sec_form hdl
  obtain ⟨g, hg⟩ : ∃ g, w.heap.size = g := ⟨_, rfl⟩
  obtain ⟨W3, hW3⟩ : ∃ X, ((w.alloc (.cells #[.slice A st.length c, .slice B ca.length d] 25)).alloc (.cells #[.int .i64 k, .int .i64 a, .slice D dl.length dc] 27)).alloc (.cells #[.int .i64 s, .int .i64 m] 29) = X := ⟨_, rfl⟩
  have hb3 : Below w.heap.size w W3 := by rw [← hW3]; exact (((Below.refl _ w).alloc (Nat.le_refl _) _).alloc (by simp) _).alloc (by simp; omega) _
  have hx : W3.heap[g]? = some (.cells #[.slice A st.length c, .slice B ca.length d] 25) := by rw [← hW3, ← hg, Below.heap_alloc _ _ _ (by simp; omega), Below.heap_alloc _ _ _ (by simp)]; exact heap_alloc_new _ _
  have hy : W3.heap[g + 1]? = some (.cells #[.int .i64 k, .int .i64 a, .slice D dl.length dc] 27) := by rw [← hW3, ← hg, Below.heap_alloc _ _ _ (by simp)]; simpa using heap_alloc_new (w.alloc (.cells #[.slice A st.length c, .slice B ca.length d] 25)) (.cells #[.int .i64 k, .int .i64 a, .slice D dl.length dc] 27)
  have hz : W3.heap[g + 1 + 1]? = some (.cells #[.int .i64 s, .int .i64 m] 29) := by rw [← hW3, ← hg]; simpa using heap_alloc_new ((w.alloc (.cells #[.slice A st.length c, .slice B ca.length d] 25)).alloc (.cells #[.int .i64 k, .int .i64 a, .slice D dl.length dc] 27)) (.cells #[.int .i64 s, .int .i64 m] 29)
  have HB3 := hid hb3
  have HDK := hid (fun X (hX : Below W3.heap.size W3 X) => (show Sec X (.slice A st.length c) st ∧ Cas X (.slice B ca.length d) ca ∧ Sec X (.slice D dl.length dc) dl from ⟨hs1.below (hb3.trans (hX.mono hb3.size)), hs3.below (hb3.trans (hX.mono hb3.size)), hdl.below (hb3.trans (hX.mono hb3.size))⟩))
  have HBX := hid (fun X (hX : Below W3.heap.size W3 X) => (show X.heap[g]? = some (.cells #[.slice A st.length c, .slice B ca.length d] 25) ∧ X.heap[g + 1]? = some (.cells #[.int .i64 k, .int .i64 a, .slice D dl.length dc] 27) ∧ X.heap[g + 1 + 1]? = some (.cells #[.int .i64 s, .int .i64 m] 29) from ⟨(hX.block _ (box_lt hx)).trans hx, (hX.block _ (box_lt hy)).trans hy, (hX.block _ (box_lt hz)).trans hz⟩))
  have HSN := hid hs2
  have HDN := hid hdn
  have HAW := hid (fun W => awake_any W)
  have HW3 := hid hW3
  have HG := hid hg
  have HF := hid (few_any (.agg #[.slice A st.length c, .slice B ca.length d]) st ca W3 ⟨_, _, rfl, (HDK.out W3 (Below.refl _ _)).1, hs2, (HDK.out W3 (Below.refl _ _)).2.1⟩)
  have HOPS := hid (fun X (hX : Below W3.heap.size W3 X) => fewOps_any [⟨k, a, .slice D dl.length dc, dl⟩] (.slice (some ⟨X.heap.size, 0, none⟩) 1 1) (X.alloc (.cells #[.int .i64 k, .int .i64 a, .slice D dl.length dc] 27)) (ops_lit (l := [⟨k, a, .slice D dl.length dc, dl⟩]) (fun x hx => by
    rw [List.mem_singleton] at hx
    subst hx
    exact ⟨(HDK.out X hX).2.2.below (al1 _ _), hdn, hrk, hra⟩) (by simp) (heap_alloc_new _ _)) (fun x hx => by
    rw [List.mem_singleton] at hx
    subst hx
    exact hbig))
  have x0 := cell_of_row _ _ 0 _ _ _ hx
  have x1 := cell_of_row _ _ 1 _ _ _ hx
  clear hs1 hs2 hs3 hdl hdn hb3 hx hy hz hW3 hg
  obtain ⟨f1, hf1⟩ : ∃ b, fewD st ca = b := ⟨_, rfl⟩
  rw [hf1] at HF
  rcases f1 with _ | _
  · clear hf1
    go_enter Try.func3, Try.ntmps3
    go_upto_region 1 with fail
    rw [HW3.out, HG.out]
    go_upto_region 2 with (go_at_call 11; refine HF.out.mono ?_; rintro e X4 ⟨rfl, hb4⟩; have HB4 := hid hb4; clear hb4)
    clear x0 x1
    go_wp2_with (go_at_call 13; refine (HAW.out _).mono ?_; rintro e X5 ⟨rfl, hb5⟩; have HB5 := hid hb5; clear hb5)
    go_ret
    exact ⟨rfl, below_both HB3.out (below_both HB4.out HB5.out)⟩
  have HFD := hid hf1
  obtain ⟨f2, hf2⟩ : ∃ b, fewO [⟨k, a, .slice D dl.length dc, dl⟩] = b := ⟨_, rfl⟩
  rw [hf2] at HOPS
  go_enter Try.func3, Try.ntmps3
  go_upto_region 1 with fail
  rw [HW3.out, HG.out]
  rcases f2 with _ | _
  · clear hf1 hf2
    go_upto_region 2 with (first
      | (go_at_call 11; refine HF.out.mono ?_; rintro e X4 ⟨rfl, hb4⟩; have HB4 := hid hb4; clear hb4; obtain ⟨_, hy4, _⟩ := HBX.out X4 HB4.out; have y0 := cell_of_row _ _ 0 _ _ _ hy4; have y1 := cell_of_row _ _ 1 _ _ _ hy4; have y2 := cell_of_row _ _ 2 _ _ _ hy4; clear hy4)
      | (go_at_call 12; refine (HOPS.out X4 HB4.out).mono ?_; rintro e X5 ⟨rfl, hb5⟩; have HB5 := hid hb5; clear hb5))
    clear x0 x1 y0 y1 y2
    go_wp2_with (go_at_call 13; refine (HAW.out _).mono ?_; rintro e X6 ⟨rfl, hb6⟩; have HB6 := hid hb6; clear hb6)
    go_ret
    exact ⟨rfl, below_both HB3.out (below_both HB4.out (below_both (al1 _ _) (below_both HB5.out HB6.out)))⟩
  obtain ⟨hst, hca⟩ : st.length ≤ 400 ∧ ca.length ≤ 400 := by
    unfold fewD at hf1
    rw [Bool.and_eq_true] at hf1
    exact ⟨of_decide_eq_true hf1.1, of_decide_eq_true hf1.2⟩
  have hdl4 : dl.length ≤ 400 := by
    have h := (fewO_tot hf2).2
    simpa [tot] using h
  clear hf1 hf2
  obtain ⟨r, hr⟩ : ∃ r, wrS st ca a dl = r := ⟨_, rfl⟩
  have HRL : Hid (r.2.2.2.length ≤ 1000000) := hid (by rw [← hr]; have := wrS_len st ca a dl; omega)
  have HWR := hid (fun X (hX : Below W3.heap.size W3 X) => (by
    obtain ⟨q1, q2, q3⟩ := HDK.out X hX
    have h := write_any st ca _ _ a _ dl X q1 HSN.out q2 q3 HDN.out hra (by omega)
    rw [hr] at h
    exact h : Calls Try.prog 14 #[.agg #[.slice A st.length c, .slice B ca.length d], .int .i64 a, .slice D dl.length dc] X (WrQ X r)))
  have HWF := hid (fun X (hX : Below W3.heap.size W3 X) => (by
    obtain ⟨q1, q2, q3⟩ := HDK.out X hX
    have h := refWrite_any st ca _ _ a _ dl X q1 HSN.out q2 q3 hra (by omega)
    rw [hr] at h
    exact h : Calls Try.prog 15 #[.agg #[.slice A st.length c, .slice B ca.length d], .int .i64 a, .slice D dl.length dc] X (WrQ X r)))
  have HRD := hid (fun X (hX : Below W3.heap.size W3 X) => read_any st ca _ _ s m X (HDK.out X hX).1 HSN.out (HDK.out X hX).2.1 hrs hrm)
  have HRF := hid (fun X (hX : Below W3.heap.size W3 X) => refRead_any st ca _ _ s m X (HDK.out X hX).1 HSN.out (HDK.out X hX).2.1 hrs hrm)
  clear hr
  obtain ⟨n, hn⟩ : ∃ n, st.length = n := ⟨_, rfl⟩
  obtain ⟨N, hN⟩ : ∃ n, ca.length = n := ⟨_, rfl⟩
  obtain ⟨q, hq⟩ : ∃ n, dl.length = n := ⟨_, rfl⟩
  obtain ⟨rl, hrl⟩ : ∃ l, readL st ca s m = l := ⟨_, rfl⟩
  obtain ⟨rd, hrd⟩ : ∃ l, readE st.length ca s m = l := ⟨_, rfl⟩
  have HRO := hid (fun (w w' : World) (e : Ending) (h : ReadQ w st ca s m e w') => (by
    have h := readQ_open h
    rw [hrl, hrd] at h
    exact h : ∃ A c, e = .returned (.tuple #[.slice A rl.length c, .int .i64 rd]) ∧ Sec w' (.slice A rl.length c) rl ∧ Below w.heap.size w w'))
  rw [hn, hN] at x0 x1
  rw [hn, hN, hq] at HBX HWR HWF
  rw [hn, hN] at HRD HRF HF
  rw [hq] at HOPS
  rw [hn, hN, hq]
  obtain ⟨l7, hl7⟩ : ∃ l, rl.length = l := ⟨_, rfl⟩
  rw [hl7] at HRO
  clear hn hN hq hrl hrd hl7 hst hca hdl4
  obtain ⟨rn, re, rs, rc⟩ := r
  dsimp only at HRL
  obtain ⟨rsl, hrsl⟩ : ∃ l, rs.length = l := ⟨_, rfl⟩
  obtain ⟨rcl, hrcl⟩ : ∃ l, rc.length = l := ⟨_, rfl⟩
  have HWO := hid (fun (w w' : World) (e : Ending) (h : WrQ w (rn, re, rs, rc) e w') => (by
    have h := wrQ_open h
    dsimp only at h
    rw [hrsl, hrcl] at h
    exact h : ∃ A c B d, e = .returned (.tuple #[.agg #[.slice A rsl c, .slice B rcl d], .int .i64 re]) ∧ Dk w' (.agg #[.slice A rsl c, .slice B rcl d]) rs rc ∧ Below w.heap.size w w'))
  clear hrsl hrcl
  go_upto_region 3 with (first
    | (go_at_call 11; refine HF.out.mono ?_; rintro e X4 ⟨rfl, hb4⟩; have HB4 := hid hb4; clear hb4; obtain ⟨_, hy4, _⟩ := HBX.out X4 HB4.out; have y0 := cell_of_row _ _ 0 _ _ _ hy4; have y1 := cell_of_row _ _ 1 _ _ _ hy4; have y2 := cell_of_row _ _ 2 _ _ _ hy4; clear hy4)
    | (go_at_call 12; refine (HOPS.out X4 HB4.out).mono ?_; rintro e X5 ⟨rfl, hb5⟩; have HB5 : Hid (Below W3.heap.size W3 X5) := hid (below_both HB4.out (below_both (al1 _ _) hb5)); clear hb5))
  clear x0 x1 y0 y1 y2
  obtain ⟨hx5, hy5, _⟩ := HBX.out X5 HB5.out
  have x0 := cell_of_row _ _ 0 _ _ _ hx5
  have x1 := cell_of_row _ _ 1 _ _ _ hx5
  have y1 := cell_of_row _ _ 1 _ _ _ hy5
  have y2 := cell_of_row _ _ 2 _ _ _ hy5
  clear hx5 hy5
  go_upto_region 4 with (go_at_call 14; refine (HWR.out X5 HB5.out).mono ?_; intro e X6 hQ; obtain ⟨A6, c6, B6, d6, rfl, hk6, hb6⟩ := HWO.out _ _ _ hQ; have HK6 := hid hk6; have HB6 := hid hb6; clear hQ hk6 hb6)
  obtain ⟨W7, hW7⟩ : ∃ X, X6.alloc (.cells #[.slice A6 rsl c6, .slice B6 rcl d6] 25) = X := ⟨_, rfl⟩
  obtain ⟨p7, hp7⟩ : ∃ p, X6.heap.size = p := ⟨_, rfl⟩
  have hb7 : Below X6.heap.size X6 W7 := by rw [← hW7]; exact al1 _ _
  have hx7 : W7.heap[p7]? = some (.cells #[.slice A6 rsl c6, .slice B6 rcl d6] 25) := by rw [← hW7, ← hp7]; exact heap_alloc_new _ _
  rw [hW7, hp7]
  have HB7 : Hid (Below W3.heap.size W3 W7) := hid (below_both HB5.out (below_both HB6.out hb7))
  have HP7 := hid (fun X (hX : Below W7.heap.size W7 X) => (show X.heap[p7]? = some (.cells #[.slice A6 rsl c6, .slice B6 rcl d6] 25) ∧ Dk X (.agg #[.slice A6 rsl c6, .slice B6 rcl d6]) rs rc from ⟨(hX.block _ (box_lt hx7)).trans hx7, (HK6.out.below hb7).below hX⟩))
  clear hW7 hp7 hb7 hx7 x0 x1 y1 y2
  obtain ⟨hx5, hy5, _⟩ := HBX.out W7 HB7.out
  have x0 := cell_of_row _ _ 0 _ _ _ hx5
  have x1 := cell_of_row _ _ 1 _ _ _ hx5
  have y1 := cell_of_row _ _ 1 _ _ _ hy5
  have y2 := cell_of_row _ _ 2 _ _ _ hy5
  clear hx5 hy5
  go_upto_region 5 with (go_at_call 15; refine (HWF.out W7 HB7.out).mono ?_; intro e X8 hQ; obtain ⟨A8, c8, B8, d8, rfl, hk8, hb8⟩ := HWO.out _ _ _ hQ; have HK8 := hid hk8; have HB8 := hid hb8; clear hQ hk8 hb8)
  obtain ⟨W9, hW9⟩ : ∃ X, X8.alloc (.cells #[.slice A8 rsl c8, .slice B8 rcl d8] 25) = X := ⟨_, rfl⟩
  obtain ⟨p9, hp9⟩ : ∃ p, X8.heap.size = p := ⟨_, rfl⟩
  have hb9 : Below X8.heap.size X8 W9 := by rw [← hW9]; exact al1 _ _
  have hx9 : W9.heap[p9]? = some (.cells #[.slice A8 rsl c8, .slice B8 rcl d8] 25) := by rw [← hW9, ← hp9]; exact heap_alloc_new _ _
  rw [hW9, hp9]
  have HB79 : Hid (Below W7.heap.size W7 W9) := hid (below_both HB8.out hb9)
  have HB9 : Hid (Below W3.heap.size W3 W9) := hid (below_both HB7.out HB79.out)
  have HP9 := hid (fun X (hX : Below W9.heap.size W9 X) => (show X.heap[p9]? = some (.cells #[.slice A8 rsl c8, .slice B8 rcl d8] 25) ∧ Dk X (.agg #[.slice A8 rsl c8, .slice B8 rcl d8]) rs rc from ⟨(hX.block _ (box_lt hx9)).trans hx9, (HK8.out.below hb9).below hX⟩))
  clear hW9 hp9 hb9 hx9 x0 x1 y1 y2
  obtain ⟨hx5, _, hz5⟩ := HBX.out W9 HB9.out
  have x0 := cell_of_row _ _ 0 _ _ _ hx5
  have x1 := cell_of_row _ _ 1 _ _ _ hx5
  have z0 := cell_of_row _ _ 0 _ _ _ hz5
  have z1 := cell_of_row _ _ 1 _ _ _ hz5
  clear hx5 hz5
  go_upto_region 6 with (go_at_call 16; refine (HRD.out W9 HB9.out).mono ?_; intro e X10 hQ; obtain ⟨A10, c10, rfl, hs10, hb10⟩ := HRO.out _ _ _ hQ; have HS10 := hid hs10; have HB10 := hid hb10; clear hQ hs10 hb10)
  have HB310 : Hid (Below W3.heap.size W3 X10) := hid (below_both HB9.out HB10.out)
  clear x0 x1 z0 z1
  obtain ⟨hx5, _, hz5⟩ := HBX.out X10 HB310.out
  have x0 := cell_of_row _ _ 0 _ _ _ hx5
  have x1 := cell_of_row _ _ 1 _ _ _ hx5
  have z0 := cell_of_row _ _ 0 _ _ _ hz5
  have z1 := cell_of_row _ _ 1 _ _ _ hz5
  clear hx5 hz5
  go_upto_region 7 with (go_at_call 17; refine (HRF.out X10 HB310.out).mono ?_; intro e X11 hQ; obtain ⟨A11, c11, rfl, hs11, hb11⟩ := HRO.out _ _ _ hQ; have HS11 := hid hs11; have HB11 := hid hb11; clear hQ hs11 hb11)
  have HB911 : Hid (Below W9.heap.size W9 X11) := hid (below_both HB10.out HB11.out)
  clear x0 x1 z0 z1
  obtain ⟨hx7, hk7⟩ := HP7.out X11 (below_both HB79.out HB911.out)
  obtain ⟨hx9, hk9⟩ := HP9.out X11 HB911.out
  have x0 := cell_of_row _ _ 0 _ _ _ hx7
  have x1 := cell_of_row _ _ 1 _ _ _ hx7
  have y0 := cell_of_row _ _ 0 _ _ _ hx9
  have y1 := cell_of_row _ _ 1 _ _ _ hx9
  have HSM := hid (same_eq rs rc _ _ X11 hk7 hk9 HRL.out)
  have HEQ := hid (fun X (hX : Below X11.heap.size X11 X) => aw_same ((HS10.out.below HB11.out).below hX) (HS11.out.below hX))
  have dre : (re == re) = true := by simp
  have drd : (rd == rd) = true := by simp
  clear hx7 hk7 hx9 hk9
  go_wp2_with (first
    | (go_at_call 18; refine HSM.out.mono ?_; rintro e X12 ⟨rfl, hb12⟩; have HB12 := hid hb12; clear hb12)
    | (go_at_call 19; refine (HEQ.out X12 HB12.out).mono ?_; rintro e X13 ⟨rfl, hb13⟩; have HB13 := hid hb13; clear hb13)
    | (go_at_call 13; refine (HAW.out _).mono ?_; rintro e X14 ⟨rfl, hb14⟩; have HB14 := hid hb14; clear hb14))
  go_ret
  exact ⟨rfl, below_both HB3.out (below_both HB9.out (below_both HB911.out (below_both HB12.out (below_both HB13.out HB14.out))))⟩
end Go.Proofs.Ytoefbgkeinhibaa
