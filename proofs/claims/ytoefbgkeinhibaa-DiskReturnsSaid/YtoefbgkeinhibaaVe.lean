/- The walk of DiskReturns. -/
import Derived.Test.YtoefbgkeinhibaaXK
import Derived.Test.YtoefbgkeinhibaaWa
import Derived.Test.YtoefbgkeinhibaaVa
import Derived.OpenShut
namespace Go.Proofs.Ytoefbgkeinhibaa
open Go.RowKit Go.Lib

theorem dk_form {w : World} {v : Value} {st : List Sect} {ca : List Ca} (h : Dk w v st ca) : ∃ A c B d, v = .agg #[.slice A st.length c, .slice B ca.length d] := by
  obtain ⟨sv, cv, rfl, h1, h2, h3⟩ := h
  obtain ⟨A, c, rfl⟩ := sec_form h1
  obtain ⟨B, d, rfl⟩ := cas_form h3
  exact ⟨A, c, B, d, rfl⟩
theorem u8n {x : Int} (h : (Lit.int .u8 x).wf = true) : ∃ y : Nat, x = (y : Int) ∧ y < 256 := by
  have hb := Go.bounds_u8 h
  obtain ⟨y, rfl⟩ := Int.eq_ofNat_of_zero_le hb.1
  exact ⟨y, rfl, by omega⟩
theorem rightS_tot (st : List Sect) (ca : List Ca) (ops : List OpT) : (rightS st ca ops).2.length ≤ ca.length + tot ops := by
  induction ops generalizing st ca with
  | nil => exact Nat.le_add_right _ _
  | cons x r ih =>
    have ht : tot (x :: r) = x.l.length + tot r := rfl
    rw [rightS, ht]
    split
    · have h1 := ih (runS st ca [x]).2.2.1 (runS st ca [x]).2.2.2
      have h2 := (runS_len st ca [x]).2
      have h3 : tot [x] = x.l.length := by simp [tot]
      omega
    · have h1 := ih st ca
      omega
set_option maxHeartbeats 8000000 in
set_option maxRecDepth 100000 in
theorem returns_any (bz : Int) (ov : Value) (ops : List OpT) (dv : Value) (k a : Int) (dl : List Sect) (w : World) (hbz : (Lit.int .u8 bz).wf = true) (ho : OpsA w ov ops) (hbig : BigO ops) (hdl : Sec w dv dl) (hdn : NilOk dv) (hrk : R64 k) (hra : R64 a) (hbd : dl.length ≤ 17592186044416) :
    Calls Try.prog 7 #[.int .u8 bz, ov, .agg #[.int .i64 k, .int .i64 a, dv]] w (TrueQ w) := by
  obtain ⟨z, rfl, hz⟩ := u8n hbz
  clear hbz
  obtain ⟨O, oc, rfl⟩ := ops_form ho
  obtain ⟨D, dc, rfl⟩ := sec_form hdl
  obtain ⟨g, hg⟩ : ∃ g, w.heap.size = g := ⟨_, rfl⟩
  obtain ⟨W3, hW3⟩ : ∃ X, w.alloc (.cells #[.int .i64 k, .int .i64 a, .slice D dl.length dc] 27) = X := ⟨_, rfl⟩
  have hb3 : Below w.heap.size w W3 := by rw [← hW3]; exact al1 _ _
  have hx : W3.heap[g]? = some (.cells #[.int .i64 k, .int .i64 a, .slice D dl.length dc] 27) := by rw [← hW3, ← hg]; exact heap_alloc_new _ _
  have HB3 := hid hb3
  have HDK := hid (fun X (hX : Below W3.heap.size W3 X) => (show OpsA X (.slice O ops.length oc) ops ∧ Sec X (.slice D dl.length dc) dl from ⟨ho.below (hb3.trans (hX.mono hb3.size)), hdl.below (hb3.trans (hX.mono hb3.size))⟩))
  have HBX := hid (fun X (hX : Below W3.heap.size W3 X) => (hX.block _ (box_lt hx)).trans hx)
  have HDN := hid hdn
  have HAW := hid (fun W => awake_any W)
  have HW3 := hid hW3
  have HG := hid hg
  have HF := hid (fewOps_any ops (.slice O ops.length oc) W3 (HDK.out W3 (Below.refl _ _)).1 hbig)
  have HOPS := hid (fun X (hX : Below W3.heap.size W3 X) => fewOps_any [⟨k, a, .slice D dl.length dc, dl⟩] (.slice (some ⟨X.heap.size, 0, none⟩) 1 1) (X.alloc (.cells #[.int .i64 k, .int .i64 a, .slice D dl.length dc] 27)) (ops_lit (l := [⟨k, a, .slice D dl.length dc, dl⟩]) (fun x hx => by
    rw [List.mem_singleton] at hx
    subst hx
    exact ⟨(HDK.out X hX).2.below (al1 _ _), hdn, hrk, hra⟩) (by simp) (heap_alloc_new _ _)) (fun x hx => by
    rw [List.mem_singleton] at hx
    subst hx
    exact hbd))
  clear ho hdl hdn hb3 hx hW3 hg
  obtain ⟨f1, hf1⟩ : ∃ b, fewO ops = b := ⟨_, rfl⟩
  rw [hf1] at HF
  rcases f1 with _ | _
  · clear hf1
    go_enter Try.func7, Try.ntmps7
    go_upto_region 1 with fail
    rw [HW3.out, HG.out]
    go_upto_region 2 with (go_at_call 12; refine HF.out.mono ?_; rintro e X4 ⟨rfl, hb4⟩; have HB4 := hid hb4; clear hb4)
    go_wp2_with (go_at_call 13; refine (HAW.out _).mono ?_; rintro e X5 ⟨rfl, hb5⟩; have HB5 := hid hb5; clear hb5)
    go_ret
    exact ⟨rfl, below_both HB3.out (below_both HB4.out HB5.out)⟩
  obtain ⟨f2, hf2⟩ : ∃ b, fewO [⟨k, a, .slice D dl.length dc, dl⟩] = b := ⟨_, rfl⟩
  rw [hf2] at HOPS
  go_enter Try.func7, Try.ntmps7
  go_upto_region 1 with fail
  rw [HW3.out, HG.out]
  rcases f2 with _ | _
  · clear hf1 hf2
    go_upto_region 2 with (first
      | (have Z := HB4; go_at_call 12; refine (HOPS.out X4 HB4.out).mono ?_; rintro e X5 ⟨rfl, hb5⟩; have HB5 := hid hb5; clear hb5)
      | (go_at_call 12; refine HF.out.mono ?_; rintro e X4 ⟨rfl, hb4⟩; have HB4 := hid hb4; clear hb4; have hy4 := HBX.out X4 HB4.out; have y0 := cell_of_row _ _ 0 _ _ _ hy4; have y1 := cell_of_row _ _ 1 _ _ _ hy4; have y2 := cell_of_row _ _ 2 _ _ _ hy4; clear hy4))
    clear y0 y1 y2
    go_wp2_with (go_at_call 13; refine (HAW.out _).mono ?_; rintro e X6 ⟨rfl, hb6⟩; have HB6 := hid hb6; clear hb6)
    go_ret
    exact ⟨rfl, below_both HB3.out (below_both HB4.out (below_both (al1 _ _) (below_both HB5.out HB6.out)))⟩
  obtain ⟨hol, htot⟩ := fewO_tot hf1
  have hq4 : dl.length ≤ 400 := by
    have h := (fewO_tot hf2).2
    simpa [tot] using h
  clear hf1 hf2
  obtain ⟨n, hn⟩ : ∃ n, z % 40 = n := ⟨_, rfl⟩
  have hn40 : n < 40 := by omega
  obtain ⟨r, hr⟩ : ∃ r, rightS (List.replicate n zs) [] ops = r := ⟨_, rfl⟩
  obtain ⟨hrn, hrk0⟩ := rightS_new n (by omega) ops
  have hrt := rightS_tot (List.replicate n zs) [] ops
  rw [hr] at hrn hrk0 hrt
  have HRI := hid (fun X (hX : Below W3.heap.size W3 X) => (by
    have h := right_any z ops _ X (HDK.out X hX).1 hz (by omega)
    rw [hn, hr] at h
    exact h : Calls Try.prog 36 #[.int .u8 (z : Int), .slice O ops.length oc] X (SyQ X r)))
  obtain ⟨st, ca⟩ := r
  dsimp only at hrn hrk0 hrt
  rw [List.length_nil, Nat.zero_add] at hrt
  obtain ⟨m, hm⟩ : ∃ m, ca.length = m := ⟨_, rfl⟩
  obtain ⟨q, hq⟩ : ∃ q, dl.length = q := ⟨_, rfl⟩
  obtain ⟨on, hon⟩ : ∃ q, ops.length = q := ⟨_, rfl⟩
  rw [hm] at hrt
  rw [hq] at hq4 HOPS HDK HBX HW3 HDN
  rw [hon] at HF HRI HDK
  rw [hon, hq]
  have HSO := hid (fun (X X' : World) (e : Ending) (h : SyQ X (st, ca) e X') => (by
    obtain ⟨v, rfl, ho, hb⟩ := h
    have ho := ho.dk
    dsimp only at ho
    obtain ⟨A, c, B, d, rfl⟩ := dk_form ho
    rw [hrn, hm] at ho ⊢
    exact ⟨A, c, B, d, rfl, ho, hb⟩ : ∃ A c B d, e = .returned (.agg #[.slice A n c, .slice B m d]) ∧ Dk X' (.agg #[.slice A n c, .slice B m d]) st ca ∧ Below X.heap.size X X'))
  have hre : readE n ca 0 n = 0 := by
    unfold readE
    rw [if_neg (by rw [hrk0]; decide), if_neg (by rw [show insB n 0 n = true from decide_eq_true (by omega)]; decide)]
  have hrl : readL st ca 0 n = newL st ca := by
    unfold readL
    rw [hrn, if_pos hre]
    show ((newL st ca).drop 0).take ((n : Int)).toNat = _
    rw [List.drop_zero, Int.toNat_natCast, List.take_of_length_le (by rw [newL_len, hrn]; exact Nat.le_refl _)]
  have HRO := hid (fun (X X' : World) (e : Ending) (h : ReadQ X st ca 0 n e X') => (by
    have h := readQ_open h
    rw [hrl, hrn, hre, newL_len, hrn] at h
    exact h : ∃ A c, e = .returned (.tuple #[.slice A n c, .int .i64 0]) ∧ Sec X' (.slice A n c) (newL st ca) ∧ Below X.heap.size X X'))
  have HN := hid hrn
  have HK0 := hid hrk0
  have HM := hid hm
  have HQ := hid hq
  clear hr hn hrn hrk0 hre hrl hm hq hon
  go_upto_region 4 with (first
    | (have Z := HB5; go_at_call 36; refine (HRI.out X5 HB5.out).mono ?_; intro e X6 hQ; obtain ⟨A6, c6, B6, d6, rfl, hk6, hb6⟩ := HSO.out _ _ _ hQ; have HK6 := hid hk6; have HB6 := hid hb6; clear hQ hk6 hb6)
    | (have Z := HB4; go_at_call 12; refine (HOPS.out X4 HB4.out).mono ?_; rintro e X5 ⟨rfl, hb5⟩; have HB5 : Hid (Below W3.heap.size W3 X5) := hid (below_both HB4.out (below_both (al1 _ _) hb5)); clear hb5)
    | (go_at_call 12; refine HF.out.mono ?_; rintro e X4 ⟨rfl, hb4⟩; have HB4 := hid hb4; clear hb4; have hy4 := HBX.out X4 HB4.out; have y0 := cell_of_row _ _ 0 _ _ _ hy4; have y1 := cell_of_row _ _ 1 _ _ _ hy4; have y2 := cell_of_row _ _ 2 _ _ _ hy4; clear hy4))
  clear y0 y1 y2
  obtain ⟨W7, hW7⟩ : ∃ X, X6.alloc (.cells #[.slice A6 n c6, .slice B6 m d6] 25) = X := ⟨_, rfl⟩
  obtain ⟨p7, hp7⟩ : ∃ p, X6.heap.size = p := ⟨_, rfl⟩
  have hb7 : Below X6.heap.size X6 W7 := by rw [← hW7]; exact al1 _ _
  have hx7 : W7.heap[p7]? = some (.cells #[.slice A6 n c6, .slice B6 m d6] 25) := by rw [← hW7, ← hp7]; exact heap_alloc_new _ _
  rw [hW7, hp7]
  have HBW7 : Hid (Below W3.heap.size W3 W7) := hid (below_both HB5.out (below_both HB6.out hb7))
  have HP7 := hid (fun X (hX : Below W7.heap.size W7 X) => (show X.heap[p7]? = some (.cells #[.slice A6 n c6, .slice B6 m d6] 25) ∧ Sec X (.slice A6 n c6) st ∧ NilOk (.slice A6 n c6) ∧ Cas X (.slice B6 m d6) ca from ⟨(hX.block _ (box_lt hx7)).trans hx7, dk_parts ((HK6.out.below hb7).below hX)⟩))
  have x0 := cell_of_row _ _ 0 _ _ _ hx7
  have x1 := cell_of_row _ _ 1 _ _ _ hx7
  clear hW7 hp7 hb7 hx7
  have HRD := hid (fun X (hX : Below W7.heap.size W7 X) => read_any st ca _ _ 0 n X (HP7.out X hX).2.1 (HP7.out X hX).2.2.1 (HP7.out X hX).2.2.2 ⟨by omega, by omega⟩ ⟨by omega, by omega⟩)
  have hbld : ∀ (x : Int) W, (Instr.build 29 #[(1, .int .i64 x)]).run Try.prog W = .ok (.agg #[.int .i64 0, .int .i64 x]) W := fun x W => run_build W 29 _ _ (by kernel_rfl)
  go_upto_region 6 with (go_at_call 16; refine (HRD.out W7 (Below.refl _ _)).mono ?_; intro e X8 hQ; obtain ⟨A8, c8, rfl, hs8, hb8⟩ := HRO.out _ _ _ hQ; have HS8 := hid hs8; have HB8 := hid hb8; clear hQ hs8 hb8)
  have HBX8 : Hid (Below W7.heap.size W7 X8) := HB8
  have HB38 : Hid (Below W3.heap.size W3 X8) := hid (below_both HBW7.out HB8.out)
  clear x0 x1
  have hx8 := (HP7.out X8 HBX8.out).1
  have x0 := cell_of_row _ _ 0 _ _ _ hx8
  have x1 := cell_of_row _ _ 1 _ _ _ hx8
  have hy8 := HBX.out X8 HB38.out
  have y1 := cell_of_row _ _ 1 _ _ _ hy8
  have y2 := cell_of_row _ _ 2 _ _ _ hy8
  clear hx8 hy8
  have HWR := hid (by
    obtain ⟨_, q1, q2, q3⟩ := HP7.out X8 HBX8.out
    exact write_any st ca _ _ a (.slice D q dc) dl X8 q1 q2 q3 (HDK.out X8 HB38.out).2 HDN.out hra (by have := HM.out; have := HQ.out; omega))
  have dnn : ((n : Int) != (n : Int)) = false := by simp
  by_cases hfit : insB n a q = true
  rotate_left
  · have HW0 : Hid (wrS st ca a dl = (0, 2, [], [])) := hid (by unfold wrS; rw [HN.out, if_pos HK0.out, HQ.out, if_neg hfit])
    rw [HW0.out] at HWR
    go_upto_region 7 with (go_at_call 14; refine HWR.out.mono ?_; intro e X9 hQ; obtain ⟨A9, c9, B9, d9, rfl, hk9, hb9⟩ := wrQ_open hQ; have HB9 := hid hb9; clear hQ hk9 hb9)
    obtain ⟨Wb, hWb⟩ : ∃ X, X9.alloc (.cells #[.slice A9 0 c9, .slice B9 0 d9] 25) = X := ⟨_, rfl⟩
    have HBb : Hid (Below W3.heap.size W3 Wb) := hid (below_both HB38.out (below_both HB9.out (by rw [← hWb]; exact al1 _ _)))

    rw [hWb]
    clear hWb x0 x1 y1 y2
    have hyb := HBX.out Wb HBb.out
    have y1 := cell_of_row _ _ 1 _ _ _ hyb
    have y2 := cell_of_row _ _ 2 _ _ _ hyb
    clear hyb
    have hno := of_decide_eq_false (by simpa [insB] using hfit : decide (0 ≤ a ∧ (0 : Int) ≤ (q : Int) ∧ (q : Int) ≤ (n : Int) - a) = false)
    by_cases ha0 : 0 ≤ a
    · have e0 : decide (0 ≤ a) = true := decide_eq_true ha0
      by_cases hqn : q ≤ n
      · have e1 : decide ((q : Int) ≤ (n : Int)) = true := decide_eq_true (by omega)
        have e1' : decide (q ≤ n) = true := decide_eq_true hqn
        have hw : IntKind.i64.wrap ((n : Int) - (q : Int)) = (n : Int) - (q : Int) := by rw [IntKind.wrap_i64]; omega
        have e2 : decide (a ≤ (n : Int) - (q : Int)) = false := decide_eq_false (by omega)
        go_wp2_with (go_at_call 13; refine (HAW.out _).mono ?_; rintro e X10 ⟨rfl, hb10⟩; have HB10 := hid hb10; clear hb10)
        go_ret
        exact ⟨rfl, below_both HB3.out (below_both HBb.out HB10.out)⟩
      · have e1 : decide ((q : Int) ≤ (n : Int)) = false := decide_eq_false (by omega)
        have e1' : decide (q ≤ n) = false := decide_eq_false hqn
        go_wp2_with (go_at_call 13; refine (HAW.out _).mono ?_; rintro e X10 ⟨rfl, hb10⟩; have HB10 := hid hb10; clear hb10)
        go_ret
        exact ⟨rfl, below_both HB3.out (below_both HBb.out HB10.out)⟩
    · have e0 : decide (0 ≤ a) = false := decide_eq_false ha0
      go_wp2_with (go_at_call 13; refine (HAW.out _).mono ?_; rintro e X10 ⟨rfl, hb10⟩; have HB10 := hid hb10; clear hb10)
      go_ret
      exact ⟨rfl, below_both HB3.out (below_both HBb.out HB10.out)⟩
  obtain ⟨aN, rfl⟩ : ∃ aN : Nat, a = (aN : Int) := ⟨a.toNat, by have := (of_decide_eq_true hfit).1; omega⟩
  have haq : aN + q ≤ n := by have := (of_decide_eq_true hfit).2.2; omega
  obtain ⟨tc, htc⟩ : ∃ t, ca ++ putL (aN : Int) dl = t := ⟨_, rfl⟩
  have hktc : chkD n tc = 0 := by
    rw [← htc]
    unfold chkD
    rw [if_neg (by omega)]
    exact chkC_app (chkD_C HK0.out).2 (chkC_put (by rw [HQ.out]; exact hfit))
  have htl : tc.length ≤ 500000 := by rw [← htc, List.length_append, putL_len, HM.out, HQ.out]; omega
  have HW0 : Hid (wrS st ca (aN : Int) dl = (1, 0, st, tc)) := hid (by unfold wrS; rw [HN.out, if_pos HK0.out, HQ.out, if_pos hfit, htc])
  rw [HW0.out] at HWR
  obtain ⟨M, hM⟩ : ∃ M, tc.length = M := ⟨_, rfl⟩
  have HWO := hid (fun (X X' : World) (e : Ending) (h : WrQ X (1, 0, st, tc) e X') => (by
    have h := wrQ_open h
    dsimp only at h
    rw [HN.out, hM] at h
    exact h : ∃ A c B d, e = .returned (.tuple #[.agg #[.slice A n c, .slice B M d], .int .i64 0]) ∧ Dk X' (.agg #[.slice A n c, .slice B M d]) st tc ∧ Below X.heap.size X X'))
  have hre : readE n tc 0 n = 0 := by
    unfold readE
    rw [if_neg (by rw [hktc]; decide), if_neg (by rw [show insB n 0 n = true from decide_eq_true (by omega)]; decide)]
  have hrl : readL st tc 0 n = newL st tc := by
    unfold readL
    rw [HN.out, if_pos hre]
    show ((newL st tc).drop 0).take ((n : Int)).toNat = _
    rw [List.drop_zero, Int.toNat_natCast, List.take_of_length_le (by rw [newL_len, HN.out]; exact Nat.le_refl _)]
  have HRT := hid (fun (X X' : World) (e : Ending) (h : ReadQ X st tc 0 n e X') => (by
    have h := readQ_open h
    rw [hrl, HN.out, hre, newL_len, HN.out] at h
    exact h : ∃ A c, e = .returned (.tuple #[.slice A n c, .int .i64 0]) ∧ Sec X' (.slice A n c) (newL st tc) ∧ Below X.heap.size X X'))
  have HNP := hid (fun (i : Nat) => (by
    have h := newL_put st ca aN dl i (by rw [HQ.out, HN.out]; exact haq)
    rw [htc, HQ.out] at h
    exact h : (newL st tc)[i]? = if aN ≤ i ∧ i < aN + q then dl[i - aN]? else (newL st ca)[i]?))
  have HGP := hid (fun (i : Nat) (hi : aN ≤ i ∧ i < aN + q) => (by
    have h := g_put ca aN dl i (by rw [HQ.out]; exact hi)
    rw [htc] at h
    exact h : (G tc (i : Int)).isEmpty = false))
  have HKT := hid hktc
  have HTL := hid htl
  have HFIT := hid hfit
  clear htc hktc htl hM hre hrl hfit
  go_upto_region 7 with (go_at_call 14; refine HWR.out.mono ?_; intro e X9 hQ; obtain ⟨A9, c9, B9, d9, rfl, hk9, hb9⟩ := HWO.out _ _ _ hQ; have HK9 := hid hk9; have HB9 := hid hb9; clear hQ hk9 hb9)
  obtain ⟨W9, hW9⟩ : ∃ X, X9.alloc (.cells #[.slice A9 n c9, .slice B9 M d9] 25) = X := ⟨_, rfl⟩
  obtain ⟨p9, hp9⟩ : ∃ p, X9.heap.size = p := ⟨_, rfl⟩
  have hb9 : Below X9.heap.size X9 W9 := by rw [← hW9]; exact al1 _ _
  have hx9 : W9.heap[p9]? = some (.cells #[.slice A9 n c9, .slice B9 M d9] 25) := by rw [← hW9, ← hp9]; exact heap_alloc_new _ _
  rw [hW9, hp9]
  have HS9 : Hid (Below X8.heap.size X8 W9) := hid (below_both HB9.out hb9)
  have HBW9 : Hid (Below W3.heap.size W3 W9) := hid (below_both HB38.out HS9.out)
  have HP9 := hid (fun X (hX : Below W9.heap.size W9 X) => (show X.heap[p9]? = some (.cells #[.slice A9 n c9, .slice B9 M d9] 25) ∧ Sec X (.slice A9 n c9) st ∧ NilOk (.slice A9 n c9) ∧ Cas X (.slice B9 M d9) tc from ⟨(hX.block _ (box_lt hx9)).trans hx9, dk_parts ((HK9.out.below hb9).below hX)⟩))
  clear x0 x1 y1 y2
  have x0 := cell_of_row _ _ 0 _ _ _ hx9
  have x1 := cell_of_row _ _ 1 _ _ _ hx9
  have hyb := HBX.out W9 HBW9.out
  have y1 := cell_of_row _ _ 1 _ _ _ hyb
  have y2 := cell_of_row _ _ 2 _ _ _ hyb
  clear hW9 hp9 hb9 hx9 hyb
  have e0 : decide (0 ≤ (aN : Int)) = true := decide_eq_true (by omega)
  have e1 : decide ((q : Int) ≤ (n : Int)) = true := decide_eq_true (by omega)
  have e1' : decide (q ≤ n) = true := decide_eq_true (by omega)
  have hw : IntKind.i64.wrap ((n : Int) - (q : Int)) = (n : Int) - (q : Int) := by rw [IntKind.wrap_i64]; omega
  have e2 : decide ((aN : Int) ≤ (n : Int) - (q : Int)) = true := decide_eq_true (by omega)
  have HRE := hid (read_any st tc _ _ 0 n W9 (HP9.out W9 (Below.refl _ _)).2.1 (HP9.out W9 (Below.refl _ _)).2.2.1 (HP9.out W9 (Below.refl _ _)).2.2.2 ⟨by omega, by omega⟩ ⟨by omega, by omega⟩)
  go_upto_region 13 with (go_at_call 16; refine HRE.out.mono ?_; intro e X10 hQ; obtain ⟨A10, c10, rfl, hs10, hb10⟩ := HRT.out _ _ _ hQ; have HS10 := hid hs10; have HB10 := hid hb10; clear hQ hs10 hb10)
  clear x0 x1 y1 y2
  have hx10 := (HP9.out X10 HB10.out).1
  have x0 := cell_of_row _ _ 0 _ _ _ hx10
  have x1 := cell_of_row _ _ 1 _ _ _ hx10
  have HUN := hid (unsynced_any st tc _ _ X10 (HP9.out X10 HB10.out).2.1 (HP9.out X10 HB10.out).2.2.2 HTL.out)
  clear hx10
  go_upto_region 16 with (go_at_call 27; refine HUN.out.mono ?_; rintro e X11 ⟨v11, l11, rfl, hc11, hm11, he11, hb11⟩; obtain ⟨E11, ec11, rfl⟩ := Xt.ext_form he11; have HU := hid (show Xt.Canon 0 l11 ∧ (∀ x, Xt.mem l11 x = setU st.length tc x) ∧ Xt.Ext X11 (.slice E11 l11.length ec11) l11 from ⟨hc11, hm11, he11⟩); have HB11 := hid hb11; clear hc11 hm11 he11 hb11)
  clear x0 x1
  have HB39 : Hid (Below W3.heap.size W3 X11) := hid (below_both HBW9.out (below_both HB10.out HB11.out))
  have HBEF : Hid (Sec X11 (.slice A8 n c8) (newL st ca)) := hid (HS8.out.below (below_both HS9.out (below_both HB10.out HB11.out)))
  have HNOW : Hid (Sec X11 (.slice A10 n c10) (newL st tc)) := hid (HS10.out.below HB11.out)
  have HDAT : Hid (Sec X11 (.slice D q dc) dl) := hid (HDK.out X11 HB39.out).2
  go_upto_region 17 with fail
  go_loopw [108] (fun iv wr => ∃ i : Nat, i ≤ n ∧ iv = .int .i64 (i : Int) ∧ Hid (Below X11.heap.size X11 wr)) (fun i _ => n - (Go.RowKit.intOf i).toNat)
  case atStart => exact ⟨0, Nat.zero_le _, rfl, hid (Below.refl _ _)⟩
  case round =>
    obtain ⟨i, hi, rfl, HB⟩ := hrel
    have hyb := HBX.out wr (below_both HB39.out HB.out)
    have y1 := cell_of_row _ _ 1 _ _ _ hyb
    have y2 := cell_of_row _ _ 2 _ _ _ hyb
    clear hyb
    by_cases hin : i < n
    · have d0 : decide ((i : Int) < (n : Int)) = true := decide_eq_true (by omega)
      have hin' : (i : Int) < (n : Int) := by omega
      have hwi : IntKind.i64.wrap ((i : Int) - (aN : Int)) = (i : Int) - (aN : Int) := by rw [IntKind.wrap_i64]; omega
      obtain ⟨nb, no, rfl, hnb, hnc⟩ := arr_at1 (HNOW.out.below HB.out).2 (by rw [List.length_map, newL_len, HN.out]; omega)
      obtain ⟨s, hs⟩ : ∃ s, (newL st tc)[i]? = some s := ⟨(newL st tc)[i]'(by rw [newL_len, HN.out]; exact hin), List.getElem?_eq_getElem _⟩
      have h8 := HNOW.out.1 s (List.mem_of_getElem? hs)
      have hsc := HNP.out i
      rw [hs] at hsc
      have HNC := hid (fun (j : Nat) (u : Value) (hu : (cSec s)[j]? = some u) => hnc i _ (by rw [List.getElem?_map, hs]; rfl) j u hu)
      by_cases hr : aN ≤ i ∧ i < aN + q
      · rw [if_pos hr] at hsc
        have hjq : i - aN < q := by omega
        have hjq' : (i : Int) - (aN : Int) < (q : Int) := by omega
        have hj0 : 0 ≤ (i : Int) - (aN : Int) := by omega
        have d1 : decide (0 ≤ (i : Int) - (aN : Int)) = true := decide_eq_true hj0
        have d2 : decide ((i : Int) - (aN : Int) < (q : Int)) = true := decide_eq_true hjq'
        obtain ⟨db, do_, rfl, hdb, hdc⟩ := arr_at1 (HDAT.out.below HB.out).2 (by rw [List.length_map, HQ.out]; omega)
        have HDC := hid (fun (t : Nat) (u : Value) (hu : (cSec s)[t]? = some u) => hdc (i - aN) _ (by rw [List.getElem?_map, ← hsc]; rfl) t u hu)
        have HCT := hid (fun X (hX : Below wr.heap.size wr X) => (by
          have h := Xt.contains_any l11 (.slice E11 l11.length ec11) (i : Int) X (HU.out.2.2.below (below_both HB.out hX)) (by have := Xt.len_of_canon HU.out.1; omega)
          rw [HU.out.2.1, show setU st.length tc (i : Int) = true from by unfold setU; rw [HN.out, HKT.out, HGP.out i hr]; rfl] at h
          exact h : Calls Try.prog 37 #[.slice E11 l11.length ec11, .int .i64 (i : Int)] X fun e w' => e = .returned (.bool true) ∧ Below X.heap.size X w'))
        obtain ⟨s0, s1, s2, s3, s4, s5, s6, s7, rfl⟩ := list8 h8.1
        have heq : ∀ W : World, (Op.equalIn 10000 73 (.agg #[.int .u8 (s0 : Int), .int .u8 (s1 : Int), .int .u8 (s2 : Int), .int .u8 (s3 : Int), .int .u8 (s4 : Int), .int .u8 (s5 : Int), .int .u8 (s6 : Int), .int .u8 (s7 : Int)]) (.agg #[.int .u8 (s0 : Int), .int .u8 (s1 : Int), .int .u8 (s2 : Int), .int .u8 (s3 : Int), .int .u8 (s4 : Int), .int .u8 (s5 : Int), .int .u8 (s6 : Int), .int .u8 (s7 : Int)])).run Try.prog W = .ok true W := fun W => by
          have h := eql_sec [s0, s1, s2, s3, s4, s5, s6, s7] [s0, s1, s2, s3, s4, s5, s6, s7] rfl rfl h8.2 h8.2 W
          rw [decide_eq_true rfl] at h
          exact h
        have HK := hid (fun (X : World) (hX : Below wr.heap.size wr X) => (show X.cell? ⟨g, 2, none⟩ = some (.slice (some ⟨db, do_, none⟩) q dc) ∧ X.cell? ⟨nb, no + i * 8, none⟩ = some (.int .u8 (s0 : Int)) ∧ X.cell? ⟨nb, no + i * 8 + 1, none⟩ = some (.int .u8 (s1 : Int)) ∧ X.cell? ⟨nb, no + i * 8 + 2, none⟩ = some (.int .u8 (s2 : Int)) ∧ X.cell? ⟨nb, no + i * 8 + 3, none⟩ = some (.int .u8 (s3 : Int)) ∧ X.cell? ⟨nb, no + i * 8 + 4, none⟩ = some (.int .u8 (s4 : Int)) ∧ X.cell? ⟨nb, no + i * 8 + 5, none⟩ = some (.int .u8 (s5 : Int)) ∧ X.cell? ⟨nb, no + i * 8 + 6, none⟩ = some (.int .u8 (s6 : Int)) ∧ X.cell? ⟨nb, no + i * 8 + 7, none⟩ = some (.int .u8 (s7 : Int)) ∧ X.cell? ⟨db, do_ + (i - aN) * 8, none⟩ = some (.int .u8 (s0 : Int)) ∧ X.cell? ⟨db, do_ + (i - aN) * 8 + 1, none⟩ = some (.int .u8 (s1 : Int)) ∧ X.cell? ⟨db, do_ + (i - aN) * 8 + 2, none⟩ = some (.int .u8 (s2 : Int)) ∧ X.cell? ⟨db, do_ + (i - aN) * 8 + 3, none⟩ = some (.int .u8 (s3 : Int)) ∧ X.cell? ⟨db, do_ + (i - aN) * 8 + 4, none⟩ = some (.int .u8 (s4 : Int)) ∧ X.cell? ⟨db, do_ + (i - aN) * 8 + 5, none⟩ = some (.int .u8 (s5 : Int)) ∧ X.cell? ⟨db, do_ + (i - aN) * 8 + 6, none⟩ = some (.int .u8 (s6 : Int)) ∧ X.cell? ⟨db, do_ + (i - aN) * 8 + 7, none⟩ = some (.int .u8 (s7 : Int)) from (by
          have g1 := HBX.out X (below_both HB39.out (below_both HB.out hX))
          have g2 : ∀ (t : Nat) (u : Value), (cSec [s0, s1, s2, s3, s4, s5, s6, s7])[t]? = some u → X.cell? ⟨nb, no + i * 8 + t, none⟩ = some u := fun t u hu => by
            have h := HNC.out t u hu
            unfold World.cell? at h ⊢
            rw [hX.block nb hnb]
            exact h
          have g3 : ∀ (t : Nat) (u : Value), (cSec [s0, s1, s2, s3, s4, s5, s6, s7])[t]? = some u → X.cell? ⟨db, do_ + (i - aN) * 8 + t, none⟩ = some u := fun t u hu => by
            have h := HDC.out t u hu
            unfold World.cell? at h ⊢
            rw [hX.block db hdb]
            exact h
          exact ⟨cell_of_row _ _ 2 _ _ _ g1, g2 0 _ rfl, g2 1 _ rfl, g2 2 _ rfl, g2 3 _ rfl, g2 4 _ rfl, g2 5 _ rfl, g2 6 _ rfl, g2 7 _ rfl, g3 0 _ rfl, g3 1 _ rfl, g3 2 _ rfl, g3 3 _ rfl, g3 4 _ rfl, g3 5 _ rfl, g3 6 _ rfl, g3 7 _ rfl⟩)))
        clear hs h8 hsc hnc hdc
        go_upto_region 21 with fail
        refine region_tail 15 (fun X => X.cell? ⟨g, 2, none⟩ = some (.slice (some ⟨db, do_, none⟩) q dc) ∧ X.cell? ⟨nb, no + i * 8, none⟩ = some (.int .u8 (s0 : Int)) ∧ X.cell? ⟨nb, no + i * 8 + 1, none⟩ = some (.int .u8 (s1 : Int)) ∧ X.cell? ⟨nb, no + i * 8 + 2, none⟩ = some (.int .u8 (s2 : Int)) ∧ X.cell? ⟨nb, no + i * 8 + 3, none⟩ = some (.int .u8 (s3 : Int)) ∧ X.cell? ⟨nb, no + i * 8 + 4, none⟩ = some (.int .u8 (s4 : Int)) ∧ X.cell? ⟨nb, no + i * 8 + 5, none⟩ = some (.int .u8 (s5 : Int)) ∧ X.cell? ⟨nb, no + i * 8 + 6, none⟩ = some (.int .u8 (s6 : Int)) ∧ X.cell? ⟨nb, no + i * 8 + 7, none⟩ = some (.int .u8 (s7 : Int)) ∧ X.cell? ⟨db, do_ + (i - aN) * 8, none⟩ = some (.int .u8 (s0 : Int)) ∧ X.cell? ⟨db, do_ + (i - aN) * 8 + 1, none⟩ = some (.int .u8 (s1 : Int)) ∧ X.cell? ⟨db, do_ + (i - aN) * 8 + 2, none⟩ = some (.int .u8 (s2 : Int)) ∧ X.cell? ⟨db, do_ + (i - aN) * 8 + 3, none⟩ = some (.int .u8 (s3 : Int)) ∧ X.cell? ⟨db, do_ + (i - aN) * 8 + 4, none⟩ = some (.int .u8 (s4 : Int)) ∧ X.cell? ⟨db, do_ + (i - aN) * 8 + 5, none⟩ = some (.int .u8 (s5 : Int)) ∧ X.cell? ⟨db, do_ + (i - aN) * 8 + 6, none⟩ = some (.int .u8 (s6 : Int)) ∧ X.cell? ⟨db, do_ + (i - aN) * 8 + 7, none⟩ = some (.int .u8 (s7 : Int))) (by kernel_rfl) ?_
        obtain ⟨X0, hX0⟩ : ∃ X, wr.drew = X := ⟨_, rfl⟩
        have hBX0 : Below wr.heap.size wr X0 := by rw [← hX0]; exact (Below.refl wr.heap.size wr).drew
        have hHeld := HK.out X0 hBX0
        rw [hX0]
        clear hX0
        refine' wpAnyT_take (i := 0) (oi := ?oiv0) (v := ?vv0) ?hiv0 (by kernel_rfl) (by kernel_rfl) ?hqv0 ?hyv0 hHeld ?restv0
        case hiv0 => (simp only [List.getElem?_toArray, List.getElem?_cons_zero]; rfl)
        case hqv0 => exact fun _ _ _ h => h
        case hyv0 => (refine Or.inl ⟨by rfl, ?_⟩; intro w' hSw; (try dsimp only at hSw); go_simp; try with_reducible rfl)
        (try simp only [Act.put, List.setIfInBounds_toArray, List.set_cons_zero, List.set_cons_succ])
        refine' wpAnyT_take (i := 1) (oi := ?oiv1) (v := ?vv1) ?hiv1 (by kernel_rfl) (by kernel_rfl) ?hqv1 ?hyv1 hHeld ?restv1
        case hiv1 => (simp only [List.getElem?_toArray, List.getElem?_cons_zero, List.getElem?_cons_succ]; rfl)
        case hqv1 => exact fun _ _ _ h => h
        case hyv1 => (refine Or.inl ⟨by rfl, ?_⟩; intro w' hSw; (try dsimp only at hSw); go_simp; try with_reducible rfl)
        (try simp only [Act.put, List.setIfInBounds_toArray, List.set_cons_zero, List.set_cons_succ])
        refine' wpAnyT_take (i := 2) (oi := ?oiv2) (v := ?vv2) ?hiv2 (by kernel_rfl) (by kernel_rfl) ?hqv2 ?hyv2 hHeld ?restv2
        case hiv2 => (simp only [List.getElem?_toArray, List.getElem?_cons_zero, List.getElem?_cons_succ]; rfl)
        case hqv2 => exact fun _ _ _ h => h
        case hyv2 => (refine Or.inl ⟨by rfl, ?_⟩; intro w' hSw; (try dsimp only at hSw); go_simp; try with_reducible rfl)
        (try simp only [Act.put, List.setIfInBounds_toArray, List.set_cons_zero, List.set_cons_succ])
        refine' wpAnyT_take (i := 3) (oi := ?oiv3) (v := ?vv3) ?hiv3 (by kernel_rfl) (by kernel_rfl) ?hqv3 ?hyv3 hHeld ?restv3
        case hiv3 => (simp only [List.getElem?_toArray, List.getElem?_cons_zero, List.getElem?_cons_succ]; rfl)
        case hqv3 => exact fun _ _ _ h => h
        case hyv3 => (refine Or.inl ⟨by rfl, ?_⟩; intro w' hSw; (try dsimp only at hSw); go_simp; try with_reducible rfl)
        (try simp only [Act.put, List.setIfInBounds_toArray, List.set_cons_zero, List.set_cons_succ])
        refine' wpAnyT_take (i := 4) (oi := ?oiv4) (v := ?vv4) ?hiv4 (by kernel_rfl) (by kernel_rfl) ?hqv4 ?hyv4 hHeld ?restv4
        case hiv4 => (simp only [List.getElem?_toArray, List.getElem?_cons_zero, List.getElem?_cons_succ]; rfl)
        case hqv4 => exact fun _ _ _ h => h
        case hyv4 => (refine Or.inl ⟨by rfl, ?_⟩; intro w' hSw; (try dsimp only at hSw); go_simp; try with_reducible rfl)
        (try simp only [Act.put, List.setIfInBounds_toArray, List.set_cons_zero, List.set_cons_succ])
        refine' wpAnyT_take (i := 5) (oi := ?oiv5) (v := ?vv5) ?hiv5 (by kernel_rfl) (by kernel_rfl) ?hqv5 ?hyv5 hHeld ?restv5
        case hiv5 => (simp only [List.getElem?_toArray, List.getElem?_cons_zero, List.getElem?_cons_succ]; rfl)
        case hqv5 => exact fun _ _ _ h => h
        case hyv5 => (refine Or.inl ⟨by rfl, ?_⟩; intro w' hSw; (try dsimp only at hSw); go_simp; try with_reducible rfl)
        (try simp only [Act.put, List.setIfInBounds_toArray, List.set_cons_zero, List.set_cons_succ])
        refine' wpAnyT_take (i := 6) (oi := ?oiv6) (v := ?vv6) ?hiv6 (by kernel_rfl) (by kernel_rfl) ?hqv6 ?hyv6 hHeld ?restv6
        case hiv6 => (simp only [List.getElem?_toArray, List.getElem?_cons_zero, List.getElem?_cons_succ]; rfl)
        case hqv6 => exact fun _ _ _ h => h
        case hyv6 => (refine Or.inl ⟨by rfl, ?_⟩; intro w' hSw; (try dsimp only at hSw); go_simp; try with_reducible rfl)
        (try simp only [Act.put, List.setIfInBounds_toArray, List.set_cons_zero, List.set_cons_succ])
        refine' wpAnyT_take (i := 7) (oi := ?oiv7) (v := ?vv7) ?hiv7 (by kernel_rfl) (by kernel_rfl) ?hqv7 ?hyv7 hHeld ?restv7
        case hiv7 => (simp only [List.getElem?_toArray, List.getElem?_cons_zero, List.getElem?_cons_succ]; rfl)
        case hqv7 => exact fun _ _ _ h => h
        case hyv7 => (refine Or.inl ⟨by rfl, ?_⟩; intro w' hSw; (try dsimp only at hSw); go_simp; try with_reducible rfl)
        (try simp only [Act.put, List.setIfInBounds_toArray, List.set_cons_zero, List.set_cons_succ])
        refine' wpAnyT_take (i := 8) (oi := ?oiv8) (v := ?vv8) ?hiv8 (by kernel_rfl) (by kernel_rfl) ?hqv8 ?hyv8 hHeld ?restv8
        case hiv8 => (simp only [List.getElem?_toArray, List.getElem?_cons_zero, List.getElem?_cons_succ]; rfl)
        case hqv8 => exact fun _ _ _ h => h
        case hyv8 => (refine Or.inl ⟨by rfl, ?_⟩; intro w' hSw; (try dsimp only at hSw); go_simp; try with_reducible rfl)
        (try simp only [Act.put, List.setIfInBounds_toArray, List.set_cons_zero, List.set_cons_succ])
        refine' wpAnyT_take (i := 9) (oi := ?oiv9) (v := ?vv9) ?hiv9 (by kernel_rfl) (by kernel_rfl) ?hqv9 ?hyv9 hHeld ?restv9
        case hiv9 => (simp only [List.getElem?_toArray, List.getElem?_cons_zero, List.getElem?_cons_succ]; rfl)
        case hqv9 => exact fun _ _ _ h => h
        case hyv9 => (refine Or.inl ⟨by rfl, ?_⟩; intro w' hSw; (try dsimp only at hSw); go_simp; try with_reducible rfl)
        (try simp only [Act.put, List.setIfInBounds_toArray, List.set_cons_zero, List.set_cons_succ])
        refine' wpAnyT_take (i := 10) (oi := ?oiv10) (v := ?vv10) ?hiv10 (by kernel_rfl) (by kernel_rfl) ?hqv10 ?hyv10 hHeld ?restv10
        case hiv10 => (simp only [List.getElem?_toArray, List.getElem?_cons_zero, List.getElem?_cons_succ]; rfl)
        case hqv10 => exact fun _ _ _ h => h
        case hyv10 => (refine Or.inl ⟨by rfl, ?_⟩; intro w' hSw; (try dsimp only at hSw); go_simp; try with_reducible rfl)
        (try simp only [Act.put, List.setIfInBounds_toArray, List.set_cons_zero, List.set_cons_succ])
        refine' wpAnyT_take (i := 11) (oi := ?oiv11) (v := ?vv11) ?hiv11 (by kernel_rfl) (by kernel_rfl) ?hqv11 ?hyv11 hHeld ?restv11
        case hiv11 => (simp only [List.getElem?_toArray, List.getElem?_cons_zero, List.getElem?_cons_succ]; rfl)
        case hqv11 => exact fun _ _ _ h => h
        case hyv11 => (refine Or.inl ⟨by rfl, ?_⟩; intro w' hSw; (try dsimp only at hSw); go_simp; try with_reducible rfl)
        (try simp only [Act.put, List.setIfInBounds_toArray, List.set_cons_zero, List.set_cons_succ])
        refine' wpAnyT_take (i := 12) (oi := ?oiv12) (v := ?vv12) ?hiv12 (by kernel_rfl) (by kernel_rfl) ?hqv12 ?hyv12 hHeld ?restv12
        case hiv12 => (simp only [List.getElem?_toArray, List.getElem?_cons_zero, List.getElem?_cons_succ]; rfl)
        case hqv12 => exact fun _ _ _ h => h
        case hyv12 => (refine Or.inl ⟨by rfl, ?_⟩; intro w' hSw; (try dsimp only at hSw); go_simp; try with_reducible rfl)
        (try simp only [Act.put, List.setIfInBounds_toArray, List.set_cons_zero, List.set_cons_succ])
        refine' wpAnyT_one (i := 13) (o := ?oiv13) (by kernel_rfl) ?hiv13 (fun K hK => ?stv13)
        case hiv13 => (simp only [List.getElem?_toArray, List.getElem?_cons_zero, List.getElem?_cons_succ]; rfl)
        go_simp
        go_at_call 37
        refine (HCT.out X0 hBX0).mono ?_
        rintro e X1 ⟨rfl, hb⟩
        have hBX1 : Below wr.heap.size wr X1 := hBX0.trans (hb.mono hBX0.size)
        clear hHeld hb
        have hHeld := HK.out X1 hBX1
        refine hK.out _ _ (fun _ => hHeld) ?_
        clear hK K
        (try simp only [Act.put, List.setIfInBounds_toArray, List.set_cons_zero, List.set_cons_succ])
        refine' wpAnyT_take (i := 14) (oi := ?oiv14) (v := ?vv14) ?hiv14 (by kernel_rfl) (by kernel_rfl) ?hqv14 ?hyv14 hHeld ?restv14
        case hiv14 => (simp only [List.getElem?_toArray, List.getElem?_cons_zero, List.getElem?_cons_succ]; rfl)
        case hqv14 => exact fun _ _ _ h => h
        case hyv14 => (refine Or.inl ⟨by rfl, ?_⟩; intro w' hSw; (try dsimp only at hSw); go_simp; try with_reducible rfl)
        (try simp only [Act.put, List.setIfInBounds_toArray, List.set_cons_zero, List.set_cons_succ])
        refine' wpAnyT_one (i := 15) (o := ?oiv15) (by kernel_rfl) ?hiv15 (fun K hK => ?stv15)
        case hiv15 => (simp only [List.getElem?_toArray, List.getElem?_cons_zero, List.getElem?_cons_succ]; rfl)
        go_simp
        refine hK.out _ _ (fun h => absurd h (by decide)) ?_
        clear hK K
        (try simp only [Act.put, List.setIfInBounds_toArray, List.set_cons_zero, List.set_cons_succ])
        refine wpAnyT_done (by kernel_rfl) ?_ _
        go_wp2_with fail
        go_roundw
        case rel => exact ⟨i + 1, by omega, by go_num, hid (below_both HB.out hBX1)⟩
        case measure => simp [Go.RowKit.intOf]; omega
      · rw [if_neg hr] at hsc
        obtain ⟨bb, bo, rfl, hbb, hbc⟩ := arr_at1 (HBEF.out.below HB.out).2 (by rw [List.length_map, newL_len, HN.out]; omega)
        have HBC := hid (fun (t : Nat) (u : Value) (hu : (cSec s)[t]? = some u) => hbc i _ (by rw [List.getElem?_map, ← hsc]; rfl) t u hu)
        obtain ⟨s0, s1, s2, s3, s4, s5, s6, s7, rfl⟩ := list8 h8.1
        have heq : ∀ W : World, (Op.equalIn 10000 73 (.agg #[.int .u8 (s0 : Int), .int .u8 (s1 : Int), .int .u8 (s2 : Int), .int .u8 (s3 : Int), .int .u8 (s4 : Int), .int .u8 (s5 : Int), .int .u8 (s6 : Int), .int .u8 (s7 : Int)]) (.agg #[.int .u8 (s0 : Int), .int .u8 (s1 : Int), .int .u8 (s2 : Int), .int .u8 (s3 : Int), .int .u8 (s4 : Int), .int .u8 (s5 : Int), .int .u8 (s6 : Int), .int .u8 (s7 : Int)])).run Try.prog W = .ok true W := fun W => by
          have h := eql_sec [s0, s1, s2, s3, s4, s5, s6, s7] [s0, s1, s2, s3, s4, s5, s6, s7] rfl rfl h8.2 h8.2 W
          rw [decide_eq_true rfl] at h
          exact h
        have k0 : wr.cell? ⟨nb, no + i * 8, none⟩ = some (.int .u8 (s0 : Int)) := HNC.out 0 _ rfl
        have k1 : wr.cell? ⟨nb, no + i * 8 + 1, none⟩ = some (.int .u8 (s1 : Int)) := HNC.out 1 _ rfl
        have k2 : wr.cell? ⟨nb, no + i * 8 + 2, none⟩ = some (.int .u8 (s2 : Int)) := HNC.out 2 _ rfl
        have k3 : wr.cell? ⟨nb, no + i * 8 + 3, none⟩ = some (.int .u8 (s3 : Int)) := HNC.out 3 _ rfl
        have k4 : wr.cell? ⟨nb, no + i * 8 + 4, none⟩ = some (.int .u8 (s4 : Int)) := HNC.out 4 _ rfl
        have k5 : wr.cell? ⟨nb, no + i * 8 + 5, none⟩ = some (.int .u8 (s5 : Int)) := HNC.out 5 _ rfl
        have k6 : wr.cell? ⟨nb, no + i * 8 + 6, none⟩ = some (.int .u8 (s6 : Int)) := HNC.out 6 _ rfl
        have k7 : wr.cell? ⟨nb, no + i * 8 + 7, none⟩ = some (.int .u8 (s7 : Int)) := HNC.out 7 _ rfl
        have m0 : wr.cell? ⟨bb, bo + i * 8, none⟩ = some (.int .u8 (s0 : Int)) := HBC.out 0 _ rfl
        have m1 : wr.cell? ⟨bb, bo + i * 8 + 1, none⟩ = some (.int .u8 (s1 : Int)) := HBC.out 1 _ rfl
        have m2 : wr.cell? ⟨bb, bo + i * 8 + 2, none⟩ = some (.int .u8 (s2 : Int)) := HBC.out 2 _ rfl
        have m3 : wr.cell? ⟨bb, bo + i * 8 + 3, none⟩ = some (.int .u8 (s3 : Int)) := HBC.out 3 _ rfl
        have m4 : wr.cell? ⟨bb, bo + i * 8 + 4, none⟩ = some (.int .u8 (s4 : Int)) := HBC.out 4 _ rfl
        have m5 : wr.cell? ⟨bb, bo + i * 8 + 5, none⟩ = some (.int .u8 (s5 : Int)) := HBC.out 5 _ rfl
        have m6 : wr.cell? ⟨bb, bo + i * 8 + 6, none⟩ = some (.int .u8 (s6 : Int)) := HBC.out 6 _ rfl
        have m7 : wr.cell? ⟨bb, bo + i * 8 + 7, none⟩ = some (.int .u8 (s7 : Int)) := HBC.out 7 _ rfl
        clear hs h8 hsc hnc hbc
        by_cases hlo : aN ≤ i
        · have d1 : decide (0 ≤ (i : Int) - (aN : Int)) = true := decide_eq_true (by omega)
          have d2 : decide ((i : Int) - (aN : Int) < (q : Int)) = false := decide_eq_false (by omega)
          go_wp2_with fail
          go_quiet (fail)
          go_wp2_with fail
          go_roundw
          case rel => exact ⟨i + 1, by omega, by go_num, hid (below_drewN HB.out _)⟩
          case measure => simp [Go.RowKit.intOf]; omega
        · have d1 : decide (0 ≤ (i : Int) - (aN : Int)) = false := decide_eq_false (by omega)
          go_wp2_with fail
          go_quiet (fail)
          go_wp2_with fail
          go_roundw
          case rel => exact ⟨i + 1, by omega, by go_num, hid (below_drewN HB.out _)⟩
          case measure => simp [Go.RowKit.intOf]; omega
    · obtain rfl : n = i := by omega
      have d0 : decide ((n : Int) < (n : Int)) = false := decide_eq_false (by omega)
      go_wp2_with (go_at_call 13; refine (HAW.out _).mono ?_; rintro e X14 ⟨rfl, hb14⟩; have HB14 := hid hb14; clear hb14)
      go_ret
      exact ⟨rfl, below_both HB3.out (below_both HB39.out (below_both HB.out HB14.out))⟩
end Go.Proofs.Ytoefbgkeinhibaa
