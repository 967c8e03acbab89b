/- The reference's Receive. -/
import Derived.Test.YtkdladacmjkdoaaR
import Derived.Test.YtkdladacmjkdoaaN
namespace Go.Proofs.Ytkdladacmjkdoaa
open Go.RowKit Go.Lib
theorem old_al {w : World} {g : Nat} {o : Obj} (h : w.heap[g]? = some o) (x : Obj) : (w.alloc x).heap[g]? = some o := (Below.heap_alloc _ _ _ (box_lt h)).trans h
theorem new_three (w : World) (x y z : Obj) : (((w.alloc x).alloc y).alloc z).heap[w.heap.size + 2]? = some z := by
  have h := new_two (w.alloc x) y z
  rwa [World.size_alloc] at h
theorem mcell {w : World} {g : Nat} {k mf mt mn u me : Int} {a b : Value} (h : w.heap[g]? = some (.cells #[.int .i64 k, .int .i64 mf, .int .i64 mt, .int .i64 mn, .int .i64 u, .int .i64 me, a, b] 47)) :
    w.cell? ⟨g, 0, none⟩ = some (.int .i64 k) ∧ w.cell? ⟨g, 1, none⟩ = some (.int .i64 mf) ∧ w.cell? ⟨g, 2, none⟩ = some (.int .i64 mt) ∧ w.cell? ⟨g, 3, none⟩ = some (.int .i64 mn) ∧ w.cell? ⟨g, 4, none⟩ = some (.int .i64 u) ∧ w.cell? ⟨g, 5, none⟩ = some (.int .i64 me) :=
  ⟨cell_of_row _ _ 0 _ _ _ h, cell_of_row _ _ 1 _ _ _ h, cell_of_row _ _ 2 _ _ _ h, cell_of_row _ _ 3 _ _ _ h, cell_of_row _ _ 4 _ _ _ h, cell_of_row _ _ 5 _ _ _ h⟩
set_option maxHeartbeats 16000000 in
set_option maxRecDepth 100000 in
theorem rreceive_bad (s : Ses) (now : Int) (m : Mes) (u : Int) (VA : Option Addr) (vn vc : Nat) (BA : Option Addr) (bn bc : Nat) (w : World)
    (hbad : ¬(chk s = 0 ∧ (m.k = 5 ∨ m.k = 6 ∨ m.k = 7) ∧ m.f = s.r ∧ m.t = s.l ∧ timeB m.e = true ∧ timeB m.n = true)) :
    Calls Try.prog 25 #[sv s, .int .i64 now, mv m u VA vn vc BA bn bc] w (RecQ (recR s m) w) := by
  obtain ⟨g, hg⟩ : ∃ g, w.heap.size = g := ⟨_, rfl⟩
  obtain ⟨k, mf, mt, mn, me⟩ := m
  obtain ⟨W2, hW2⟩ : ∃ X, ((w.alloc (.cells (cS s) 23)).alloc (.cells #[.int .i64 k, .int .i64 mf, .int .i64 mt, .int .i64 mn, .int .i64 u, .int .i64 me, .slice VA vn vc, .slice BA bn bc] 47)).alloc (.cells (cS z6) 23) = X := ⟨_, rfl⟩
  have HB2 : Hid (Below g w W2) := hid (by rw [← hW2, ← hg]; exact below_both (below_both (al1 w _) (al1 _ _)) (al1 _ _))
  have H3 : Hid (W2.heap[g]? = some (.cells (cS s) 23)) := hid (by rw [← hW2, ← hg]; exact old_al (old_al (heap_alloc_new w _) _) _)
  have H4 : Hid (W2.heap[g + 1]? = some (.cells #[.int .i64 k, .int .i64 mf, .int .i64 mt, .int .i64 mn, .int .i64 u, .int .i64 me, .slice VA vn vc, .slice BA bn bc] 47)) := hid (by rw [← hW2, ← hg]; exact old_al (new_two w _ _) _)
  have H6 : Hid (W2.heap[g + 2]? = some (.cells (cS z6) 23)) := hid (by rw [← hW2, ← hg]; exact new_three w _ _ _)
  obtain ⟨c, hc⟩ : ∃ c, chk s = c := ⟨_, rfl⟩
  have HCK := hid (rcheck_any s W2)
  have HOK : Hid (c = 0 → chk s = 0) := hid (fun h => hc.trans h)
  obtain ⟨R, hR⟩ : ∃ R, recR s ⟨k, mf, mt, mn, me⟩ = R := ⟨_, rfl⟩
  rw [hR]
  rw [show recR s ⟨k, mf, mt, mn, me⟩ = (s, []) by unfold recR; rw [if_neg hbad]] at hR
  rw [hc] at HCK hbad
  have HC := hid hc
  obtain ⟨y0, y1, y2, y3, y4, y5⟩ := load6 H3.out
  have HW2 := hid hW2
  have HG := hid hg
  clear hW2 hg hc
  obtain ⟨l, r, se, sn, sp, sd⟩ := s
  unfold sv mv
  simp only at y0 y1 y2 y3 y4 y5 hR hbad ⊢
  simp only [cS, z6] at HW2
  simp only [sv] at HCK
  by_cases c0 : c = 0
  rotate_left
  · have dc0 : (c != 0) = true := by simp [c0]
    clear hbad
    have HR := hid hR
    clear hR
    go_enter Try.func25, Try.ntmps25
    go_upto_region 1 with fail
    rw [HG.out, HW2.out]
    go_wp2_with (first | (go_at_call 14; (with_reducible refine HCK.out.mono ?_); rintro e' w3 ⟨rfl, hb⟩; have HB3 := hid (HB2.out.trans (hb.mono (Nat.le_of_lt (box_lt H3.out)))); have h3' := (hb.block _ (box_lt H3.out)).trans H3.out; have h4' := (hb.block _ (box_lt H4.out)).trans H4.out; have h6' := (hb.block _ (box_lt H6.out)).trans H6.out; have H3' := hid h3'; have H4' := hid h4'; have H6' := hid h6'; obtain ⟨u0, u1, u2, u3, u4, u5⟩ := load6 h3'; obtain ⟨m0, m1, m2, m3, m4, m5⟩ := mcell h4'; obtain ⟨v0, v1, v2, v3, v4, v5⟩ := load6 h6'; simp only at u0 u1 u2 u3 u4 u5; simp only [z6] at v0 v1 v2 v3 v4 v5; have f3 := box_fr h3'; have f6 := box_fr h6'; clear hb h3' h4' h6'))
    refine bodyPost_ret (results_s1 rfl _ _ (g + 2) 23 ⟨l, r, se, sn, sp, sd⟩ rfl (set6h ⟨l, r, se, sn, sp, sd⟩ H6'.out) _ rfl) rfl ?_
    rw [← HR.out]
    exact ⟨_, rfl, msgQ_nil _ _, by rw [HG.out]; exact set6b ⟨l, r, se, sn, sp, sd⟩ HB3.out (by omega)⟩
  by_cases a1 : mf = r
  rotate_left
  · have da1 : (mf != r) = true := by simp [a1]
    clear hbad
    have HR := hid hR
    clear hR
    go_enter Try.func25, Try.ntmps25
    go_upto_region 1 with fail
    rw [HG.out, HW2.out]
    go_wp2_with (first | (go_at_call 14; (with_reducible refine HCK.out.mono ?_); rintro e' w3 ⟨rfl, hb⟩; have HB3 := hid (HB2.out.trans (hb.mono (Nat.le_of_lt (box_lt H3.out)))); have h3' := (hb.block _ (box_lt H3.out)).trans H3.out; have h4' := (hb.block _ (box_lt H4.out)).trans H4.out; have h6' := (hb.block _ (box_lt H6.out)).trans H6.out; have H3' := hid h3'; have H4' := hid h4'; have H6' := hid h6'; obtain ⟨u0, u1, u2, u3, u4, u5⟩ := load6 h3'; obtain ⟨m0, m1, m2, m3, m4, m5⟩ := mcell h4'; obtain ⟨v0, v1, v2, v3, v4, v5⟩ := load6 h6'; simp only at u0 u1 u2 u3 u4 u5; simp only [z6] at v0 v1 v2 v3 v4 v5; have f3 := box_fr h3'; have f6 := box_fr h6'; clear hb h3' h4' h6'))
    refine bodyPost_ret (results_s1 rfl _ _ (g + 2) 23 ⟨l, r, se, sn, sp, sd⟩ rfl (set6h ⟨l, r, se, sn, sp, sd⟩ H6'.out) _ rfl) rfl ?_
    rw [← HR.out]
    exact ⟨_, rfl, msgQ_nil _ _, by rw [HG.out]; exact set6b ⟨l, r, se, sn, sp, sd⟩ HB3.out (by omega)⟩
  subst a1
  by_cases a2 : mt = l
  rotate_left
  · have da2 : (mt != l) = true := by simp [a2]
    clear hbad
    have HR := hid hR
    clear hR
    go_enter Try.func25, Try.ntmps25
    go_upto_region 1 with fail
    rw [HG.out, HW2.out]
    go_wp2_with (first | (go_at_call 14; (with_reducible refine HCK.out.mono ?_); rintro e' w3 ⟨rfl, hb⟩; have HB3 := hid (HB2.out.trans (hb.mono (Nat.le_of_lt (box_lt H3.out)))); have h3' := (hb.block _ (box_lt H3.out)).trans H3.out; have h4' := (hb.block _ (box_lt H4.out)).trans H4.out; have h6' := (hb.block _ (box_lt H6.out)).trans H6.out; have H3' := hid h3'; have H4' := hid h4'; have H6' := hid h6'; obtain ⟨u0, u1, u2, u3, u4, u5⟩ := load6 h3'; obtain ⟨m0, m1, m2, m3, m4, m5⟩ := mcell h4'; obtain ⟨v0, v1, v2, v3, v4, v5⟩ := load6 h6'; simp only at u0 u1 u2 u3 u4 u5; simp only [z6] at v0 v1 v2 v3 v4 v5; have f3 := box_fr h3'; have f6 := box_fr h6'; clear hb h3' h4' h6'))
    refine bodyPost_ret (results_s1 rfl _ _ (g + 2) 23 ⟨l, mf, se, sn, sp, sd⟩ rfl (set6h ⟨l, mf, se, sn, sp, sd⟩ H6'.out) _ rfl) rfl ?_
    rw [← HR.out]
    exact ⟨_, rfl, msgQ_nil _ _, by rw [HG.out]; exact set6b ⟨l, mf, se, sn, sp, sd⟩ HB3.out (by omega)⟩
  subst a2
  by_cases b1 : me < 0
  · have db1 : decide (me < 0) = true := decide_eq_true b1
    clear hbad
    have HR := hid hR
    clear hR
    go_enter Try.func25, Try.ntmps25
    go_upto_region 1 with fail
    rw [HG.out, HW2.out]
    go_wp2_with (first | (go_at_call 14; (with_reducible refine HCK.out.mono ?_); rintro e' w3 ⟨rfl, hb⟩; have HB3 := hid (HB2.out.trans (hb.mono (Nat.le_of_lt (box_lt H3.out)))); have h3' := (hb.block _ (box_lt H3.out)).trans H3.out; have h4' := (hb.block _ (box_lt H4.out)).trans H4.out; have h6' := (hb.block _ (box_lt H6.out)).trans H6.out; have H3' := hid h3'; have H4' := hid h4'; have H6' := hid h6'; obtain ⟨u0, u1, u2, u3, u4, u5⟩ := load6 h3'; obtain ⟨m0, m1, m2, m3, m4, m5⟩ := mcell h4'; obtain ⟨v0, v1, v2, v3, v4, v5⟩ := load6 h6'; simp only at u0 u1 u2 u3 u4 u5; simp only [z6] at v0 v1 v2 v3 v4 v5; have f3 := box_fr h3'; have f6 := box_fr h6'; clear hb h3' h4' h6'))
    refine bodyPost_ret (results_s1 rfl _ _ (g + 2) 23 ⟨mt, mf, se, sn, sp, sd⟩ rfl (set6h ⟨mt, mf, se, sn, sp, sd⟩ H6'.out) _ rfl) rfl ?_
    rw [← HR.out]
    exact ⟨_, rfl, msgQ_nil _ _, by rw [HG.out]; exact set6b ⟨mt, mf, se, sn, sp, sd⟩ HB3.out (by omega)⟩
  have db1 : decide (me < 0) = false := decide_eq_false b1
  by_cases b2 : 1073741824 < me
  · have db2 : decide (1073741824 < me) = true := decide_eq_true b2
    clear hbad
    have HR := hid hR
    clear hR
    go_enter Try.func25, Try.ntmps25
    go_upto_region 1 with fail
    rw [HG.out, HW2.out]
    go_wp2_with (first | (go_at_call 14; (with_reducible refine HCK.out.mono ?_); rintro e' w3 ⟨rfl, hb⟩; have HB3 := hid (HB2.out.trans (hb.mono (Nat.le_of_lt (box_lt H3.out)))); have h3' := (hb.block _ (box_lt H3.out)).trans H3.out; have h4' := (hb.block _ (box_lt H4.out)).trans H4.out; have h6' := (hb.block _ (box_lt H6.out)).trans H6.out; have H3' := hid h3'; have H4' := hid h4'; have H6' := hid h6'; obtain ⟨u0, u1, u2, u3, u4, u5⟩ := load6 h3'; obtain ⟨m0, m1, m2, m3, m4, m5⟩ := mcell h4'; obtain ⟨v0, v1, v2, v3, v4, v5⟩ := load6 h6'; simp only at u0 u1 u2 u3 u4 u5; simp only [z6] at v0 v1 v2 v3 v4 v5; have f3 := box_fr h3'; have f6 := box_fr h6'; clear hb h3' h4' h6'))
    refine bodyPost_ret (results_s1 rfl _ _ (g + 2) 23 ⟨mt, mf, se, sn, sp, sd⟩ rfl (set6h ⟨mt, mf, se, sn, sp, sd⟩ H6'.out) _ rfl) rfl ?_
    rw [← HR.out]
    exact ⟨_, rfl, msgQ_nil _ _, by rw [HG.out]; exact set6b ⟨mt, mf, se, sn, sp, sd⟩ HB3.out (by omega)⟩
  have db2 : decide (1073741824 < me) = false := decide_eq_false b2
  by_cases b3 : mn < 0
  · have db3 : decide (mn < 0) = true := decide_eq_true b3
    clear hbad
    have HR := hid hR
    clear hR
    go_enter Try.func25, Try.ntmps25
    go_upto_region 1 with fail
    rw [HG.out, HW2.out]
    go_wp2_with (first | (go_at_call 14; (with_reducible refine HCK.out.mono ?_); rintro e' w3 ⟨rfl, hb⟩; have HB3 := hid (HB2.out.trans (hb.mono (Nat.le_of_lt (box_lt H3.out)))); have h3' := (hb.block _ (box_lt H3.out)).trans H3.out; have h4' := (hb.block _ (box_lt H4.out)).trans H4.out; have h6' := (hb.block _ (box_lt H6.out)).trans H6.out; have H3' := hid h3'; have H4' := hid h4'; have H6' := hid h6'; obtain ⟨u0, u1, u2, u3, u4, u5⟩ := load6 h3'; obtain ⟨m0, m1, m2, m3, m4, m5⟩ := mcell h4'; obtain ⟨v0, v1, v2, v3, v4, v5⟩ := load6 h6'; simp only at u0 u1 u2 u3 u4 u5; simp only [z6] at v0 v1 v2 v3 v4 v5; have f3 := box_fr h3'; have f6 := box_fr h6'; clear hb h3' h4' h6'))
    refine bodyPost_ret (results_s1 rfl _ _ (g + 2) 23 ⟨mt, mf, se, sn, sp, sd⟩ rfl (set6h ⟨mt, mf, se, sn, sp, sd⟩ H6'.out) _ rfl) rfl ?_
    rw [← HR.out]
    exact ⟨_, rfl, msgQ_nil _ _, by rw [HG.out]; exact set6b ⟨mt, mf, se, sn, sp, sd⟩ HB3.out (by omega)⟩
  have db3 : decide (mn < 0) = false := decide_eq_false b3
  by_cases b4 : 1073741824 < mn
  · have db4 : decide (1073741824 < mn) = true := decide_eq_true b4
    clear hbad
    have HR := hid hR
    clear hR
    go_enter Try.func25, Try.ntmps25
    go_upto_region 1 with fail
    rw [HG.out, HW2.out]
    go_wp2_with (first | (go_at_call 14; (with_reducible refine HCK.out.mono ?_); rintro e' w3 ⟨rfl, hb⟩; have HB3 := hid (HB2.out.trans (hb.mono (Nat.le_of_lt (box_lt H3.out)))); have h3' := (hb.block _ (box_lt H3.out)).trans H3.out; have h4' := (hb.block _ (box_lt H4.out)).trans H4.out; have h6' := (hb.block _ (box_lt H6.out)).trans H6.out; have H3' := hid h3'; have H4' := hid h4'; have H6' := hid h6'; obtain ⟨u0, u1, u2, u3, u4, u5⟩ := load6 h3'; obtain ⟨m0, m1, m2, m3, m4, m5⟩ := mcell h4'; obtain ⟨v0, v1, v2, v3, v4, v5⟩ := load6 h6'; simp only at u0 u1 u2 u3 u4 u5; simp only [z6] at v0 v1 v2 v3 v4 v5; have f3 := box_fr h3'; have f6 := box_fr h6'; clear hb h3' h4' h6'))
    refine bodyPost_ret (results_s1 rfl _ _ (g + 2) 23 ⟨mt, mf, se, sn, sp, sd⟩ rfl (set6h ⟨mt, mf, se, sn, sp, sd⟩ H6'.out) _ rfl) rfl ?_
    rw [← HR.out]
    exact ⟨_, rfl, msgQ_nil _ _, by rw [HG.out]; exact set6b ⟨mt, mf, se, sn, sp, sd⟩ HB3.out (by omega)⟩
  have db4 : decide (1073741824 < mn) = false := decide_eq_false b4
  have hte : timeB me = true := by unfold timeB; simp only [Bool.and_eq_true, decide_eq_true_eq]; omega
  have htn : timeB mn = true := by unfold timeB; simp only [Bool.and_eq_true, decide_eq_true_eq]; omega
  have hk : ¬(k = 5 ∨ k = 6 ∨ k = 7) := fun h => hbad ⟨c0, h, rfl, rfl, hte, htn⟩
  have e5 : (k != 5) = true := by simp; omega
  have e6 : (k != 6) = true := by simp; omega
  have e7 : (k != 7) = true := by simp; omega
  clear hbad hte htn hk
  subst c0
  have HR := hid hR
  clear hR
  go_enter Try.func25, Try.ntmps25
  go_upto_region 1 with fail
  rw [HG.out, HW2.out]
  go_wp2_with (first | (go_at_call 14; (with_reducible refine HCK.out.mono ?_); rintro e' w3 ⟨rfl, hb⟩; have HB3 := hid (HB2.out.trans (hb.mono (Nat.le_of_lt (box_lt H3.out)))); have h3' := (hb.block _ (box_lt H3.out)).trans H3.out; have h4' := (hb.block _ (box_lt H4.out)).trans H4.out; have h6' := (hb.block _ (box_lt H6.out)).trans H6.out; have H3' := hid h3'; have H4' := hid h4'; have H6' := hid h6'; obtain ⟨u0, u1, u2, u3, u4, u5⟩ := load6 h3'; obtain ⟨m0, m1, m2, m3, m4, m5⟩ := mcell h4'; obtain ⟨v0, v1, v2, v3, v4, v5⟩ := load6 h6'; simp only at u0 u1 u2 u3 u4 u5; simp only [z6] at v0 v1 v2 v3 v4 v5; have f3 := box_fr h3'; have f6 := box_fr h6'; clear hb h3' h4' h6'))
  refine bodyPost_ret (results_s1 rfl _ _ (g + 2) 23 ⟨mt, mf, se, sn, sp, sd⟩ rfl (set6h ⟨mt, mf, se, sn, sp, sd⟩ H6'.out) _ rfl) rfl ?_
  rw [← HR.out]
  exact ⟨_, rfl, msgQ_nil _ _, by rw [HG.out]; exact set6b ⟨mt, mf, se, sn, sp, sd⟩ HB3.out (by omega)⟩
end Go.Proofs.Ytkdladacmjkdoaa
