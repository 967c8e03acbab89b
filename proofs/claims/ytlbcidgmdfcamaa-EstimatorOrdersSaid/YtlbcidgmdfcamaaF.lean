/- Sample of both sides. -/
import Derived.Test.YtlbcidgmdfcamaaE
namespace Go.Proofs.Ytlbcidgmdfcamaa
open Go.RowKit Go.Lib
theorem keep_set1 {w : World} {g : Nat} {o : Obj} (h : w.heap[g + 1]? = some o) (i : Nat) (x : Value) : (w.setCell ⟨g, i, none⟩ x).heap[g + 1]? = some o := (Below.heap_setCell _ _ _ _ (Nat.succ_ne_self g)).trans h
theorem ret_ev {a b : Est} {x y : Int} (h : a = b) (h' : x = y) : Ending.returned (.tuple #[ev a, .int .i64 x]) = .returned (.tuple #[ev b, .int .i64 y]) := by rw [h, h']
def SmpQ (r : Est × Int) (w : World) (f : Ending) (w' : World) : Prop := f = .returned (.tuple #[ev r.1, .int .i64 r.2]) ∧ Below w.heap.size w w'
set_option maxHeartbeats 4000000 in
set_option maxRecDepth 100000 in
theorem sample_any (e : Est) (t : Int) (w : World) : Calls Try.prog 10 #[ev e, .int .i64 t] w (SmpQ (smp e t) w) := by
  obtain ⟨g, hg⟩ : ∃ g, w.heap.size = g := ⟨_, rfl⟩
  obtain ⟨W1, hW1⟩ : ∃ X, (w.alloc (.cells (cE e) 23)).alloc (.cells (cE z4) 23) = X := ⟨_, rfl⟩
  have k1 : W1.heap[g]? = some (.cells (cE e) 23) := by rw [← hW1, ← hg]; exact old_alloc (heap_alloc_new w _) _
  have k2 : W1.heap[g + 1]? = some (.cells (cE z4) 23) := by rw [← hW1, ← hg]; exact new_two w _ _
  have B1 : Hid (Below g w W1) := hid (by rw [← hW1, ← hg]; exact below_both (al1 w _) (al1 _ _))
  obtain ⟨x0, x1, x2, x3⟩ := load4 k1
  obtain ⟨y0, y1, y2, y3⟩ := load4 k2
  obtain ⟨c, hc⟩ : ∃ c, chk e = c := ⟨_, rfl⟩
  have HCK := hid (check_any e W1)
  have HOK : Hid (c = 0 → chk e = 0) := hid (fun h => hc.trans h)
  rw [hc] at HCK
  have HC := hid hc
  have K1 := hid k1
  have K2 := hid k2
  have HG := hid hg
  have HW1 := hid hW1
  clear k1 hg hW1 hc k2
  obtain ⟨n, s, v, b⟩ := e
  simp only [cE, ev, z4] at HW1 HCK x0 x1 x2 x3 y0 y1 y2 y3 ⊢
  by_cases c0 : c = 0
  rotate_left
  · have d0 : (c != 0) = true := by simp [c0]
    have HR : Hid (smp ⟨n, s, v, b⟩ t = (z4, c)) := hid (by
      have h3 := chk_or ⟨n, s, v, b⟩
      rw [HC.out] at h3
      unfold smp; rw [HC.out, if_neg c0, h3.resolve_left c0])
    go_enter Try.func10, Try.ntmps10
    go_upto_region 1 with fail
    rw [HW1.out, HG.out]
    go_wp2_with (go_at_call 13; (with_reducible refine HCK.out.mono ?_); rintro _ w3 ⟨rfl, hb⟩; have HB3 := hid (B1.out.trans (hb.mono (Nat.le_of_lt (box_lt K1.out)))); have h3 := (hb.block _ (box_lt K1.out)).trans K1.out; have h4 := (hb.block _ (box_lt K2.out)).trans K2.out; have K3 := hid h3; have K4 := hid h4; obtain ⟨u0, u1, u2, u3⟩ := load4 h3; obtain ⟨t0, t1, t2, t3⟩ := load4 h4; have f3 := box_fr h3; have f4 := box_fr h4; clear hb h3 h4)
    refine bodyPost_ret (results_e1 rfl _ _ (g + 1) 23 z4 rfl (set4h z4 K4.out) _ rfl) rfl ?_
    rw [HR.out]
    exact ⟨rfl, by rw [HG.out]; exact set4b z4 HB3.out (Nat.le_succ _)⟩
  have ok0 := HOK.out c0
  have ok := chk_ok ok0
  have HT1 := hid (fun (X : World) => within1 1073741824 t X.heap.size (X.alloc (.cells #[.int .i64 t] 3)) (heap_alloc_new X _))
  cases ht : inB 1073741824 t
  · have HR : Hid (smp ⟨n, s, v, b⟩ t = (z4, 24)) := hid (by unfold smp; rw [if_pos ok0, if_neg (by rw [ht]; decide)])
    clear ok0 ok HOK HC
    subst c0
    go_enter Try.func10, Try.ntmps10
    go_upto_region 1 with fail
    rw [HW1.out, HG.out]
    go_wp2_with (first | (go_at_call 13; (with_reducible refine HCK.out.mono ?_); rintro _ w3 ⟨rfl, hb⟩; have HB3 := hid (B1.out.trans (hb.mono (Nat.le_of_lt (box_lt K1.out)))); have h3 := (hb.block _ (box_lt K1.out)).trans K1.out; have h4 := (hb.block _ (box_lt K2.out)).trans K2.out; have K3 := hid h3; have K4 := hid h4; obtain ⟨u0, u1, u2, u3⟩ := load4 h3; obtain ⟨t0, t1, t2, t3⟩ := load4 h4; have f3 := box_fr h3; have f4 := box_fr h4; clear hb h3 h4) | (go_at_call 23; (with_reducible refine (HT1.out _).mono ?_); rintro _ w' ⟨rfl, hh⟩; subst w'; rw [ht]; have h5 := old_alloc K3.out (.cells #[.int .i64 t] 3); have h6 := old_alloc K4.out (.cells #[.int .i64 t] 3); have HB5 := hid (HB3.out.alloc (Nat.le_of_lt (box_lt K3.out)) (.cells #[.int .i64 t] 3)); have K5 := hid h6; have K6 := hid h5; obtain ⟨p0, p1, p2, p3⟩ := load4 h5; obtain ⟨q0, q1, q2, q3⟩ := load4 h6; have f5 := box_fr h5; have f6 := box_fr h6; clear h5 h6))
    refine bodyPost_ret (results_e1 rfl _ _ (g + 1) 23 z4 rfl (set4h z4 K5.out) _ rfl) rfl ?_
    rw [HR.out]
    exact ⟨rfl, by rw [HG.out]; exact set4b z4 HB5.out (Nat.le_succ _)⟩
  have t0 := inB_true ht
  have hn0 : 0 ≤ n ∧ n ≤ 1073741824 := ok.1
  have hs0 : 0 ≤ s ∧ s ≤ 8589934592 := ok.2.1
  have hv0 : 0 ≤ v ∧ v ≤ 8589934592 := ok.2.2.1
  have HR : Hid (smp ⟨n, s, v, b⟩ t = (nxt ⟨n, s, v, b⟩ t, 0)) := hid (by unfold smp; rw [if_pos ok0, if_pos ht])
  obtain ⟨m, hm⟩ : ∃ m, min (n + 1) 1073741824 = m := ⟨_, rfl⟩
  have hwn : wrap64 (n + 1) = n + 1 := w64 (by omega) (by omega)
  by_cases n0 : n = 0
  · have HN : Hid (nxt ⟨n, s, v, b⟩ t = ⟨m, 8 * t, 2 * t, 0⟩) := hid (by unfold nxt; rw [if_pos (show (⟨n, s, v, b⟩ : Est).n = 0 from n0), ← hm])
    have hw1 : wrap64 (8 * t) = 8 * t := w64 (by omega) (by omega)
    have hw2 : wrap64 (4 * t) = 4 * t := w64 (by omega) (by omega)
    have hw3 : (4 * t).tdiv 2 = 2 * t := by rw [td (by omega)]; omega
    have hw4 : wrap64 (2 * t) = 2 * t := w64 (by omega) (by omega)
    have dn : (n == 0) = true := by simp [n0]
    clear ok0 ok HOK HC hs0 hv0 t0 hn0 n0
    subst c0
    go_enter Try.func10, Try.ntmps10
    go_upto_region 1 with fail
    rw [HW1.out, HG.out]
    go_wp2_with (first | (go_at_call 13; (with_reducible refine HCK.out.mono ?_); rintro _ w3 ⟨rfl, hb⟩; have HB3 := hid (B1.out.trans (hb.mono (Nat.le_of_lt (box_lt K1.out)))); have h3 := (hb.block _ (box_lt K1.out)).trans K1.out; have h4 := (hb.block _ (box_lt K2.out)).trans K2.out; have K3 := hid h3; have K4 := hid h4; obtain ⟨u0, u1, u2, u3⟩ := load4 h3; obtain ⟨t0, t1, t2, t3⟩ := load4 h4; have f3 := box_fr h3; have f4 := box_fr h4; clear hb h3 h4) | (go_at_call 23; (with_reducible refine (HT1.out _).mono ?_); rintro _ w' ⟨rfl, hh⟩; subst w'; rw [ht]; have h5 := old_alloc K3.out (.cells #[.int .i64 t] 3); have h6 := old_alloc K4.out (.cells #[.int .i64 t] 3); have HB5 := hid (HB3.out.alloc (Nat.le_of_lt (box_lt K3.out)) (.cells #[.int .i64 t] 3)); have K5 := hid h6; have K6 := hid h5; obtain ⟨p0, p1, p2, p3⟩ := load4 h5; obtain ⟨q0, q1, q2, q3⟩ := load4 h6; have f5 := box_fr h5; have f6 := box_fr h6; clear h5 h6))
    refine bodyPost_ret (results_e1 rfl _ _ (g + 1) 23 ⟨m, 8 * t, 2 * t, 0⟩ rfl (set4h ⟨m, 8 * t, 2 * t, 0⟩ (keep_set1 (keep_set1 (keep_set1 (keep_set1 K5.out 1 _) 2 _) 0 _) 3 _)) _ rfl) rfl ?_
    rw [HR.out, HN.out]
    exact ⟨rfl, by rw [HG.out]; exact set4b ⟨m, 8 * t, 2 * t, 0⟩ ((((HB5.out.setCell (Nat.le_refl _) _).setCell (Nat.le_refl _) _).setCell (Nat.le_refl _) _).setCell (Nat.le_refl _) _) (Nat.le_succ _)⟩
  · have dn : (n == 0) = false := by simp [n0]
    have HMQ : Hid (mean ⟨n, s, v, b⟩ = s / 8) := hid (by unfold mean; rw [if_pos ok0])
    have HN0 : Hid (nxt ⟨n, s, v, b⟩ t = ⟨m, s + (t - s / 8), v + (max (t - s / 8) (-(t - s / 8)) - v / 4), 0⟩) := hid (by unfold nxt; rw [if_neg (show ¬ (⟨n, s, v, b⟩ : Est).n = 0 from n0), ← hm])
    have hr0 : v.tdiv 4 = v / 4 := td hv0.1
    have hq1 : 0 ≤ s / 8 ∧ s / 8 ≤ 1073741824 := by omega
    have hr1 : 0 ≤ v / 4 ∧ v / 4 ≤ 2147483648 := by omega
    obtain ⟨q, hq⟩ : ∃ q, s / 8 = q := ⟨_, rfl⟩
    obtain ⟨r, hr⟩ : ∃ r, v / 4 = r := ⟨_, rfl⟩
    rw [hq] at HMQ HN0 hq1
    rw [hr] at HN0 hr0 hr1
    obtain ⟨d, hd⟩ : ∃ d, t - q = d := ⟨_, rfl⟩
    have hd1 : -1073741824 ≤ d ∧ d ≤ 1073741824 := by omega
    have hM1 := max_neg d hd1.1 hd1.2
    rw [hd] at HN0
    obtain ⟨M, hM⟩ : ∃ M, max d (-d) = M := ⟨_, rfl⟩
    rw [hM] at HN0 hM1
    have hwd : wrap64 d = d := w64 (by omega) (by omega)
    have hws : wrap64 (s + d) = s + d := w64 (by omega) (by omega)
    have hwm : wrap64 (-d) = -d := w64 (by omega) (by omega)
    have hwr : wrap64 r = r := w64 (by omega) (by omega)
    have hwM : wrap64 (M - r) = M - r := w64 (by omega) (by omega)
    have hwv : wrap64 (v + (M - r)) = v + (M - r) := w64 (by omega) (by omega)
    have HMN := hid (fun W => mean_any ⟨n, s, v, b⟩ W)
    simp only [HMQ.out, ev] at HMN
    clear ok0 ok HOK HC hs0 hv0 t0 hn0 n0 hq1 hr1 hd1 hM1 hq hr HMQ
    subst c0
    go_enter Try.func10, Try.ntmps10
    go_upto_region 1 with fail
    rw [HW1.out, HG.out]
    go_wp2_with (first | (go_at_call 13; (with_reducible refine HCK.out.mono ?_); rintro _ w3 ⟨rfl, hb⟩; have HB3 := hid (B1.out.trans (hb.mono (Nat.le_of_lt (box_lt K1.out)))); have h3 := (hb.block _ (box_lt K1.out)).trans K1.out; have h4 := (hb.block _ (box_lt K2.out)).trans K2.out; have K3 := hid h3; have K4 := hid h4; obtain ⟨u0, u1, u2, u3⟩ := load4 h3; obtain ⟨t0, t1, t2, t3⟩ := load4 h4; have f3 := box_fr h3; have f4 := box_fr h4; clear hb h3 h4) | (go_at_call 23; (with_reducible refine (HT1.out _).mono ?_); rintro _ w' ⟨rfl, hh⟩; subst w'; rw [ht]; have h5 := old_alloc K3.out (.cells #[.int .i64 t] 3); have h6 := old_alloc K4.out (.cells #[.int .i64 t] 3); have HB5 := hid (HB3.out.alloc (Nat.le_of_lt (box_lt K3.out)) (.cells #[.int .i64 t] 3)); have K5 := hid h6; have K6 := hid h5; obtain ⟨p0, p1, p2, p3⟩ := load4 h5; obtain ⟨q0, q1, q2, q3⟩ := load4 h6; have f5 := box_fr h5; have f6 := box_fr h6; clear h5 h6) | (go_at_call 19; (with_reducible refine (HMN.out _).mono ?_); rintro _ w7 ⟨rfl, hb⟩; have h7 := (hb.block _ (box_lt K6.out)).trans K6.out; have h8 := (hb.block _ (box_lt K5.out)).trans K5.out; have HB7 := hid (HB5.out.trans (hb.mono (Nat.le_of_lt (box_lt K6.out)))); have K7 := hid h8; obtain ⟨r0, r1, r2, r3⟩ := load4 h7; obtain ⟨s0, s1, s2, s3⟩ := load4 h8; have f7 := box_fr h7; have f8 := box_fr h8; clear hb h7 h8))
    refine bodyPost_ret (results_e1 rfl _ _ (g + 1) 23 ⟨m, s + d, v + (M - r), 0⟩ rfl (set4h ⟨m, s + d, v + (M - r), 0⟩ (keep_set1 (keep_set1 (keep_set1 (keep_set1 K7.out 1 _) 2 _) 0 _) 3 _)) _ rfl) rfl ?_
    rw [HR.out, HN0.out]
    exact ⟨rfl, by rw [HG.out]; exact set4b ⟨m, s + d, v + (M - r), 0⟩ ((((HB7.out.setCell (Nat.le_refl _) _).setCell (Nat.le_refl _) _).setCell (Nat.le_refl _) _).setCell (Nat.le_refl _) _) (Nat.le_succ _)⟩
end Go.Proofs.Ytlbcidgmdfcamaa
