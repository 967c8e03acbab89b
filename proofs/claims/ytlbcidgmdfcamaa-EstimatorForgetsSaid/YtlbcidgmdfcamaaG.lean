/- The reference's Sample. -/
import Derived.Test.YtlbcidgmdfcamaaF
namespace Go.Proofs.Ytlbcidgmdfcamaa
open Go.RowKit Go.Lib
theorem keep_setn {w : World} {g h : Nat} {o : Obj} (hk : w.heap[g]? = some o) (hn : g ≠ h) (i : Nat) (x : Value) : (w.setCell ⟨h, i, none⟩ x).heap[g]? = some o := (Below.heap_setCell _ _ _ _ hn).trans hk
set_option maxHeartbeats 4000000 in
set_option maxRecDepth 100000 in
theorem rsample_any (e : Est) (t : Int) (w : World) : Calls Try.prog 11 #[ev e, .int .i64 t] w (SmpQ (smp e t) w) := by
  obtain ⟨g, hg⟩ : ∃ g, w.heap.size = g := ⟨_, rfl⟩
  obtain ⟨W1, hW1⟩ : ∃ X, (w.alloc (.cells (cE e) 23)).alloc (.cells (cE z4) 23) = X := ⟨_, rfl⟩
  have k1 : W1.heap[g]? = some (.cells (cE e) 23) := by rw [← hW1, ← hg]; exact old_alloc (heap_alloc_new w _) _
  have k2 : W1.heap[g + 1]? = some (.cells (cE z4) 23) := by rw [← hW1, ← hg]; exact new_two w _ _
  have B1 : Hid (Below g w W1) := hid (by rw [← hW1, ← hg]; exact below_both (al1 w _) (al1 _ _))
  obtain ⟨x0, x1, x2, x3⟩ := load4 k1
  obtain ⟨y0, y1, y2, y3⟩ := load4 k2
  obtain ⟨c, hc⟩ : ∃ c, chk e = c := ⟨_, rfl⟩
  have HCK := hid (rcheck_any e W1)
  have HOK : Hid (c = 0 → chk e = 0) := hid (fun h => hc.trans h)
  rw [hc] at HCK
  have HC := hid hc
  have K1 := hid k1
  have K2 := hid k2
  have HG := hid hg
  have HW1 := hid hW1
  clear k1 hg hW1 hc k2
  obtain ⟨n, s, v, b⟩ := e
  simp only [cE, ev, z4] at HW1 HCK x0 x1 x2 x3 y0 y1 y2 y3 ⊢
  by_cases c0 : c = 0
  rotate_left
  · have d0 : (c != 0) = true := by simp [c0]
    have HR : Hid (smp ⟨n, s, v, b⟩ t = (z4, c)) := hid (by
      have h3 := chk_or ⟨n, s, v, b⟩
      rw [HC.out] at h3
      unfold smp; rw [HC.out, if_neg c0, h3.resolve_left c0])
    have H3 : Hid (c = 3) := hid (by have h3 := chk_or ⟨n, s, v, b⟩; rw [HC.out] at h3; exact h3.resolve_left c0)
    go_enter Try.func11, Try.ntmps11
    go_upto_region 1 with fail
    rw [HW1.out, HG.out]
    go_wp2_with (go_at_call 14; (with_reducible refine HCK.out.mono ?_); rintro _ w3 ⟨rfl, hb⟩; have HB3 := hid (B1.out.trans (hb.mono (Nat.le_of_lt (box_lt K1.out)))); have h3 := (hb.block _ (box_lt K1.out)).trans K1.out; have h4 := (hb.block _ (box_lt K2.out)).trans K2.out; have K3 := hid h3; have K4 := hid h4; obtain ⟨u0, u1, u2, u3⟩ := load4 h3; obtain ⟨t0, t1, t2, t3⟩ := load4 h4; have f3 := box_fr h3; have f4 := box_fr h4; clear hb h3 h4)
    refine bodyPost_ret (results_e1 rfl _ _ (g + 1) 23 z4 rfl (set4h z4 K4.out) _ rfl) rfl ?_
    rw [HR.out, H3.out]
    exact ⟨rfl, by rw [HG.out]; exact set4b z4 HB3.out (Nat.le_succ _)⟩
  have ok0 := HOK.out c0
  have ok := chk_ok ok0
  by_cases ta : t < 0
  · have da : decide (t < 0) = true := decide_eq_true ta
    have HR : Hid (smp ⟨n, s, v, b⟩ t = (z4, 24)) := hid (by unfold smp; rw [if_pos ok0, if_neg (by rw [inB_not (.inl ta)]; decide)])
    clear ok0 ok HOK HC
    subst c0
    go_enter Try.func11, Try.ntmps11
    go_upto_region 1 with fail
    rw [HW1.out, HG.out]
    go_wp2_with (go_at_call 14; (with_reducible refine HCK.out.mono ?_); rintro _ w3 ⟨rfl, hb⟩; have HB3 := hid (B1.out.trans (hb.mono (Nat.le_of_lt (box_lt K1.out)))); have h3 := (hb.block _ (box_lt K1.out)).trans K1.out; have h4 := (hb.block _ (box_lt K2.out)).trans K2.out; have K3 := hid h3; have K4 := hid h4; obtain ⟨u0, u1, u2, u3⟩ := load4 h3; obtain ⟨t0, t1, t2, t3⟩ := load4 h4; have f3 := box_fr h3; have f4 := box_fr h4; clear hb h3 h4)
    refine bodyPost_ret (results_e1 rfl _ _ (g + 1) 23 z4 rfl (set4h z4 K4.out) _ rfl) rfl ?_
    rw [HR.out]
    exact ⟨rfl, by rw [HG.out]; exact set4b z4 HB3.out (Nat.le_succ _)⟩
  have da : decide (t < 0) = false := decide_eq_false ta
  by_cases tb : 1073741824 < t
  · have db : decide (1073741824 < t) = true := decide_eq_true tb
    have HR : Hid (smp ⟨n, s, v, b⟩ t = (z4, 24)) := hid (by unfold smp; rw [if_pos ok0, if_neg (by rw [inB_not (.inr tb)]; decide)])
    clear ok0 ok HOK HC
    subst c0
    go_enter Try.func11, Try.ntmps11
    go_upto_region 1 with fail
    rw [HW1.out, HG.out]
    go_wp2_with (go_at_call 14; (with_reducible refine HCK.out.mono ?_); rintro _ w3 ⟨rfl, hb⟩; have HB3 := hid (B1.out.trans (hb.mono (Nat.le_of_lt (box_lt K1.out)))); have h3 := (hb.block _ (box_lt K1.out)).trans K1.out; have h4 := (hb.block _ (box_lt K2.out)).trans K2.out; have K3 := hid h3; have K4 := hid h4; obtain ⟨u0, u1, u2, u3⟩ := load4 h3; obtain ⟨t0, t1, t2, t3⟩ := load4 h4; have f3 := box_fr h3; have f4 := box_fr h4; clear hb h3 h4)
    refine bodyPost_ret (results_e1 rfl _ _ (g + 1) 23 z4 rfl (set4h z4 K4.out) _ rfl) rfl ?_
    rw [HR.out]
    exact ⟨rfl, by rw [HG.out]; exact set4b z4 HB3.out (Nat.le_succ _)⟩
  have db : decide (1073741824 < t) = false := decide_eq_false tb
  have ht : inB 1073741824 t = true := inB_of (by omega) (by omega)
  have hn0 : 0 ≤ n ∧ n ≤ 1073741824 := ok.1
  have hs0 : 0 ≤ s ∧ s ≤ 8589934592 := ok.2.1
  have hv0 : 0 ≤ v ∧ v ≤ 8589934592 := ok.2.2.1
  have HR : Hid (smp ⟨n, s, v, b⟩ t = (nxt ⟨n, s, v, b⟩ t, 0)) := hid (by unfold smp; rw [if_pos ok0, if_pos ht])
  obtain ⟨m, hm⟩ : ∃ m, min (n + 1) 1073741824 = m := ⟨_, rfl⟩
  have hwn : wrap64 (n + 1) = n + 1 := w64 (by omega) (by omega)
  have hw1 : wrap64 (8 * t) = 8 * t := w64 (by omega) (by omega)
  have hw4 : wrap64 (2 * t) = 2 * t := w64 (by omega) (by omega)
  by_cases n0 : n = 0
  · have HN : Hid (nxt ⟨n, s, v, b⟩ t = ⟨m, 8 * t, 2 * t, 0⟩) := hid (by unfold nxt; rw [if_pos (show (⟨n, s, v, b⟩ : Est).n = 0 from n0), ← hm])
    have dn : decide (0 < n) = false := decide_eq_false (by omega)
    clear ok0 ok HOK HC hs0 hv0 hn0 n0 ta tb
    subst c0
    go_enter Try.func11, Try.ntmps11
    go_upto_region 1 with fail
    rw [HW1.out, HG.out]
    go_upto_region 6 with (go_at_call 14; (with_reducible refine HCK.out.mono ?_); rintro _ w3 ⟨rfl, hb⟩; have HB3 := hid (B1.out.trans (hb.mono (Nat.le_of_lt (box_lt K1.out)))); have h3 := (hb.block _ (box_lt K1.out)).trans K1.out; have h4 := (hb.block _ (box_lt K2.out)).trans K2.out; have K3 := hid h3; have K4 := hid h4; obtain ⟨u0, u1, u2, u3⟩ := load4 h3; obtain ⟨t0, t1, t2, t3⟩ := load4 h4; have f3 := box_fr h3; have f4 := box_fr h4; clear hb h3 h4)
    obtain ⟨h, hh⟩ : ∃ h, w3.heap.size = h := ⟨_, rfl⟩
    obtain ⟨w5, hw5⟩ : ∃ X, w3.alloc (.cells (cE ⟨m, 8 * t, 2 * t, 0⟩) 23) = X := ⟨_, rfl⟩
    have k5 : w5.heap[h]? = some (.cells (cE ⟨m, 8 * t, 2 * t, 0⟩) 23) := by rw [← hw5, ← hh]; exact heap_alloc_new _ _
    have k6 : w5.heap[g]? = some (.cells (cE ⟨n, s, v, b⟩) 23) := by rw [← hw5]; exact old_alloc K3.out _
    have k7 : w5.heap[g + 1]? = some (.cells (cE z4) 23) := by rw [← hw5]; exact old_alloc K4.out _
    have HB7 : Hid (Below g w w5) := hid (by rw [← hw5]; exact HB3.out.alloc (Nat.le_of_lt (box_lt K3.out)) _)
    have K7 := hid k7
    have HH : Hid (g + 1 < h) := hid (by rw [← hh]; exact box_lt K4.out)
    have p5 := load4 k5
    have p6 := load4 k6
    have p7 := load4 k7
    simp only [z4] at p5 p6 p7
    obtain ⟨p50, p51, p52, p53⟩ := p5
    obtain ⟨p60, p61, p62, p63⟩ := p6
    obtain ⟨p70, p71, p72, p73⟩ := p7
    have f5 := box_fr k5
    have f7 := box_fr k7
    have g1 : h ≠ g := by have := HH.out; omega
    have g2 : h ≠ g + 1 := by have := HH.out; omega
    have g3 := Ne.symm g1
    have g4 := Ne.symm g2
    have HW5 := hid hw5
    have HHH := hid hh
    simp only [cE] at HW5
    clear k5 k6 k7 hh hw5 u0 u1 u2 u3 t0 t1 t2 t3 f3 f4
    rw [HHH.out, HW5.out]
    go_wp2_with fail
    refine bodyPost_ret (results_e1 rfl _ _ (g + 1) 23 ⟨m, 8 * t, 2 * t, 0⟩ rfl (set4h ⟨m, 8 * t, 2 * t, 0⟩ K7.out) _ rfl) rfl ?_
    rw [HR.out, HN.out]
    exact ⟨rfl, by rw [HG.out]; exact set4b ⟨m, 8 * t, 2 * t, 0⟩ HB7.out (Nat.le_succ _)⟩
  · have dn : decide (0 < n) = true := decide_eq_true (by omega)
    have HN0 : Hid (nxt ⟨n, s, v, b⟩ t = ⟨m, s + (t - s / 8), v - v / 4 + max (t - s / 8) (-(t - s / 8)), 0⟩) := hid (by
      unfold nxt; rw [if_neg (show ¬ (⟨n, s, v, b⟩ : Est).n = 0 from n0), ← hm]
      simp only [Est.mk.injEq, true_and, and_true]
      generalize max (t - s / 8) (-(t - s / 8)) = z
      omega)
    have hr0 : v.tdiv 4 = v / 4 := td hv0.1
    have hq0 : s.tdiv 8 = s / 8 := td hs0.1
    have hq1 : 0 ≤ s / 8 ∧ s / 8 ≤ 1073741824 := by omega
    have hr1 : 0 ≤ v / 4 ∧ v / 4 ≤ 2147483648 := by omega
    have hvr : 0 ≤ v - v / 4 := by omega
    obtain ⟨q, hq⟩ : ∃ q, s / 8 = q := ⟨_, rfl⟩
    obtain ⟨r, hr⟩ : ∃ r, v / 4 = r := ⟨_, rfl⟩
    rw [hq] at HN0 hq1 hq0
    rw [hr] at HN0 hr0 hr1 hvr
    obtain ⟨d, hd⟩ : ∃ d, t - q = d := ⟨_, rfl⟩
    have hd1 : -1073741824 ≤ d ∧ d ≤ 1073741824 := by omega
    have hM1 := max_neg d hd1.1 hd1.2
    rw [hd] at HN0
    obtain ⟨M, hM⟩ : ∃ M, max d (-d) = M := ⟨_, rfl⟩
    rw [hM] at HN0 hM1
    have hwq : wrap64 q = q := w64 (by omega) (by omega)
    have hwd : wrap64 d = d := w64 (by omega) (by omega)
    have hws : wrap64 (s + d) = s + d := w64 (by omega) (by omega)
    have hwm : wrap64 (-d) = -d := w64 (by omega) (by omega)
    have hwr : wrap64 r = r := w64 (by omega) (by omega)
    have hwM : wrap64 (v - r) = v - r := w64 (by omega) (by omega)
    have hwv : wrap64 (v - r + M) = v - r + M := w64 (by omega) (by omega)
    clear ok0 ok HOK HC hs0 hv0 hn0 n0 hq1 hr1 hd1 hM1 hq hr ta tb hvr
    subst c0
    go_enter Try.func11, Try.ntmps11
    go_upto_region 1 with fail
    rw [HW1.out, HG.out]
    go_upto_region 6 with (go_at_call 14; (with_reducible refine HCK.out.mono ?_); rintro _ w3 ⟨rfl, hb⟩; have HB3 := hid (B1.out.trans (hb.mono (Nat.le_of_lt (box_lt K1.out)))); have h3 := (hb.block _ (box_lt K1.out)).trans K1.out; have h4 := (hb.block _ (box_lt K2.out)).trans K2.out; have K3 := hid h3; have K4 := hid h4; obtain ⟨u0, u1, u2, u3⟩ := load4 h3; obtain ⟨t0, t1, t2, t3⟩ := load4 h4; have f3 := box_fr h3; have f4 := box_fr h4; clear hb h3 h4)
    obtain ⟨h, hh⟩ : ∃ h, w3.heap.size = h := ⟨_, rfl⟩
    obtain ⟨w5, hw5⟩ : ∃ X, w3.alloc (.cells (cE ⟨m, 8 * t, 2 * t, 0⟩) 23) = X := ⟨_, rfl⟩
    have k5 : w5.heap[h]? = some (.cells (cE ⟨m, 8 * t, 2 * t, 0⟩) 23) := by rw [← hw5, ← hh]; exact heap_alloc_new _ _
    have k6 : w5.heap[g]? = some (.cells (cE ⟨n, s, v, b⟩) 23) := by rw [← hw5]; exact old_alloc K3.out _
    have k7 : w5.heap[g + 1]? = some (.cells (cE z4) 23) := by rw [← hw5]; exact old_alloc K4.out _
    have HB7 : Hid (Below g w w5) := hid (by rw [← hw5]; exact HB3.out.alloc (Nat.le_of_lt (box_lt K3.out)) _)
    have K7 := hid k7
    have HH : Hid (g + 1 < h) := hid (by rw [← hh]; exact box_lt K4.out)
    have p5 := load4 k5
    have p6 := load4 k6
    have p7 := load4 k7
    simp only [z4] at p5 p6 p7
    obtain ⟨p50, p51, p52, p53⟩ := p5
    obtain ⟨p60, p61, p62, p63⟩ := p6
    obtain ⟨p70, p71, p72, p73⟩ := p7
    have f5 := box_fr k5
    have f7 := box_fr k7
    have g1 : h ≠ g := by have := HH.out; omega
    have g2 : h ≠ g + 1 := by have := HH.out; omega
    have g3 := Ne.symm g1
    have g4 := Ne.symm g2
    have HW5 := hid hw5
    have HHH := hid hh
    simp only [cE] at HW5
    clear k5 k6 k7 hh hw5 u0 u1 u2 u3 t0 t1 t2 t3 f3 f4
    rw [HHH.out, HW5.out]
    go_wp2_with fail
    refine bodyPost_ret (results_e1 rfl _ _ (g + 1) 23 ⟨m, s + d, v - r + M, 0⟩ rfl (set4h ⟨m, s + d, v - r + M, 0⟩ (keep_setn (keep_setn K7.out (by have := HH.out; omega) 1 _) (by have := HH.out; omega) 2 _)) _ rfl) rfl ?_
    rw [HR.out, HN0.out]
    exact ⟨rfl, by rw [HG.out]; exact set4b ⟨m, s + d, v - r + M, 0⟩ ((HB7.out.setCell (show g ≤ h by have := HH.out; omega) _).setCell (show g ≤ h by have := HH.out; omega) _) (Nat.le_succ _)⟩
end Go.Proofs.Ytlbcidgmdfcamaa
