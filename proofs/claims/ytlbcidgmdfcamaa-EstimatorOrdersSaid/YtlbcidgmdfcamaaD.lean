/- New, Mean, Expired of both sides. -/
import Derived.Test.YtlbcidgmdfcamaaC
namespace Go.Proofs.Ytlbcidgmdfcamaa
open Go.RowKit Go.Lib
theorem w64 {x : Int} (h : -9223372036854775808 ≤ x) (h' : x ≤ 9223372036854775807) : wrap64 x = x := by unfold wrap64; omega
theorem td {x k : Int} (h : 0 ≤ x) : x.tdiv k = x / k := Int.tdiv_eq_ediv_of_nonneg h
set_option maxHeartbeats 2000000 in
theorem new_any (w : World) : Calls Try.prog 15 #[] w fun f w' => f = .returned (ev z4) ∧ Below w.heap.size w w' := by
  obtain ⟨g, hg⟩ : ∃ g, w.heap.size = g := ⟨_, rfl⟩
  obtain ⟨W1, hW1⟩ : ∃ X, w.alloc (.cells (cE z4) 23) = X := ⟨_, rfl⟩
  have k1 : W1.heap[g]? = some (.cells (cE z4) 23) := by rw [← hW1, ← hg]; exact heap_alloc_new w _
  have B1 : Hid (Below w.heap.size w W1) := hid (by rw [← hW1]; exact al1 w _)
  obtain ⟨x0, x1, x2, x3⟩ := load4 k1
  have f1 := box_fr k1
  have K1 := hid k1
  have HG := hid hg
  have HW1 := hid hW1
  clear k1 hg hW1
  simp only [cE, z4] at HW1 x0 x1 x2 x3
  go_enter Try.func15, Try.ntmps15
  go_upto_region 1 with fail
  rw [HW1.out, HG.out]
  go_wp2_with fail
  refine bodyPost_ret (results_e rfl _ _ g 23 z4 rfl (set4h z4 K1.out)) rfl ?_
  exact ⟨rfl, set4b z4 B1.out (by rw [HG.out]; exact Nat.le_refl _)⟩
set_option maxHeartbeats 2000000 in
theorem rnew_any (w : World) : Calls Try.prog 16 #[] w fun f w' => f = .returned (ev z4) ∧ Below w.heap.size w w' := by
  obtain ⟨g, hg⟩ : ∃ g, w.heap.size = g := ⟨_, rfl⟩
  obtain ⟨W1, hW1⟩ : ∃ X, w.alloc (.cells (cE z4) 23) = X := ⟨_, rfl⟩
  have k1 : W1.heap[g]? = some (.cells (cE z4) 23) := by rw [← hW1, ← hg]; exact heap_alloc_new w _
  have B1 : Hid (Below w.heap.size w W1) := hid (by rw [← hW1]; exact al1 w _)
  obtain ⟨x0, x1, x2, x3⟩ := load4 k1
  have f1 := box_fr k1
  have K1 := hid k1
  have HG := hid hg
  have HW1 := hid hW1
  clear k1 hg hW1
  simp only [cE, z4] at HW1 x0 x1 x2 x3
  go_enter Try.func16, Try.ntmps16
  go_upto_region 1 with fail
  rw [HW1.out, HG.out]
  go_wp2_with fail
  refine bodyPost_ret (results_e rfl _ _ g 23 z4 rfl (set4h z4 K1.out)) rfl ?_
  exact ⟨rfl, set4b z4 B1.out (by rw [HG.out]; exact Nat.le_refl _)⟩
set_option maxHeartbeats 4000000 in
set_option maxRecDepth 100000 in
theorem mean_any (e : Est) (w : World) : Calls Try.prog 19 #[ev e] w fun f w' => f = .returned (.int .i64 (mean e)) ∧ Below w.heap.size w w' := by
  obtain ⟨g, hg⟩ : ∃ g, w.heap.size = g := ⟨_, rfl⟩
  obtain ⟨W1, hW1⟩ : ∃ X, w.alloc (.cells (cE e) 23) = X := ⟨_, rfl⟩
  have k1 : W1.heap[g]? = some (.cells (cE e) 23) := by rw [← hW1, ← hg]; exact heap_alloc_new w _
  have B1 : Hid (Below g w W1) := hid (by rw [← hW1, ← hg]; exact al1 w _)
  obtain ⟨x0, x1, x2, x3⟩ := load4 k1
  obtain ⟨c, hc⟩ : ∃ c, chk e = c := ⟨_, rfl⟩
  have HCK := hid (check_any e W1)
  have HOK : Hid (c = 0 → chk e = 0) := hid (fun h => hc.trans h)
  rw [hc] at HCK
  have HC := hid hc
  have K1 := hid k1
  have HG := hid hg
  have HW1 := hid hW1
  clear k1 hg hW1 hc
  obtain ⟨n, s, v, b⟩ := e
  simp only [cE, ev] at HW1 HCK x0 x1 x2 x3 ⊢
  by_cases c0 : c = 0
  · have ok := chk_ok (HOK.out c0)
    have HR : Hid (wrap64 (s.tdiv 8) = mean ⟨n, s, v, b⟩) := hid (by
      have h1 : 0 ≤ s ∧ s ≤ 8589934592 := ok.2.1
      rw [td h1.1, w64 (by omega) (by omega)]
      unfold mean
      rw [if_pos (HOK.out c0)])
    clear ok HOK HC
    subst c0
    go_enter Try.func19, Try.ntmps19
    go_upto_region 1 with fail
    rw [HW1.out, HG.out]
    go_wp2_with (go_at_call 13; (with_reducible refine HCK.out.mono ?_); rintro _ w3 ⟨rfl, hb⟩; have HB3 := hid (B1.out.trans (hb.mono (Nat.le_of_lt (box_lt K1.out)))); have h3 := (hb.block _ (box_lt K1.out)).trans K1.out; have K3 := hid h3; obtain ⟨u0, u1, u2, u3⟩ := load4 h3; have f3 := box_fr h3; clear hb h3)
    go_ret
    exact ⟨ret_i HR.out, by rw [HG.out]; exact HB3.out⟩
  · have d0 : (c != 0) = true := by simp [c0]
    have HR : Hid (mean ⟨n, s, v, b⟩ = 0) := hid (by unfold mean; rw [HC.out, if_neg c0])
    go_enter Try.func19, Try.ntmps19
    go_upto_region 1 with fail
    rw [HW1.out, HG.out]
    go_wp2_with (go_at_call 13; (with_reducible refine HCK.out.mono ?_); rintro _ w3 ⟨rfl, hb⟩; have HB3 := hid (B1.out.trans (hb.mono (Nat.le_of_lt (box_lt K1.out)))); have h3 := (hb.block _ (box_lt K1.out)).trans K1.out; have K3 := hid h3; obtain ⟨u0, u1, u2, u3⟩ := load4 h3; have f3 := box_fr h3; clear hb h3)
    go_ret
    exact ⟨ret_i HR.out.symm, by rw [HG.out]; exact HB3.out⟩
set_option maxHeartbeats 4000000 in
set_option maxRecDepth 100000 in
theorem rmean_any (e : Est) (w : World) : Calls Try.prog 20 #[ev e] w fun f w' => f = .returned (.int .i64 (mean e)) ∧ Below w.heap.size w w' := by
  obtain ⟨g, hg⟩ : ∃ g, w.heap.size = g := ⟨_, rfl⟩
  obtain ⟨W1, hW1⟩ : ∃ X, w.alloc (.cells (cE e) 23) = X := ⟨_, rfl⟩
  have k1 : W1.heap[g]? = some (.cells (cE e) 23) := by rw [← hW1, ← hg]; exact heap_alloc_new w _
  have B1 : Hid (Below g w W1) := hid (by rw [← hW1, ← hg]; exact al1 w _)
  obtain ⟨x0, x1, x2, x3⟩ := load4 k1
  obtain ⟨c, hc⟩ : ∃ c, chk e = c := ⟨_, rfl⟩
  have HCK := hid (rcheck_any e W1)
  have HOK : Hid (c = 0 → chk e = 0) := hid (fun h => hc.trans h)
  rw [hc] at HCK
  have HC := hid hc
  have K1 := hid k1
  have HG := hid hg
  have HW1 := hid hW1
  clear k1 hg hW1 hc
  obtain ⟨n, s, v, b⟩ := e
  simp only [cE, ev] at HW1 HCK x0 x1 x2 x3 ⊢
  by_cases c0 : c = 0
  · have ok := chk_ok (HOK.out c0)
    have HR : Hid (wrap64 (s.tdiv 8) = mean ⟨n, s, v, b⟩) := hid (by
      have h1 : 0 ≤ s ∧ s ≤ 8589934592 := ok.2.1
      rw [td h1.1, w64 (by omega) (by omega)]
      unfold mean
      rw [if_pos (HOK.out c0)])
    clear ok HOK HC
    subst c0
    go_enter Try.func20, Try.ntmps20
    go_upto_region 1 with fail
    rw [HW1.out, HG.out]
    go_wp2_with (go_at_call 14; (with_reducible refine HCK.out.mono ?_); rintro _ w3 ⟨rfl, hb⟩; have HB3 := hid (B1.out.trans (hb.mono (Nat.le_of_lt (box_lt K1.out)))); have h3 := (hb.block _ (box_lt K1.out)).trans K1.out; have K3 := hid h3; obtain ⟨u0, u1, u2, u3⟩ := load4 h3; have f3 := box_fr h3; clear hb h3)
    go_ret
    exact ⟨ret_i HR.out, by rw [HG.out]; exact HB3.out⟩
  · have d0 : (c != 0) = true := by simp [c0]
    have HR : Hid (mean ⟨n, s, v, b⟩ = 0) := hid (by unfold mean; rw [HC.out, if_neg c0])
    go_enter Try.func20, Try.ntmps20
    go_upto_region 1 with fail
    rw [HW1.out, HG.out]
    go_wp2_with (go_at_call 14; (with_reducible refine HCK.out.mono ?_); rintro _ w3 ⟨rfl, hb⟩; have HB3 := hid (B1.out.trans (hb.mono (Nat.le_of_lt (box_lt K1.out)))); have h3 := (hb.block _ (box_lt K1.out)).trans K1.out; have K3 := hid h3; obtain ⟨u0, u1, u2, u3⟩ := load4 h3; have f3 := box_fr h3; clear hb h3)
    go_ret
    exact ⟨ret_i HR.out.symm, by rw [HG.out]; exact HB3.out⟩
set_option maxHeartbeats 4000000 in
set_option maxRecDepth 100000 in
theorem expired_any (e : Est) (w : World) : Calls Try.prog 21 #[ev e] w fun f w' => f = .returned (ev (exq e)) ∧ Below w.heap.size w w' := by
  obtain ⟨g, hg⟩ : ∃ g, w.heap.size = g := ⟨_, rfl⟩
  obtain ⟨W1, hW1⟩ : ∃ X, (w.alloc (.cells (cE e) 23)).alloc (.cells (cE z4) 23) = X := ⟨_, rfl⟩
  have k1 : W1.heap[g]? = some (.cells (cE e) 23) := by rw [← hW1, ← hg]; exact old_alloc (heap_alloc_new w _) _
  have k2 : W1.heap[g + 1]? = some (.cells (cE z4) 23) := by rw [← hW1, ← hg]; exact new_two w _ _
  have B1 : Hid (Below g w W1) := hid (by rw [← hW1, ← hg]; exact below_both (al1 w _) (al1 _ _))
  obtain ⟨x0, x1, x2, x3⟩ := load4 k1
  obtain ⟨y0, y1, y2, y3⟩ := load4 k2
  obtain ⟨c, hc⟩ : ∃ c, chk e = c := ⟨_, rfl⟩
  have HCK := hid (check_any e W1)
  have HOK : Hid (c = 0 → chk e = 0) := hid (fun h => hc.trans h)
  rw [hc] at HCK
  have HC := hid hc
  have K1 := hid k1
  have K2 := hid k2
  have HG := hid hg
  have HW1 := hid hW1
  clear k1 hg hW1 hc k2
  obtain ⟨n, s, v, b⟩ := e
  simp only [cE, ev, z4] at HW1 HCK x0 x1 x2 x3 y0 y1 y2 y3 ⊢
  by_cases c0 : c = 0
  · have ok := chk_ok (HOK.out c0)
    have h1 : 0 ≤ b ∧ b ≤ 12 := ok.2.2.2.1
    have HE : Hid (exq ⟨n, s, v, b⟩ = ⟨n, s, v, min (b + 1) 12⟩) := hid (by unfold exq; rw [if_pos (HOK.out c0)])
    obtain ⟨m, hm⟩ : ∃ m, min (b + 1) 12 = m := ⟨_, rfl⟩
    rw [hm] at HE
    have q1 : wrap64 (b + 1) = b + 1 := w64 (by omega) (by omega)
    clear ok HOK HC h1
    subst c0
    go_enter Try.func21, Try.ntmps21
    go_upto_region 1 with fail
    rw [HW1.out, HG.out]
    go_wp2_with (go_at_call 13; (with_reducible refine HCK.out.mono ?_); rintro _ w3 ⟨rfl, hb⟩; have HB3 := hid (B1.out.trans (hb.mono (Nat.le_of_lt (box_lt K1.out)))); have h3 := (hb.block _ (box_lt K1.out)).trans K1.out; have h4 := (hb.block _ (box_lt K2.out)).trans K2.out; have K3 := hid h3; have K4 := hid h4; obtain ⟨u0, u1, u2, u3⟩ := load4 h3; obtain ⟨t0, t1, t2, t3⟩ := load4 h4; have f3 := box_fr h3; have f4 := box_fr h4; clear hb h3 h4)
    refine bodyPost_ret (results_e rfl _ _ (g + 1) 23 ⟨n, s, v, m⟩ rfl (set4h ⟨n, s, v, m⟩ ((Below.heap_setCell _ _ _ _ (Nat.succ_ne_self g)).trans K4.out))) rfl ?_
    refine ⟨?_, ?_⟩
    · rw [HE.out]; rfl
    · rw [HG.out]; exact set4b ⟨n, s, v, m⟩ (HB3.out.setCell (Nat.le_refl _) _) (Nat.le_succ _)
  · have d0 : (c == 0) = false := by simp [c0]
    have HR : Hid (exq ⟨n, s, v, b⟩ = ⟨n, s, v, b⟩) := hid (by unfold exq; rw [HC.out, if_neg c0])
    go_enter Try.func21, Try.ntmps21
    go_upto_region 1 with fail
    rw [HW1.out, HG.out]
    go_wp2_with (go_at_call 13; (with_reducible refine HCK.out.mono ?_); rintro _ w3 ⟨rfl, hb⟩; have HB3 := hid (B1.out.trans (hb.mono (Nat.le_of_lt (box_lt K1.out)))); have h3 := (hb.block _ (box_lt K1.out)).trans K1.out; have h4 := (hb.block _ (box_lt K2.out)).trans K2.out; have K3 := hid h3; have K4 := hid h4; obtain ⟨u0, u1, u2, u3⟩ := load4 h3; obtain ⟨t0, t1, t2, t3⟩ := load4 h4; have f3 := box_fr h3; have f4 := box_fr h4; clear hb h3 h4)
    refine bodyPost_ret (results_e rfl _ _ (g + 1) 23 ⟨n, s, v, b⟩ rfl (set4h ⟨n, s, v, b⟩ K4.out)) rfl ?_
    refine ⟨?_, ?_⟩
    · rw [HR.out]; rfl
    · rw [HG.out]; exact set4b ⟨n, s, v, b⟩ HB3.out (Nat.le_succ _)
set_option maxHeartbeats 4000000 in
set_option maxRecDepth 100000 in
theorem rexpired_any (e : Est) (w : World) : Calls Try.prog 22 #[ev e] w fun f w' => f = .returned (ev (exq e)) ∧ Below w.heap.size w w' := by
  obtain ⟨g, hg⟩ : ∃ g, w.heap.size = g := ⟨_, rfl⟩
  obtain ⟨W1, hW1⟩ : ∃ X, (w.alloc (.cells (cE e) 23)).alloc (.cells (cE z4) 23) = X := ⟨_, rfl⟩
  have k1 : W1.heap[g]? = some (.cells (cE e) 23) := by rw [← hW1, ← hg]; exact old_alloc (heap_alloc_new w _) _
  have k2 : W1.heap[g + 1]? = some (.cells (cE z4) 23) := by rw [← hW1, ← hg]; exact new_two w _ _
  have B1 : Hid (Below g w W1) := hid (by rw [← hW1, ← hg]; exact below_both (al1 w _) (al1 _ _))
  obtain ⟨x0, x1, x2, x3⟩ := load4 k1
  obtain ⟨y0, y1, y2, y3⟩ := load4 k2
  obtain ⟨c, hc⟩ : ∃ c, chk e = c := ⟨_, rfl⟩
  have HCK := hid (rcheck_any e W1)
  have HOK : Hid (c = 0 → chk e = 0) := hid (fun h => hc.trans h)
  rw [hc] at HCK
  have HC := hid hc
  have K1 := hid k1
  have K2 := hid k2
  have HG := hid hg
  have HW1 := hid hW1
  clear k1 hg hW1 hc k2
  obtain ⟨n, s, v, b⟩ := e
  simp only [cE, ev, z4] at HW1 HCK x0 x1 x2 x3 y0 y1 y2 y3 ⊢
  by_cases c0 : c = 0
  · have ok := chk_ok (HOK.out c0)
    have h1 : 0 ≤ b ∧ b ≤ 12 := ok.2.2.2.1
    have HE : Hid (exq ⟨n, s, v, b⟩ = ⟨n, s, v, min (b + 1) 12⟩) := hid (by unfold exq; rw [if_pos (HOK.out c0)])
    obtain ⟨m, hm⟩ : ∃ m, min (b + 1) 12 = m := ⟨_, rfl⟩
    rw [hm] at HE
    have q1 : wrap64 (b + 1) = b + 1 := w64 (by omega) (by omega)
    clear ok HOK HC h1
    subst c0
    go_enter Try.func22, Try.ntmps22
    go_upto_region 1 with fail
    rw [HW1.out, HG.out]
    go_wp2_with (go_at_call 14; (with_reducible refine HCK.out.mono ?_); rintro _ w3 ⟨rfl, hb⟩; have HB3 := hid (B1.out.trans (hb.mono (Nat.le_of_lt (box_lt K1.out)))); have h3 := (hb.block _ (box_lt K1.out)).trans K1.out; have h4 := (hb.block _ (box_lt K2.out)).trans K2.out; have K3 := hid h3; have K4 := hid h4; obtain ⟨u0, u1, u2, u3⟩ := load4 h3; obtain ⟨t0, t1, t2, t3⟩ := load4 h4; have f3 := box_fr h3; have f4 := box_fr h4; clear hb h3 h4)
    refine bodyPost_ret (results_e rfl _ _ (g + 1) 23 ⟨n, s, v, m⟩ rfl (set4h ⟨n, s, v, m⟩ ((Below.heap_setCell _ _ _ _ (Nat.succ_ne_self g)).trans K4.out))) rfl ?_
    refine ⟨?_, ?_⟩
    · rw [HE.out]; rfl
    · rw [HG.out]; exact set4b ⟨n, s, v, m⟩ (HB3.out.setCell (Nat.le_refl _) _) (Nat.le_succ _)
  · have d0 : (c == 0) = false := by simp [c0]
    have HR : Hid (exq ⟨n, s, v, b⟩ = ⟨n, s, v, b⟩) := hid (by unfold exq; rw [HC.out, if_neg c0])
    go_enter Try.func22, Try.ntmps22
    go_upto_region 1 with fail
    rw [HW1.out, HG.out]
    go_wp2_with (go_at_call 14; (with_reducible refine HCK.out.mono ?_); rintro _ w3 ⟨rfl, hb⟩; have HB3 := hid (B1.out.trans (hb.mono (Nat.le_of_lt (box_lt K1.out)))); have h3 := (hb.block _ (box_lt K1.out)).trans K1.out; have h4 := (hb.block _ (box_lt K2.out)).trans K2.out; have K3 := hid h3; have K4 := hid h4; obtain ⟨u0, u1, u2, u3⟩ := load4 h3; obtain ⟨t0, t1, t2, t3⟩ := load4 h4; have f3 := box_fr h3; have f4 := box_fr h4; clear hb h3 h4)
    refine bodyPost_ret (results_e rfl _ _ (g + 1) 23 ⟨n, s, v, b⟩ rfl (set4h ⟨n, s, v, b⟩ K4.out)) rfl ?_
    refine ⟨?_, ?_⟩
    · rw [HR.out]; rfl
    · rw [HG.out]; exact set4b ⟨n, s, v, b⟩ HB3.out (Nat.le_succ _)
end Go.Proofs.Ytlbcidgmdfcamaa
