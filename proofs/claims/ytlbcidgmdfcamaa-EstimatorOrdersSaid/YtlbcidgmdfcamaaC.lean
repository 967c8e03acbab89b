/- Check of both sides. -/
import Derived.Test.YtlbcidgmdfcamaaB
namespace Go.Proofs.Ytlbcidgmdfcamaa
open Go.RowKit Go.Lib
set_option maxHeartbeats 4000000 in
set_option maxRecDepth 100000 in
theorem check_any (e : Est) (w : World) : Calls Try.prog 13 #[ev e] w fun f w' => f = .returned (.int .i64 (chk e)) ∧ Below w.heap.size w w' := by
  obtain ⟨g, hg⟩ : ∃ g, w.heap.size = g := ⟨_, rfl⟩
  obtain ⟨W1, hW1⟩ : ∃ X, w.alloc (.cells (cE e) 23) = X := ⟨_, rfl⟩
  obtain ⟨W2, hW2⟩ : ∃ X, W1.alloc (.cells #[.int .i64 e.n] 3) = X := ⟨_, rfl⟩
  obtain ⟨W3, hW3⟩ : ∃ X, W2.alloc (.cells #[.int .i64 e.s, .int .i64 e.v] 3) = X := ⟨_, rfl⟩
  obtain ⟨W4, hW4⟩ : ∃ X, W3.alloc (.cells #[.int .i64 e.b] 3) = X := ⟨_, rfl⟩
  have z1 : W1.heap.size = g + 1 := by rw [← hW1, World.size_alloc, hg]
  have z2 : W2.heap.size = g + 2 := by rw [← hW2, World.size_alloc, z1]
  have z3 : W3.heap.size = g + 3 := by rw [← hW3, World.size_alloc, z2]
  have k1 : W1.heap[g]? = some (.cells (cE e) 23) := by rw [← hW1, ← hg]; exact heap_alloc_new w _
  have k2 : W2.heap[g]? = some (.cells (cE e) 23) := by rw [← hW2]; exact old_alloc k1 _
  have k3 : W3.heap[g]? = some (.cells (cE e) 23) := by rw [← hW3]; exact old_alloc k2 _
  have k4 : W4.heap[g]? = some (.cells (cE e) 23) := by rw [← hW4]; exact old_alloc k3 _
  have b1 : Below g w W1 := by rw [← hW1, ← hg]; exact al1 w _
  have b2 : Below g w W2 := by rw [← hW2]; exact b1.alloc (by omega) _
  have b3 : Below g w W3 := by rw [← hW3]; exact b2.alloc (by omega) _
  have b4 : Below g w W4 := by rw [← hW4]; exact b3.alloc (by omega) _
  have HC1 := hid (within1 1073741824 e.n (g + 1) W2 (by rw [← hW2, ← z1]; exact heap_alloc_new _ _))
  have HC2 := hid (within2 8589934592 e.s e.v (g + 2) W3 (by rw [← hW3, ← z2]; exact heap_alloc_new _ _))
  have HC3 := hid (within1 12 e.b (g + 3) W4 (by rw [← hW4, ← z3]; exact heap_alloc_new _ _))
  obtain ⟨x0, x1, x2, x3⟩ := load4 k1
  obtain ⟨y0, y1, y2, y3⟩ := load4 k2
  obtain ⟨u0, u1, u2, u3⟩ := load4 k3
  obtain ⟨v0, v1, v2, v3⟩ := load4 k4
  have B2 := hid b2
  have B3 := hid b3
  have B4 := hid b4
  have HG := hid hg
  have HW1 := hid hW1
  clear k1 k2 k3 k4 b1 b2 b3 b4 hg hW1
  obtain ⟨n, s, v, b⟩ := e
  unfold ev
  simp only [cE] at *
  cases h1 : inB 1073741824 n
  · go_enter Try.func13, Try.ntmps13
    go_upto_region 1 with fail
    rw [HG.out, HW1.out]
    go_wp2_with (first | (go_at_call 23; (with_reducible refine HC1.out.mono ?_); rintro _ w' ⟨rfl, hh⟩; subst w'; rw [h1]) | (go_at_call 23; (with_reducible refine HC2.out.mono ?_); rintro _ w' ⟨rfl, hh⟩; subst w'; rw [h2]) | (go_at_call 23; (with_reducible refine HC3.out.mono ?_); rintro _ w' ⟨rfl, hh⟩; subst w'; rw [h3]))
    go_ret
    exact ⟨ret_i (by unfold chk; simp [h1]), by rw [HG.out]; exact B2.out⟩
  cases h2 : (inB 8589934592 s && inB 8589934592 v)
  · go_enter Try.func13, Try.ntmps13
    go_upto_region 1 with fail
    rw [HG.out, HW1.out]
    go_wp2_with (first | (go_at_call 23; (with_reducible refine HC1.out.mono ?_); rintro _ w' ⟨rfl, hh⟩; subst w'; rw [h1]) | (go_at_call 23; (with_reducible refine HC2.out.mono ?_); rintro _ w' ⟨rfl, hh⟩; subst w'; rw [h2]) | (go_at_call 23; (with_reducible refine HC3.out.mono ?_); rintro _ w' ⟨rfl, hh⟩; subst w'; rw [h3]))
    go_ret
    exact ⟨ret_i (by unfold chk; rw [if_pos (by simp only [Bool.and_eq_false_iff] at h2; rcases h2 with h | h <;> simp [h])]), by rw [HG.out]; exact B3.out⟩
  have ha := h2
  simp only [Bool.and_eq_true] at ha
  cases h3 : inB 12 b
  · go_enter Try.func13, Try.ntmps13
    go_upto_region 1 with fail
    rw [HG.out, HW1.out]
    go_wp2_with (first | (go_at_call 23; (with_reducible refine HC1.out.mono ?_); rintro _ w' ⟨rfl, hh⟩; subst w'; rw [h1]) | (go_at_call 23; (with_reducible refine HC2.out.mono ?_); rintro _ w' ⟨rfl, hh⟩; subst w'; rw [h2]) | (go_at_call 23; (with_reducible refine HC3.out.mono ?_); rintro _ w' ⟨rfl, hh⟩; subst w'; rw [h3]))
    go_ret
    exact ⟨ret_i (by unfold chk; simp [h3]), by rw [HG.out]; exact B4.out⟩
  by_cases n0 : n = 0
  · subst n0
    by_cases s0 : 0 < s
    · have d0 : decide (0 < s) = true := decide_eq_true s0
      go_enter Try.func13, Try.ntmps13
      go_upto_region 1 with fail
      rw [HG.out, HW1.out]
      go_wp2_with (first | (go_at_call 23; (with_reducible refine HC1.out.mono ?_); rintro _ w' ⟨rfl, hh⟩; subst w'; rw [h1]) | (go_at_call 23; (with_reducible refine HC2.out.mono ?_); rintro _ w' ⟨rfl, hh⟩; subst w'; rw [h2]) | (go_at_call 23; (with_reducible refine HC3.out.mono ?_); rintro _ w' ⟨rfl, hh⟩; subst w'; rw [h3]))
      go_ret
      exact ⟨ret_i (by unfold chk; rw [if_neg (by simp [h1, ha.1, ha.2, h3]), if_pos ⟨rfl, .inl s0⟩]), by rw [HG.out]; exact B4.out⟩
    have d0 : decide (0 < s) = false := decide_eq_false s0
    by_cases v0 : 0 < v
    · have d1 : decide (0 < v) = true := decide_eq_true v0
      go_enter Try.func13, Try.ntmps13
      go_upto_region 1 with fail
      rw [HG.out, HW1.out]
      go_wp2_with (first | (go_at_call 23; (with_reducible refine HC1.out.mono ?_); rintro _ w' ⟨rfl, hh⟩; subst w'; rw [h1]) | (go_at_call 23; (with_reducible refine HC2.out.mono ?_); rintro _ w' ⟨rfl, hh⟩; subst w'; rw [h2]) | (go_at_call 23; (with_reducible refine HC3.out.mono ?_); rintro _ w' ⟨rfl, hh⟩; subst w'; rw [h3]))
      go_ret
      exact ⟨ret_i (by unfold chk; rw [if_neg (by simp [h1, ha.1, ha.2, h3]), if_pos ⟨rfl, .inr v0⟩]), by rw [HG.out]; exact B4.out⟩
    have d1 : decide (0 < v) = false := decide_eq_false v0
    go_enter Try.func13, Try.ntmps13
    go_upto_region 1 with fail
    rw [HG.out, HW1.out]
    go_wp2_with (first | (go_at_call 23; (with_reducible refine HC1.out.mono ?_); rintro _ w' ⟨rfl, hh⟩; subst w'; rw [h1]) | (go_at_call 23; (with_reducible refine HC2.out.mono ?_); rintro _ w' ⟨rfl, hh⟩; subst w'; rw [h2]) | (go_at_call 23; (with_reducible refine HC3.out.mono ?_); rintro _ w' ⟨rfl, hh⟩; subst w'; rw [h3]))
    go_ret
    exact ⟨ret_i (by unfold chk; rw [if_neg (by simp [h1, ha.1, ha.2, h3]), if_neg (fun h => h.2.elim (Int.not_lt.2 s0) (Int.not_lt.2 v0))]), by rw [HG.out]; exact B4.out⟩
  have d0 : (n == 0) = false := by simp [n0]
  go_enter Try.func13, Try.ntmps13
  go_upto_region 1 with fail
  rw [HG.out, HW1.out]
  go_wp2_with (first | (go_at_call 23; (with_reducible refine HC1.out.mono ?_); rintro _ w' ⟨rfl, hh⟩; subst w'; rw [h1]) | (go_at_call 23; (with_reducible refine HC2.out.mono ?_); rintro _ w' ⟨rfl, hh⟩; subst w'; rw [h2]) | (go_at_call 23; (with_reducible refine HC3.out.mono ?_); rintro _ w' ⟨rfl, hh⟩; subst w'; rw [h3]))
  go_ret
  exact ⟨ret_i (by unfold chk; rw [if_neg (by simp [h1, ha.1, ha.2, h3]), if_neg (fun h => n0 h.1)]), by rw [HG.out]; exact B4.out⟩
set_option maxHeartbeats 4000000 in
set_option maxRecDepth 100000 in
theorem rcheck_any (e : Est) (w : World) : Calls Try.prog 14 #[ev e] w fun f w' => f = .returned (.int .i64 (chk e)) ∧ Below w.heap.size w w' := by
  obtain ⟨g, hg⟩ : ∃ g, w.heap.size = g := ⟨_, rfl⟩
  obtain ⟨W1, hW1⟩ : ∃ X, w.alloc (.cells (cE e) 23) = X := ⟨_, rfl⟩
  have k1 : W1.heap[g]? = some (.cells (cE e) 23) := by rw [← hW1, ← hg]; exact heap_alloc_new w _
  have B1 : Hid (Below w.heap.size w W1) := hid (by rw [← hW1]; exact al1 w _)
  obtain ⟨x0, x1, x2, x3⟩ := load4 k1
  have HG := hid hg
  have HW1 := hid hW1
  clear k1 hg hW1
  obtain ⟨n, s, v, b⟩ := e
  unfold ev
  simp only [cE] at *
  by_cases a0 : n < 0
  · have d0 : decide (n < 0) = true := decide_eq_true a0
    go_enter Try.func14, Try.ntmps14
    go_upto_region 1 with fail
    rw [HW1.out, HG.out]
    go_wp2_with fail
    go_ret
    exact ⟨ret_i (by unfold chk; simp [inB_not (m := 1073741824) (x := n) (.inl a0)]), B1.out⟩
  have d0 : decide (n < 0) = false := decide_eq_false a0
  by_cases a1 : 1073741824 < n
  · have d1 : decide (1073741824 < n) = true := decide_eq_true a1
    go_enter Try.func14, Try.ntmps14
    go_upto_region 1 with fail
    rw [HW1.out, HG.out]
    go_wp2_with fail
    go_ret
    exact ⟨ret_i (by unfold chk; simp [inB_not (m := 1073741824) (x := n) (.inr a1)]), B1.out⟩
  have d1 : decide (1073741824 < n) = false := decide_eq_false a1
  by_cases a2 : s < 0
  · have d2 : decide (s < 0) = true := decide_eq_true a2
    go_enter Try.func14, Try.ntmps14
    go_upto_region 1 with fail
    rw [HW1.out, HG.out]
    go_wp2_with fail
    go_ret
    exact ⟨ret_i (by unfold chk; simp [inB_not (m := 8589934592) (x := s) (.inl a2)]), B1.out⟩
  have d2 : decide (s < 0) = false := decide_eq_false a2
  by_cases a3 : 8589934592 < s
  · have d3 : decide (8589934592 < s) = true := decide_eq_true a3
    go_enter Try.func14, Try.ntmps14
    go_upto_region 1 with fail
    rw [HW1.out, HG.out]
    go_wp2_with fail
    go_ret
    exact ⟨ret_i (by unfold chk; simp [inB_not (m := 8589934592) (x := s) (.inr a3)]), B1.out⟩
  have d3 : decide (8589934592 < s) = false := decide_eq_false a3
  by_cases a4 : v < 0
  · have d4 : decide (v < 0) = true := decide_eq_true a4
    go_enter Try.func14, Try.ntmps14
    go_upto_region 1 with fail
    rw [HW1.out, HG.out]
    go_wp2_with fail
    go_ret
    exact ⟨ret_i (by unfold chk; simp [inB_not (m := 8589934592) (x := v) (.inl a4)]), B1.out⟩
  have d4 : decide (v < 0) = false := decide_eq_false a4
  by_cases a5 : 8589934592 < v
  · have d5 : decide (8589934592 < v) = true := decide_eq_true a5
    go_enter Try.func14, Try.ntmps14
    go_upto_region 1 with fail
    rw [HW1.out, HG.out]
    go_wp2_with fail
    go_ret
    exact ⟨ret_i (by unfold chk; simp [inB_not (m := 8589934592) (x := v) (.inr a5)]), B1.out⟩
  have d5 : decide (8589934592 < v) = false := decide_eq_false a5
  by_cases a6 : b < 0
  · have d6 : decide (b < 0) = true := decide_eq_true a6
    go_enter Try.func14, Try.ntmps14
    go_upto_region 1 with fail
    rw [HW1.out, HG.out]
    go_wp2_with fail
    go_ret
    exact ⟨ret_i (by unfold chk; simp [inB_not (m := 12) (x := b) (.inl a6)]), B1.out⟩
  have d6 : decide (b < 0) = false := decide_eq_false a6
  by_cases a7 : 12 < b
  · have d7 : decide (12 < b) = true := decide_eq_true a7
    go_enter Try.func14, Try.ntmps14
    go_upto_region 1 with fail
    rw [HW1.out, HG.out]
    go_wp2_with fail
    go_ret
    exact ⟨ret_i (by unfold chk; simp [inB_not (m := 12) (x := b) (.inr a7)]), B1.out⟩
  have d7 : decide (12 < b) = false := decide_eq_false a7
  have ok : ¬ (inB 1073741824 n = false ∨ inB 8589934592 s = false ∨ inB 8589934592 v = false ∨ inB 12 b = false) := by
    rw [inB_of (m := 1073741824) (x := n) (by omega) (by omega), inB_of (m := 8589934592) (x := s) (by omega) (by omega), inB_of (m := 8589934592) (x := v) (by omega) (by omega), inB_of (m := 12) (x := b) (by omega) (by omega)]
    simp
  have OK := hid ok
  clear ok
  by_cases n0 : n = 0
  · subst n0
    by_cases s0 : 0 < s
    · have f0 : decide (0 < s) = true := decide_eq_true s0
      go_enter Try.func14, Try.ntmps14
      go_upto_region 1 with fail
      rw [HW1.out, HG.out]
      go_wp2_with fail
      go_ret
      exact ⟨ret_i (by unfold chk; rw [if_neg OK.out, if_pos ⟨rfl, .inl s0⟩]), B1.out⟩
    have f0 : decide (0 < s) = false := decide_eq_false s0
    by_cases v0 : 0 < v
    · have f1 : decide (0 < v) = true := decide_eq_true v0
      go_enter Try.func14, Try.ntmps14
      go_upto_region 1 with fail
      rw [HW1.out, HG.out]
      go_wp2_with fail
      go_ret
      exact ⟨ret_i (by unfold chk; rw [if_neg OK.out, if_pos ⟨rfl, .inr v0⟩]), B1.out⟩
    have f1 : decide (0 < v) = false := decide_eq_false v0
    go_enter Try.func14, Try.ntmps14
    go_upto_region 1 with fail
    rw [HW1.out, HG.out]
    go_wp2_with fail
    go_ret
    exact ⟨ret_i (by unfold chk; rw [if_neg OK.out, if_neg (fun h => h.2.elim (Int.not_lt.2 s0) (Int.not_lt.2 v0))]), B1.out⟩
  have f0 : (n == 0) = false := by simp [n0]
  go_enter Try.func14, Try.ntmps14
  go_upto_region 1 with fail
  rw [HW1.out, HG.out]
  go_wp2_with fail
  go_ret
  exact ⟨ret_i (by unfold chk; rw [if_neg OK.out, if_neg (fun h => n0 h.1)]), B1.out⟩
end Go.Proofs.Ytlbcidgmdfcamaa
