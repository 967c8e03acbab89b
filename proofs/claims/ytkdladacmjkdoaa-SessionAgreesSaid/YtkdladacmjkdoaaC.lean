/- The reference's Check, late, message, phase. -/
import Derived.Test.YtkdladacmjkdoaaB
namespace Go.Proofs.Ytkdladacmjkdoaa
open Go.RowKit Go.Lib
theorem ret_i {a b : Int} (h : a = b) : Ending.returned (.int .i64 a) = .returned (.int .i64 b) := by rw [h]
theorem ret_b {a b : Bool} (h : a = b) : Ending.returned (.bool a) = .returned (.bool b) := by rw [h]
set_option maxHeartbeats 4000000 in
set_option maxRecDepth 100000 in
theorem rcheck_any (s : Ses) (w : World) : Calls Try.prog 14 #[sv s] w fun e w' => e = .returned (.int .i64 (chk s)) ∧ Below w.heap.size w w' := by
  unfold sv
  obtain ⟨g, hg⟩ : ∃ g, w.heap.size = g := ⟨_, rfl⟩
  obtain ⟨W1, hW1⟩ : ∃ X, w.alloc (.cells #[.int .i64 s.l, .int .i64 s.r, .int .i64 s.e, .int .i64 s.n, .int .i64 s.p, .int .i64 s.d] 23) = X := ⟨_, rfl⟩
  have hx1 : W1.heap[g]? = some (.cells #[.int .i64 s.l, .int .i64 s.r, .int .i64 s.e, .int .i64 s.n, .int .i64 s.p, .int .i64 s.d] 23) := by rw [← hW1, ← hg]; exact heap_alloc_new w _
  have HB1 : Hid (Below w.heap.size w W1) := hid (by rw [← hW1]; exact al1 _ _)
  have x0 := cell_of_row _ _ 0 _ _ _ hx1
  have x1 := cell_of_row _ _ 1 _ _ _ hx1
  have x2 := cell_of_row _ _ 2 _ _ _ hx1
  have x3 := cell_of_row _ _ 3 _ _ _ hx1
  have x4 := cell_of_row _ _ 4 _ _ _ hx1
  have x5 := cell_of_row _ _ 5 _ _ _ hx1
  have HW1 := hid hW1
  have HG := hid hg
  clear hx1 hW1 hg
  obtain ⟨l, r, e, n, p, d⟩ := s
  simp only at x0 x1 x2 x3 x4 x5 HW1 ⊢
  by_cases a1 : l < 0
  · have b1 : decide (l < 0) = true := decide_eq_true a1
    go_enter Try.func14, Try.ntmps14
    go_upto_region 1 with fail
    rw [HW1.out, HG.out]
    go_wp2_with fail
    go_ret
    exact ⟨ret_i (by unfold chk siteB timeB; simp only [Bool.and_eq_false_iff, decide_eq_false_iff_not]; (repeat' split) <;> omega), HB1.out⟩
  have b1 : decide (l < 0) = false := decide_eq_false a1
  by_cases a2 : 4 ≤ l
  · have b2 : decide (4 ≤ l) = true := decide_eq_true a2
    go_enter Try.func14, Try.ntmps14
    go_upto_region 1 with fail
    rw [HW1.out, HG.out]
    go_wp2_with fail
    go_ret
    exact ⟨ret_i (by unfold chk siteB timeB; simp only [Bool.and_eq_false_iff, decide_eq_false_iff_not]; (repeat' split) <;> omega), HB1.out⟩
  have b2 : decide (4 ≤ l) = false := decide_eq_false a2
  by_cases a3 : r < 0
  · have b3 : decide (r < 0) = true := decide_eq_true a3
    go_enter Try.func14, Try.ntmps14
    go_upto_region 1 with fail
    rw [HW1.out, HG.out]
    go_wp2_with fail
    go_ret
    exact ⟨ret_i (by unfold chk siteB timeB; simp only [Bool.and_eq_false_iff, decide_eq_false_iff_not]; (repeat' split) <;> omega), HB1.out⟩
  have b3 : decide (r < 0) = false := decide_eq_false a3
  by_cases a4 : 4 ≤ r
  · have b4 : decide (4 ≤ r) = true := decide_eq_true a4
    go_enter Try.func14, Try.ntmps14
    go_upto_region 1 with fail
    rw [HW1.out, HG.out]
    go_wp2_with fail
    go_ret
    exact ⟨ret_i (by unfold chk siteB timeB; simp only [Bool.and_eq_false_iff, decide_eq_false_iff_not]; (repeat' split) <;> omega), HB1.out⟩
  have b4 : decide (4 ≤ r) = false := decide_eq_false a4
  by_cases ha : l = r
  · subst ha
    go_enter Try.func14, Try.ntmps14
    go_upto_region 1 with fail
    rw [HW1.out, HG.out]
    go_wp2_with fail
    go_ret
    exact ⟨ret_i (by unfold chk siteB timeB; simp only [Bool.and_eq_false_iff, decide_eq_false_iff_not]; rw [if_neg (by omega)]; simp), HB1.out⟩
  have ha' : (l == r) = false := by simp [ha]
  by_cases a5 : e < 0
  · have b5 : decide (e < 0) = true := decide_eq_true a5
    go_enter Try.func14, Try.ntmps14
    go_upto_region 1 with fail
    rw [HW1.out, HG.out]
    go_wp2_with fail
    go_ret
    exact ⟨ret_i (by unfold chk siteB timeB; simp only [Bool.and_eq_false_iff, decide_eq_false_iff_not]; (repeat' split) <;> omega), HB1.out⟩
  have b5 : decide (e < 0) = false := decide_eq_false a5
  by_cases a6 : 1073741824 < e
  · have b6 : decide (1073741824 < e) = true := decide_eq_true a6
    go_enter Try.func14, Try.ntmps14
    go_upto_region 1 with fail
    rw [HW1.out, HG.out]
    go_wp2_with fail
    go_ret
    exact ⟨ret_i (by unfold chk siteB timeB; simp only [Bool.and_eq_false_iff, decide_eq_false_iff_not]; (repeat' split) <;> omega), HB1.out⟩
  have b6 : decide (1073741824 < e) = false := decide_eq_false a6
  by_cases a7 : n < 0
  · have b7 : decide (n < 0) = true := decide_eq_true a7
    go_enter Try.func14, Try.ntmps14
    go_upto_region 1 with fail
    rw [HW1.out, HG.out]
    go_wp2_with fail
    go_ret
    exact ⟨ret_i (by unfold chk siteB timeB; simp only [Bool.and_eq_false_iff, decide_eq_false_iff_not]; (repeat' split) <;> omega), HB1.out⟩
  have b7 : decide (n < 0) = false := decide_eq_false a7
  by_cases a8 : 1073741824 < n
  · have b8 : decide (1073741824 < n) = true := decide_eq_true a8
    go_enter Try.func14, Try.ntmps14
    go_upto_region 1 with fail
    rw [HW1.out, HG.out]
    go_wp2_with fail
    go_ret
    exact ⟨ret_i (by unfold chk siteB timeB; simp only [Bool.and_eq_false_iff, decide_eq_false_iff_not]; (repeat' split) <;> omega), HB1.out⟩
  have b8 : decide (1073741824 < n) = false := decide_eq_false a8
  by_cases a9 : p < 0
  · have b9 : decide (p < 0) = true := decide_eq_true a9
    go_enter Try.func14, Try.ntmps14
    go_upto_region 1 with fail
    rw [HW1.out, HG.out]
    go_wp2_with fail
    go_ret
    exact ⟨ret_i (by unfold chk siteB timeB; simp only [Bool.and_eq_false_iff, decide_eq_false_iff_not]; (repeat' split) <;> omega), HB1.out⟩
  have b9 : decide (p < 0) = false := decide_eq_false a9
  by_cases a10 : 2 < p
  · have b10 : decide (2 < p) = true := decide_eq_true a10
    go_enter Try.func14, Try.ntmps14
    go_upto_region 1 with fail
    rw [HW1.out, HG.out]
    go_wp2_with fail
    go_ret
    exact ⟨ret_i (by unfold chk siteB timeB; simp only [Bool.and_eq_false_iff, decide_eq_false_iff_not]; (repeat' split) <;> omega), HB1.out⟩
  have b10 : decide (2 < p) = false := decide_eq_false a10
  by_cases a11 : d < 0
  · have b11 : decide (d < 0) = true := decide_eq_true a11
    go_enter Try.func14, Try.ntmps14
    go_upto_region 1 with fail
    rw [HW1.out, HG.out]
    go_wp2_with fail
    go_ret
    exact ⟨ret_i (by unfold chk siteB timeB; simp only [Bool.and_eq_false_iff, decide_eq_false_iff_not]; (repeat' split) <;> omega), HB1.out⟩
  have b11 : decide (d < 0) = false := decide_eq_false a11
  by_cases a12 : 1073741824 < d
  · have b12 : decide (1073741824 < d) = true := decide_eq_true a12
    go_enter Try.func14, Try.ntmps14
    go_upto_region 1 with fail
    rw [HW1.out, HG.out]
    go_wp2_with fail
    go_ret
    exact ⟨ret_i (by unfold chk siteB timeB; simp only [Bool.and_eq_false_iff, decide_eq_false_iff_not]; (repeat' split) <;> omega), HB1.out⟩
  have b12 : decide (1073741824 < d) = false := decide_eq_false a12
  by_cases p1 : p = 1
  · subst p1
    go_enter Try.func14, Try.ntmps14
    go_upto_region 1 with fail
    rw [HW1.out, HG.out]
    go_wp2_with fail
    go_ret
    exact ⟨ret_i (by unfold chk siteB timeB; simp only [Bool.and_eq_false_iff, decide_eq_false_iff_not]; (repeat' split) <;> omega), HB1.out⟩
  have q1 : (p != 1) = true := by simp [p1]
  by_cases d1 : d = 0
  · subst d1
    go_enter Try.func14, Try.ntmps14
    go_upto_region 1 with fail
    rw [HW1.out, HG.out]
    go_wp2_with fail
    go_ret
    exact ⟨ret_i (by unfold chk siteB timeB; simp only [Bool.and_eq_false_iff, decide_eq_false_iff_not]; (repeat' split) <;> omega), HB1.out⟩
  have e1 : (d != 0) = true := by simp [d1]
  go_enter Try.func14, Try.ntmps14
  go_upto_region 1 with fail
  rw [HW1.out, HG.out]
  go_wp2_with fail
  go_ret
  exact ⟨ret_i (by unfold chk siteB timeB; simp only [Bool.and_eq_false_iff, decide_eq_false_iff_not]; (repeat' split) <;> omega), HB1.out⟩
end Go.Proofs.Ytkdladacmjkdoaa
