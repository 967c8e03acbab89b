/- Sessions as values; isSite, isTime, fits, Check and the reference's. -/
import Derived.Test.YtkdladacmjkdoaaA
namespace Go.Proofs.Ytkdladacmjkdoaa
open Go.RowKit Go.Lib

def R64 (x : Int) : Prop := -9223372036854775808 ≤ x ∧ x ≤ 9223372036854775807
def siteB (x : Int) : Bool := decide (0 ≤ x) && decide (x < 4)
def timeB (x : Int) : Bool := decide (0 ≤ x) && decide (x ≤ 1073741824)
def fitB (n p : Int) : Bool := decide (0 ≤ p) && decide (p ≤ wrap64 (1073741824 - n))
theorem isSite_any (x : Int) (w : World) : Calls Try.prog 29 #[.int .i64 x] w fun e w' => e = .returned (.bool (siteB x)) ∧ w' = w := by
  unfold siteB
  by_cases h0 : 0 ≤ x
  · have d0 : decide (0 ≤ x) = true := decide_eq_true h0
    rw [d0]
    go_enter Try.func29, Try.ntmps29
    go_wp2_with fail
    go_ret
    exact ⟨by simp, rfl⟩
  · have d0 : decide (0 ≤ x) = false := decide_eq_false h0
    rw [d0]
    go_enter Try.func29, Try.ntmps29
    go_wp2_with fail
    go_ret
    exact ⟨by simp, rfl⟩
theorem isTime_any (x : Int) (w : World) : Calls Try.prog 30 #[.int .i64 x] w fun e w' => e = .returned (.bool (timeB x)) ∧ w' = w := by
  unfold timeB
  by_cases h0 : 0 ≤ x
  · have d0 : decide (0 ≤ x) = true := decide_eq_true h0
    rw [d0]
    go_enter Try.func30, Try.ntmps30
    go_wp2_with fail
    go_ret
    exact ⟨by simp, rfl⟩
  · have d0 : decide (0 ≤ x) = false := decide_eq_false h0
    rw [d0]
    go_enter Try.func30, Try.ntmps30
    go_wp2_with fail
    go_ret
    exact ⟨by simp, rfl⟩
theorem fits_any (n p : Int) (w : World) : Calls Try.prog 31 #[.int .i64 n, .int .i64 p] w fun e w' => e = .returned (.bool (fitB n p)) ∧ w' = w := by
  unfold fitB
  by_cases h0 : 0 ≤ p
  · have d0 : decide (0 ≤ p) = true := decide_eq_true h0
    rw [d0]
    go_enter Try.func31, Try.ntmps31
    go_wp2_with fail
    go_ret
    exact ⟨by simp, rfl⟩
  · have d0 : decide (0 ≤ p) = false := decide_eq_false h0
    rw [d0]
    go_enter Try.func31, Try.ntmps31
    go_wp2_with fail
    go_ret
    exact ⟨by simp, rfl⟩
/-- A session: its two sites, its epoch, its number, its phase and its deadline. -/
structure Ses where
  l : Int
  r : Int
  e : Int
  n : Int
  p : Int
  d : Int
deriving DecidableEq
def sv (s : Ses) : Value := .agg #[.int .i64 s.l, .int .i64 s.r, .int .i64 s.e, .int .i64 s.n, .int .i64 s.p, .int .i64 s.d]
/-- Its error. -/
def chk (s : Ses) : Int :=
  if siteB s.l = false ∨ siteB s.r = false then 2
  else if s.l = s.r then 1
  else if timeB s.e = false ∨ timeB s.n = false then 2
  else if s.p ≠ 0 ∧ s.p ≠ 1 ∧ s.p ≠ 2 then 12
  else if timeB s.d = false ∨ (0 < s.d ∧ s.p ≠ 1) then 24
  else 0
set_option maxHeartbeats 4000000 in
set_option maxRecDepth 100000 in
theorem check_any (s : Ses) (w : World) : Calls Try.prog 13 #[sv s] w fun e w' => e = .returned (.int .i64 (chk s)) ∧ Below w.heap.size w w' := by
  unfold sv
  obtain ⟨g, hg⟩ : ∃ g, w.heap.size = g := ⟨_, rfl⟩
  obtain ⟨W1, hW1⟩ : ∃ X, w.alloc (.cells #[.int .i64 s.l, .int .i64 s.r, .int .i64 s.e, .int .i64 s.n, .int .i64 s.p, .int .i64 s.d] 23) = X := ⟨_, rfl⟩
  have hx1 : W1.heap[g]? = some (.cells #[.int .i64 s.l, .int .i64 s.r, .int .i64 s.e, .int .i64 s.n, .int .i64 s.p, .int .i64 s.d] 23) := by rw [← hW1, ← hg]; exact heap_alloc_new w _
  have HB1 : Hid (Below w.heap.size w W1) := hid (by rw [← hW1]; exact al1 _ _)
  have x0 := cell_of_row _ _ 0 _ _ _ hx1
  have x1 := cell_of_row _ _ 1 _ _ _ hx1
  have x2 := cell_of_row _ _ 2 _ _ _ hx1
  have x3 := cell_of_row _ _ 3 _ _ _ hx1
  have x4 := cell_of_row _ _ 4 _ _ _ hx1
  have x5 := cell_of_row _ _ 5 _ _ _ hx1
  have HW1 := hid hW1
  have HG := hid hg
  clear hx1 hW1 hg
  obtain ⟨l, r, e, n, p, d⟩ := s
  simp only at x0 x1 x2 x3 x4 x5 HW1 ⊢
  cases h1 : siteB l
  · go_enter Try.func13, Try.ntmps13
    go_upto_region 2 with fail
    rw [HW1.out, HG.out]
    go_wp2_with (first | (with_reducible (refine (isSite_any _ _).mono ?_); rintro _ w' ⟨rfl, hh⟩; subst w'; first | rw [h1] | rw [h2]) | (with_reducible (refine (isTime_any _ _).mono ?_); rintro _ w' ⟨rfl, hh⟩; subst w'; first | rw [h3] | rw [h4] | rw [h5]))
    go_ret
    exact ⟨by first | (have ha := HA.out; simp [chk, *]) | simp [chk, *], HB1.out⟩
  cases h2 : siteB r
  · go_enter Try.func13, Try.ntmps13
    go_upto_region 2 with fail
    rw [HW1.out, HG.out]
    go_wp2_with (first | (with_reducible (refine (isSite_any _ _).mono ?_); rintro _ w' ⟨rfl, hh⟩; subst w'; first | rw [h1] | rw [h2]) | (with_reducible (refine (isTime_any _ _).mono ?_); rintro _ w' ⟨rfl, hh⟩; subst w'; first | rw [h3] | rw [h4] | rw [h5]))
    go_ret
    exact ⟨by first | (have ha := HA.out; simp [chk, *]) | simp [chk, *], HB1.out⟩
  by_cases ha : l = r
  · subst ha
    go_enter Try.func13, Try.ntmps13
    go_upto_region 2 with fail
    rw [HW1.out, HG.out]
    go_wp2_with (first | (with_reducible (refine (isSite_any _ _).mono ?_); rintro _ w' ⟨rfl, hh⟩; subst w'; first | rw [h1] | rw [h2]) | (with_reducible (refine (isTime_any _ _).mono ?_); rintro _ w' ⟨rfl, hh⟩; subst w'; first | rw [h3] | rw [h4] | rw [h5]))
    go_ret
    exact ⟨by first | (have ha := HA.out; simp [chk, *]) | simp [chk, *], HB1.out⟩
  cases h3 : timeB e
  · go_enter Try.func13, Try.ntmps13
    go_upto_region 2 with fail
    rw [HW1.out, HG.out]
    go_wp2_with (first | (with_reducible (refine (isSite_any _ _).mono ?_); rintro _ w' ⟨rfl, hh⟩; subst w'; first | rw [h1] | rw [h2]) | (with_reducible (refine (isTime_any _ _).mono ?_); rintro _ w' ⟨rfl, hh⟩; subst w'; first | rw [h3] | rw [h4] | rw [h5]))
    go_ret
    exact ⟨by first | (have ha := HA.out; simp [chk, *]) | simp [chk, *], HB1.out⟩
  cases h4 : timeB n
  · go_enter Try.func13, Try.ntmps13
    go_upto_region 2 with fail
    rw [HW1.out, HG.out]
    go_wp2_with (first | (with_reducible (refine (isSite_any _ _).mono ?_); rintro _ w' ⟨rfl, hh⟩; subst w'; first | rw [h1] | rw [h2]) | (with_reducible (refine (isTime_any _ _).mono ?_); rintro _ w' ⟨rfl, hh⟩; subst w'; first | rw [h3] | rw [h4] | rw [h5]))
    go_ret
    exact ⟨by first | (have ha := HA.out; simp [chk, *]) | simp [chk, *], HB1.out⟩
  by_cases p0 : p = 0
  · subst p0
    cases h5 : timeB d
    · go_enter Try.func13, Try.ntmps13
      go_upto_region 2 with fail
      rw [HW1.out, HG.out]
      go_wp2_with (first | (with_reducible (refine (isSite_any _ _).mono ?_); rintro _ w' ⟨rfl, hh⟩; subst w'; first | rw [h1] | rw [h2]) | (with_reducible (refine (isTime_any _ _).mono ?_); rintro _ w' ⟨rfl, hh⟩; subst w'; first | rw [h3] | rw [h4] | rw [h5]))
      go_ret
      exact ⟨by first | (have ha := HA.out; simp [chk, *]) | simp [chk, *], HB1.out⟩
    by_cases hd : 0 < d
    · have dd : decide (0 < d) = true := decide_eq_true hd
      go_enter Try.func13, Try.ntmps13
      go_upto_region 2 with fail
      rw [HW1.out, HG.out]
      go_wp2_with (first | (with_reducible (refine (isSite_any _ _).mono ?_); rintro _ w' ⟨rfl, hh⟩; subst w'; first | rw [h1] | rw [h2]) | (with_reducible (refine (isTime_any _ _).mono ?_); rintro _ w' ⟨rfl, hh⟩; subst w'; first | rw [h3] | rw [h4] | rw [h5]))
      go_ret
      exact ⟨by first | (have ha := HA.out; simp [chk, *]) | simp [chk, *], HB1.out⟩
    have dd : decide (0 < d) = false := decide_eq_false hd
    go_enter Try.func13, Try.ntmps13
    go_upto_region 2 with fail
    rw [HW1.out, HG.out]
    go_wp2_with (first | (with_reducible (refine (isSite_any _ _).mono ?_); rintro _ w' ⟨rfl, hh⟩; subst w'; first | rw [h1] | rw [h2]) | (with_reducible (refine (isTime_any _ _).mono ?_); rintro _ w' ⟨rfl, hh⟩; subst w'; first | rw [h3] | rw [h4] | rw [h5]))
    go_ret
    exact ⟨by first | (have ha := HA.out; simp [chk, *]) | simp [chk, *], HB1.out⟩
  by_cases p1 : p = 1
  · subst p1
    cases h5 : timeB d
    · go_enter Try.func13, Try.ntmps13
      go_upto_region 2 with fail
      rw [HW1.out, HG.out]
      go_wp2_with (first | (with_reducible (refine (isSite_any _ _).mono ?_); rintro _ w' ⟨rfl, hh⟩; subst w'; first | rw [h1] | rw [h2]) | (with_reducible (refine (isTime_any _ _).mono ?_); rintro _ w' ⟨rfl, hh⟩; subst w'; first | rw [h3] | rw [h4] | rw [h5]))
      go_ret
      exact ⟨by first | (have ha := HA.out; simp [chk, *]) | simp [chk, *], HB1.out⟩
    by_cases hd : 0 < d
    · have dd : decide (0 < d) = true := decide_eq_true hd
      go_enter Try.func13, Try.ntmps13
      go_upto_region 2 with fail
      rw [HW1.out, HG.out]
      go_wp2_with (first | (with_reducible (refine (isSite_any _ _).mono ?_); rintro _ w' ⟨rfl, hh⟩; subst w'; first | rw [h1] | rw [h2]) | (with_reducible (refine (isTime_any _ _).mono ?_); rintro _ w' ⟨rfl, hh⟩; subst w'; first | rw [h3] | rw [h4] | rw [h5]))
      go_ret
      exact ⟨by first | (have ha := HA.out; simp [chk, *]) | simp [chk, *], HB1.out⟩
    have dd : decide (0 < d) = false := decide_eq_false hd
    go_enter Try.func13, Try.ntmps13
    go_upto_region 2 with fail
    rw [HW1.out, HG.out]
    go_wp2_with (first | (with_reducible (refine (isSite_any _ _).mono ?_); rintro _ w' ⟨rfl, hh⟩; subst w'; first | rw [h1] | rw [h2]) | (with_reducible (refine (isTime_any _ _).mono ?_); rintro _ w' ⟨rfl, hh⟩; subst w'; first | rw [h3] | rw [h4] | rw [h5]))
    go_ret
    exact ⟨by first | (have ha := HA.out; simp [chk, *]) | simp [chk, *], HB1.out⟩
  by_cases p2 : p = 2
  · subst p2
    cases h5 : timeB d
    · go_enter Try.func13, Try.ntmps13
      go_upto_region 2 with fail
      rw [HW1.out, HG.out]
      go_wp2_with (first | (with_reducible (refine (isSite_any _ _).mono ?_); rintro _ w' ⟨rfl, hh⟩; subst w'; first | rw [h1] | rw [h2]) | (with_reducible (refine (isTime_any _ _).mono ?_); rintro _ w' ⟨rfl, hh⟩; subst w'; first | rw [h3] | rw [h4] | rw [h5]))
      go_ret
      exact ⟨by first | (have ha := HA.out; simp [chk, *]) | simp [chk, *], HB1.out⟩
    by_cases hd : 0 < d
    · have dd : decide (0 < d) = true := decide_eq_true hd
      go_enter Try.func13, Try.ntmps13
      go_upto_region 2 with fail
      rw [HW1.out, HG.out]
      go_wp2_with (first | (with_reducible (refine (isSite_any _ _).mono ?_); rintro _ w' ⟨rfl, hh⟩; subst w'; first | rw [h1] | rw [h2]) | (with_reducible (refine (isTime_any _ _).mono ?_); rintro _ w' ⟨rfl, hh⟩; subst w'; first | rw [h3] | rw [h4] | rw [h5]))
      go_ret
      exact ⟨by first | (have ha := HA.out; simp [chk, *]) | simp [chk, *], HB1.out⟩
    have dd : decide (0 < d) = false := decide_eq_false hd
    go_enter Try.func13, Try.ntmps13
    go_upto_region 2 with fail
    rw [HW1.out, HG.out]
    go_wp2_with (first | (with_reducible (refine (isSite_any _ _).mono ?_); rintro _ w' ⟨rfl, hh⟩; subst w'; first | rw [h1] | rw [h2]) | (with_reducible (refine (isTime_any _ _).mono ?_); rintro _ w' ⟨rfl, hh⟩; subst w'; first | rw [h3] | rw [h4] | rw [h5]))
    go_ret
    exact ⟨by first | (have ha := HA.out; simp [chk, *]) | simp [chk, *], HB1.out⟩
  have q0 : (p != 0) = true := by simp [p0]
  have q1 : (p != 1) = true := by simp [p1]
  have q2 : (p != 2) = true := by simp [p2]
  go_enter Try.func13, Try.ntmps13
  go_upto_region 2 with fail
  rw [HW1.out, HG.out]
  go_wp2_with (first | (with_reducible (refine (isSite_any _ _).mono ?_); rintro _ w' ⟨rfl, hh⟩; subst w'; first | rw [h1] | rw [h2]) | (with_reducible (refine (isTime_any _ _).mono ?_); rintro _ w' ⟨rfl, hh⟩; subst w'; first | rw [h3] | rw [h4] | rw [h5]))
  go_ret
  exact ⟨by first | (have ha := HA.out; simp [chk, *]) | simp [chk, *], HB1.out⟩
end Go.Proofs.Ytkdladacmjkdoaa
