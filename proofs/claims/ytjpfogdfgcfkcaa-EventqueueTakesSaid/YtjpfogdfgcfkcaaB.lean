/- Events as functions on numbers: the fields' check, comparing. -/
import Derived.Test.YtjpfogdfgcfkcaaA
namespace Go.Proofs.Ytjpfogdfgcfkcaa
open Go.RowKit Go.Lib

/-- The error of an event's fields. -/
def fldI (t n k o : Int) (m : Nat) (next : Int) : Int := if t < 0 ∨ 1073741824 < t then 24 else if k < 0 ∨ o < 0 ∨ n < 0 ∨ next ≤ n then 2 else if 4096 < m then 5 else 0
def cmpI (x y : Int) : Int := if x < y then -1 else if y < x then 1 else 0
def orI (a b : Int) : Int := if a ≠ 0 then a else b
def cmpE (t n t' n' : Int) : Int := orI (cmpI t t') (cmpI n n')
set_option maxHeartbeats 4000000 in
set_option maxRecDepth 100000 in
theorem fields_any (t n k o : Int) (A : Option Addr) (m c : Nat) (next : Int) (w : World) :
    Calls Try.prog 30 #[.agg #[.int .i64 t, .int .i64 n, .int .i64 k, .int .i64 o, .slice A m c], .int .i64 next] w fun e w' => e = .returned (.int .i64 (fldI t n k o m next)) ∧ Below w.heap.size w w' := by
  obtain ⟨W1, hW1⟩ : ∃ W1, w.alloc (.cells #[.int .i64 t, .int .i64 n, .int .i64 k, .int .i64 o, .slice A m c] 32) = W1 := ⟨_, rfl⟩
  have hb1 : Below w.heap.size w W1 := by rw [← hW1]; exact al1 _ _
  have hx1 : W1.heap[w.heap.size]? = some (.cells #[.int .i64 t, .int .i64 n, .int .i64 k, .int .i64 o, .slice A m c] 32) := by rw [← hW1]; exact heap_alloc_new _ _
  have c0 := cell_of_row _ _ 0 _ _ _ hx1
  have c1 := cell_of_row _ _ 1 _ _ _ hx1
  have c2 := cell_of_row _ _ 2 _ _ _ hx1
  have c3 := cell_of_row _ _ 3 _ _ _ hx1
  have c4 := cell_of_row _ _ 4 _ _ _ hx1
  have HB1 := hid hb1
  subst hW1
  clear hb1 hx1
  by_cases h0 : t < 0
  · have d0 : decide (t < 0) = true := decide_eq_true (by omega)
    have hf : fldI t n k o m next = 24 := by
      unfold fldI
      repeat' split
      all_goals omega
    have HF := hid hf
    clear hf
    go_enter Try.func30, Try.ntmps30
    go_wp2_with fail
    go_ret
    exact ⟨(congrArg (fun r => Ending.returned (.int .i64 r)) HF.out).symm, HB1.out⟩
  have d0 : decide (t < 0) = false := decide_eq_false (by omega)
  by_cases h1 : 1073741824 < t
  · have d1 : decide ((1073741824 : Int) < t) = true := decide_eq_true (by omega)
    have hf : fldI t n k o m next = 24 := by
      unfold fldI
      repeat' split
      all_goals omega
    have HF := hid hf
    clear hf
    go_enter Try.func30, Try.ntmps30
    go_wp2_with fail
    go_ret
    exact ⟨(congrArg (fun r => Ending.returned (.int .i64 r)) HF.out).symm, HB1.out⟩
  have d1 : decide ((1073741824 : Int) < t) = false := decide_eq_false (by omega)
  by_cases h2 : k < 0
  · have d2 : decide (k < 0) = true := decide_eq_true (by omega)
    have hf : fldI t n k o m next = 2 := by
      unfold fldI
      repeat' split
      all_goals omega
    have HF := hid hf
    clear hf
    go_enter Try.func30, Try.ntmps30
    go_wp2_with fail
    go_ret
    exact ⟨(congrArg (fun r => Ending.returned (.int .i64 r)) HF.out).symm, HB1.out⟩
  have d2 : decide (k < 0) = false := decide_eq_false (by omega)
  by_cases h3 : o < 0
  · have d3 : decide (o < 0) = true := decide_eq_true (by omega)
    have hf : fldI t n k o m next = 2 := by
      unfold fldI
      repeat' split
      all_goals omega
    have HF := hid hf
    clear hf
    go_enter Try.func30, Try.ntmps30
    go_wp2_with fail
    go_ret
    exact ⟨(congrArg (fun r => Ending.returned (.int .i64 r)) HF.out).symm, HB1.out⟩
  have d3 : decide (o < 0) = false := decide_eq_false (by omega)
  by_cases h4 : n < 0
  · have d4 : decide (n < 0) = true := decide_eq_true (by omega)
    have hf : fldI t n k o m next = 2 := by
      unfold fldI
      repeat' split
      all_goals omega
    have HF := hid hf
    clear hf
    go_enter Try.func30, Try.ntmps30
    go_wp2_with fail
    go_ret
    exact ⟨(congrArg (fun r => Ending.returned (.int .i64 r)) HF.out).symm, HB1.out⟩
  have d4 : decide (n < 0) = false := decide_eq_false (by omega)
  by_cases h5 : next ≤ n
  · have d5 : decide (next ≤ n) = true := decide_eq_true (by omega)
    have hf : fldI t n k o m next = 2 := by
      unfold fldI
      repeat' split
      all_goals omega
    have HF := hid hf
    clear hf
    go_enter Try.func30, Try.ntmps30
    go_wp2_with fail
    go_ret
    exact ⟨(congrArg (fun r => Ending.returned (.int .i64 r)) HF.out).symm, HB1.out⟩
  have d5 : decide (next ≤ n) = false := decide_eq_false (by omega)
  by_cases h6 : 4096 < m
  · have d6 : decide ((4096 : Int) < (m : Int)) = true := decide_eq_true (by omega)
    have hf : fldI t n k o m next = 5 := by
      unfold fldI
      repeat' split
      all_goals omega
    have HF := hid hf
    clear hf
    go_enter Try.func30, Try.ntmps30
    go_wp2_with fail
    go_ret
    exact ⟨(congrArg (fun r => Ending.returned (.int .i64 r)) HF.out).symm, HB1.out⟩
  have d6 : decide ((4096 : Int) < (m : Int)) = false := decide_eq_false (by omega)
  have hf : fldI t n k o m next = 0 := by
    unfold fldI
    repeat' split
    all_goals omega
  have HF := hid hf
  clear hf
  go_enter Try.func30, Try.ntmps30
  go_wp2_with fail
  go_ret
  exact ⟨(congrArg (fun r => Ending.returned (.int .i64 r)) HF.out).symm, HB1.out⟩
set_option maxRecDepth 100000 in
theorem isNaN_any (x : Int) (w : World) : Calls Try.prog 48 #[.int .i64 x] w fun e w' => e = .returned (.bool false) ∧ w' = w := by
  have d : (x != x) = false := by simp
  go_enter Try.func48, Try.ntmps48
  go_wp2
  go_ret
  exact ⟨rfl, rfl⟩
set_option maxHeartbeats 4000000 in
set_option maxRecDepth 100000 in
theorem cmp_any (x y : Int) (w : World) : Calls Try.prog 43 #[.int .i64 x, .int .i64 y] w fun e w' => e = .returned (.int .i64 (cmpI x y)) ∧ w' = w := by
  by_cases h0 : x < y
  · have d0 : decide (x < y) = true := decide_eq_true h0
    have HF : Hid (cmpI x y = -1) := hid (by unfold cmpI; rw [if_pos h0])
    clear h0
    go_enter Try.func43, Try.ntmps43
    go_wp2_with (first | (go_at_call 48; refine (isNaN_any _ _).mono ?_; rintro e w' ⟨rfl, rfl⟩))
    go_ret
    exact ⟨(congrArg (fun r => Ending.returned (.int .i64 r)) HF.out).symm, rfl⟩
  have d0 : decide (x < y) = false := decide_eq_false h0
  by_cases h1 : y < x
  · have d1 : decide (y < x) = true := decide_eq_true h1
    have HF : Hid (cmpI x y = 1) := hid (by unfold cmpI; rw [if_neg h0, if_pos h1])
    clear h0 h1
    go_enter Try.func43, Try.ntmps43
    go_wp2_with (first | (go_at_call 48; refine (isNaN_any _ _).mono ?_; rintro e w' ⟨rfl, rfl⟩))
    go_ret
    exact ⟨(congrArg (fun r => Ending.returned (.int .i64 r)) HF.out).symm, rfl⟩
  have d1 : decide (y < x) = false := decide_eq_false h1
  have HF : Hid (cmpI x y = 0) := hid (by unfold cmpI; rw [if_neg h0, if_neg h1])
  clear h0 h1
  go_enter Try.func43, Try.ntmps43
  go_wp2_with (first | (go_at_call 48; refine (isNaN_any _ _).mono ?_; rintro e w' ⟨rfl, rfl⟩))
  go_ret
  exact ⟨(congrArg (fun r => Ending.returned (.int .i64 r)) HF.out).symm, rfl⟩
set_option maxHeartbeats 4000000 in
set_option maxRecDepth 100000 in
theorem or_any (a b : Int) (g : Nat) (w : World) (h0 : w.cell? ⟨g, 0, none⟩ = some (.int .i64 a)) (h1 : w.cell? ⟨g, 1, none⟩ = some (.int .i64 b)) :
    Calls Try.prog 42 #[.slice (some ⟨g, 0, none⟩) 2 2] w fun e w' => e = .returned (.int .i64 (orI a b)) ∧ w' = w := by
  go_enter Try.func42, Try.ntmps42
  go_wp2
  go_loopw [8] (fun i wr => ∃ k : Nat, k ≤ 2 ∧ i = .int .i64 (k : Int) ∧ Hid (0 < k → a = 0) ∧ Hid (1 < k → b = 0) ∧ wr = w) (fun i _ => 2 - (Go.RowKit.intOf i).toNat)
  case atStart => exact ⟨0, by omega, rfl, hid (by omega), hid (by omega), rfl⟩
  case round =>
    obtain ⟨k, hk, rfl, H0, H1, rfl⟩ := hrel
    rcases (show k = 0 ∨ k = 1 ∨ k = 2 by omega) with rfl | rfl | rfl
    · by_cases ha : a = 0
      · have d : (a != 0) = false := by rw [ha]; rfl
        have HA := hid ha
        clear ha
        go_wp2
        go_roundw
        case rel => exact ⟨1, by omega, rfl, hid (fun _ => HA.out), hid (by omega), by first | rfl | trivial⟩
        case measure => simp [Go.RowKit.intOf]
      · have d : (a != 0) = true := by rw [bne_iff_ne]; exact ha
        have HF : Hid (orI a b = a) := hid (by unfold orI; rw [if_pos ha])
        clear ha
        go_wp2
        go_ret
        exact ⟨(congrArg (fun r => Ending.returned (.int .i64 r)) HF.out).symm, rfl⟩
    · have ha := H0.out (by omega)
      have HA := hid ha
      by_cases hb : b = 0
      · have d : (b != 0) = false := by rw [hb]; rfl
        have HB := hid hb
        clear hb ha
        go_wp2
        go_roundw
        case rel => exact ⟨2, by omega, rfl, hid (fun _ => HA.out), hid (fun _ => HB.out), by first | rfl | trivial⟩
        case measure => simp [Go.RowKit.intOf]
      · have d : (b != 0) = true := by rw [bne_iff_ne]; exact hb
        have HF : Hid (orI a b = b) := hid (by unfold orI; rw [if_neg (by omega)])
        clear hb ha
        go_wp2
        go_ret
        exact ⟨(congrArg (fun r => Ending.returned (.int .i64 r)) HF.out).symm, rfl⟩
    · have HF : Hid (orI a b = 0) := hid (by have := H0.out (by omega); have := H1.out (by omega); unfold orI; rw [if_neg (by omega)]; omega)
      go_wp2
      go_ret
      exact ⟨(congrArg (fun r => Ending.returned (.int .i64 r)) HF.out).symm, rfl⟩
set_option maxHeartbeats 4000000 in
set_option maxRecDepth 100000 in
theorem compare_any (t n k o t' n' k' o' : Int) (A A' : Option Addr) (m c m' c' : Nat) (w : World) :
    Calls Try.prog 31 #[.agg #[.int .i64 t, .int .i64 n, .int .i64 k, .int .i64 o, .slice A m c], .agg #[.int .i64 t', .int .i64 n', .int .i64 k', .int .i64 o', .slice A' m' c']] w fun e w' => e = .returned (.int .i64 (cmpE t n t' n')) ∧ Below w.heap.size w w' := by
  obtain ⟨W1, hW1⟩ : ∃ W1, (w.alloc (.cells #[.int .i64 t, .int .i64 n, .int .i64 k, .int .i64 o, .slice A m c] 61)).alloc (.cells #[.int .i64 t', .int .i64 n', .int .i64 k', .int .i64 o', .slice A' m' c'] 61) = W1 := ⟨_, rfl⟩
  have hb1 : Below w.heap.size w W1 := by rw [← hW1]; exact ((Below.refl _ w).alloc (Nat.le_refl _) _).alloc (by simp) _
  have hx1 : W1.heap[w.heap.size]? = some (.cells #[.int .i64 t, .int .i64 n, .int .i64 k, .int .i64 o, .slice A m c] 61) := by rw [← hW1]; exact (Below.heap_alloc _ _ _ (by simp)).trans (heap_alloc_new w _)
  have hy1 : W1.heap[w.heap.size + 1]? = some (.cells #[.int .i64 t', .int .i64 n', .int .i64 k', .int .i64 o', .slice A' m' c'] 61) := by rw [← hW1]; simpa using heap_alloc_new (w.alloc (.cells #[.int .i64 t, .int .i64 n, .int .i64 k, .int .i64 o, .slice A m c] 61)) (.cells #[.int .i64 t', .int .i64 n', .int .i64 k', .int .i64 o', .slice A' m' c'] 61)
  obtain ⟨g, hg⟩ : ∃ g, w.heap.size = g := ⟨_, rfl⟩
  have x0 : W1.cell? ⟨w.heap.size, 0, none⟩ = some (.int .i64 t) := cell_of_row _ _ 0 _ _ _ hx1
  have x1 : W1.cell? ⟨w.heap.size, 1, none⟩ = some (.int .i64 n) := cell_of_row _ _ 1 _ _ _ hx1
  have y0 : W1.cell? ⟨w.heap.size + 1, 0, none⟩ = some (.int .i64 t') := cell_of_row _ _ 0 _ _ _ hy1
  have y1 : W1.cell? ⟨w.heap.size + 1, 1, none⟩ = some (.int .i64 n') := cell_of_row _ _ 1 _ _ _ hy1
  have HB1 := hid hb1
  have HW1 := hid hW1
  have HG := hid hg
  have hl1 := box_lt hx1
  have hl2 := box_lt hy1
  clear hb1 hx1 hy1 hg hW1
  go_enter Try.func31, Try.ntmps31
  go_wp2_with fail
  rw [HW1.out]
  go_region_held3 (fun X => X.cell? ⟨w.heap.size, 0, none⟩ = some (.int .i64 t) ∧ X.cell? ⟨w.heap.size, 1, none⟩ = some (.int .i64 n) ∧ X.cell? ⟨w.heap.size + 1, 0, none⟩ = some (.int .i64 t') ∧ X.cell? ⟨w.heap.size + 1, 1, none⟩ = some (.int .i64 n')) (go_keep)
    (first
      | (go_at_call 43; refine (cmp_any _ _ _).mono ?_; rintro e wa ⟨rfl, rfl⟩)
      | (go_at_call 42; refine (or_any (cmpI t t') (cmpI n n') _ _ (by simp) (by simp)).mono ?_; rintro e wb ⟨rfl, rfl⟩))
  go_wp2
  go_ret
  exact ⟨rfl, (HB1.out.alloc HB1.out.size _).drew⟩
end Go.Proofs.Ytjpfogdfgcfkcaa
