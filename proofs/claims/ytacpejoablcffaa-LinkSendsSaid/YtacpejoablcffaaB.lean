/- Flights as functions on numbers: the fields' check, comparing; a link's configuration; ticks. -/
import Derived.Test.YtacpejoablcffaaA
namespace Go.Proofs.Ytacpejoablcffaa
open Go.RowKit Go.Lib

/-- Is it a time? -/
def timeB (t : Int) : Bool := decide (0 ≤ t ∧ t ≤ 1073741824)
/-- The error of a flight's fields. -/
def fldI (t n : Int) (m : Nat) (next : Int) : Int := if timeB t = false then 24 else if n < 0 ∨ next ≤ n then 2 else if 65536 < m then 5 else 0
def cmpI (x y : Int) : Int := if x < y then -1 else if y < x then 1 else 0
def orI (a b : Int) : Int := if a ≠ 0 then a else b
def cmpE (t n t' n' : Int) : Int := orI (cmpI t t') (cmpI n n')
/-- Are the delays and the rate in their ranges? -/
def cfgB (mn mx rt : Int) : Bool := decide (0 ≤ mn ∧ mn ≤ mx ∧ mx ≤ 1073741824 ∧ 0 ≤ rt ∧ rt ≤ 65536)
set_option maxHeartbeats 4000000 in
set_option maxRecDepth 100000 in
theorem isTime_any (t : Int) (w : World) : Calls Try.prog 35 #[.int .i64 t] w fun e w' => e = .returned (.bool (timeB t)) ∧ w' = w := by
  obtain ⟨b, hb⟩ : ∃ b, timeB t = b := ⟨_, rfl⟩
  rw [hb]
  unfold timeB at hb
  by_cases h0 : 0 ≤ t
  · have d0 : decide (0 ≤ t) = true := decide_eq_true h0
    by_cases h1 : t ≤ 1073741824
    · have d1 : decide (t ≤ 1073741824) = true := decide_eq_true h1
      obtain rfl : true = b := by rw [← hb]; exact (decide_eq_true ⟨h0, h1⟩).symm
      clear hb
      go_enter Try.func35, Try.ntmps35
      go_wp2
      go_ret
      exact ⟨rfl, rfl⟩
    · have d1 : decide (t ≤ 1073741824) = false := decide_eq_false h1
      obtain rfl : false = b := by rw [← hb]; exact (decide_eq_false (fun h => h1 h.2)).symm
      clear hb
      go_enter Try.func35, Try.ntmps35
      go_wp2
      go_ret
      exact ⟨rfl, rfl⟩
  · have d0 : decide (0 ≤ t) = false := decide_eq_false h0
    obtain rfl : false = b := by rw [← hb]; exact (decide_eq_false (fun h => h0 h.1)).symm
    clear hb
    go_enter Try.func35, Try.ntmps35
    go_wp2
    go_ret
    exact ⟨rfl, rfl⟩
set_option maxHeartbeats 4000000 in
set_option maxRecDepth 100000 in
theorem fields_any (t n : Int) (A : Option Addr) (m c : Nat) (next : Int) (w : World) :
    Calls Try.prog 36 #[.agg #[.int .i64 t, .int .i64 n, .slice A m c], .int .i64 next] w fun e w' => e = .returned (.int .i64 (fldI t n m next)) ∧ Below w.heap.size w w' := by
  obtain ⟨W1, hW1⟩ : ∃ W1, w.alloc (.cells #[.int .i64 t, .int .i64 n, .slice A m c] 69) = W1 := ⟨_, rfl⟩
  have hb1 : Below w.heap.size w W1 := by rw [← hW1]; exact al1 _ _
  have hx1 : W1.heap[w.heap.size]? = some (.cells #[.int .i64 t, .int .i64 n, .slice A m c] 69) := by rw [← hW1]; exact heap_alloc_new _ _
  have c0 := cell_of_row _ _ 0 _ _ _ hx1
  have c1 := cell_of_row _ _ 1 _ _ _ hx1
  have c2 := cell_of_row _ _ 2 _ _ _ hx1
  have HB1 := hid hb1
  subst hW1
  clear hb1 hx1
  obtain ⟨b, hb⟩ : ∃ b, timeB t = b := ⟨_, rfl⟩
  have HT := hid (fun W => isTime_any t W)
  rw [hb] at HT
  have HBT := hid hb
  clear hb
  rcases b with _ | _
  · have HF : Hid (fldI t n m next = 24) := hid (by unfold fldI; rw [if_pos HBT.out])
    go_enter Try.func36, Try.ntmps36
    go_wp2_with (first | (go_at_call 35; refine (HT.out _).mono ?_; rintro e w' ⟨rfl, rfl⟩))
    go_ret
    exact ⟨(congrArg (fun r => Ending.returned (.int .i64 r)) HF.out).symm, HB1.out⟩
  have HE : Hid (fldI t n m next = if n < 0 ∨ next ≤ n then 2 else if 65536 < m then 5 else 0) := hid (by unfold fldI; rw [if_neg (by rw [HBT.out]; simp)])
  by_cases h4 : n < 0
  · have d4 : decide (n < 0) = true := decide_eq_true (by omega)
    have HF := hid (HE.out.trans (if_pos (.inl h4)))
    go_enter Try.func36, Try.ntmps36
    go_wp2_with (first | (go_at_call 35; refine (HT.out _).mono ?_; rintro e w' ⟨rfl, rfl⟩))
    go_ret
    exact ⟨(congrArg (fun r => Ending.returned (.int .i64 r)) HF.out).symm, HB1.out⟩
  have d4 : decide (n < 0) = false := decide_eq_false (by omega)
  by_cases h5 : next ≤ n
  · have d5 : decide (next ≤ n) = true := decide_eq_true (by omega)
    have HF := hid (HE.out.trans (if_pos (.inr h5)))
    go_enter Try.func36, Try.ntmps36
    go_wp2_with (first | (go_at_call 35; refine (HT.out _).mono ?_; rintro e w' ⟨rfl, rfl⟩))
    go_ret
    exact ⟨(congrArg (fun r => Ending.returned (.int .i64 r)) HF.out).symm, HB1.out⟩
  have d5 : decide (next ≤ n) = false := decide_eq_false (by omega)
  have HE2 := hid (HE.out.trans (if_neg (by omega)))
  by_cases h6 : 65536 < m
  · have d6 : decide ((65536 : Int) < (m : Int)) = true := decide_eq_true (by omega)
    have HF := hid (HE2.out.trans (if_pos h6))
    go_enter Try.func36, Try.ntmps36
    go_wp2_with (first | (go_at_call 35; refine (HT.out _).mono ?_; rintro e w' ⟨rfl, rfl⟩))
    go_ret
    exact ⟨(congrArg (fun r => Ending.returned (.int .i64 r)) HF.out).symm, HB1.out⟩
  have d6 : decide ((65536 : Int) < (m : Int)) = false := decide_eq_false (by omega)
  have HF := hid (HE2.out.trans (if_neg h6))
  go_enter Try.func36, Try.ntmps36
  go_wp2_with (first | (go_at_call 35; refine (HT.out _).mono ?_; rintro e w' ⟨rfl, rfl⟩))
  go_ret
  exact ⟨(congrArg (fun r => Ending.returned (.int .i64 r)) HF.out).symm, HB1.out⟩
set_option maxRecDepth 100000 in
theorem isNaN_any (x : Int) (w : World) : Calls Try.prog 55 #[.int .i64 x] w fun e w' => e = .returned (.bool false) ∧ w' = w := by
  have d : (x != x) = false := by simp
  go_enter Try.func55, Try.ntmps55
  go_wp2
  go_ret
  exact ⟨rfl, rfl⟩
set_option maxHeartbeats 4000000 in
set_option maxRecDepth 100000 in
theorem cmp_any (x y : Int) (w : World) : Calls Try.prog 51 #[.int .i64 x, .int .i64 y] w fun e w' => e = .returned (.int .i64 (cmpI x y)) ∧ w' = w := by
  by_cases h0 : x < y
  · have d0 : decide (x < y) = true := decide_eq_true h0
    have HF : Hid (cmpI x y = -1) := hid (by unfold cmpI; rw [if_pos h0])
    clear h0
    go_enter Try.func51, Try.ntmps51
    go_wp2_with (first | (go_at_call 55; refine (isNaN_any _ _).mono ?_; rintro e w' ⟨rfl, rfl⟩))
    go_ret
    exact ⟨(congrArg (fun r => Ending.returned (.int .i64 r)) HF.out).symm, rfl⟩
  have d0 : decide (x < y) = false := decide_eq_false h0
  by_cases h1 : y < x
  · have d1 : decide (y < x) = true := decide_eq_true h1
    have HF : Hid (cmpI x y = 1) := hid (by unfold cmpI; rw [if_neg h0, if_pos h1])
    clear h0 h1
    go_enter Try.func51, Try.ntmps51
    go_wp2_with (first | (go_at_call 55; refine (isNaN_any _ _).mono ?_; rintro e w' ⟨rfl, rfl⟩))
    go_ret
    exact ⟨(congrArg (fun r => Ending.returned (.int .i64 r)) HF.out).symm, rfl⟩
  have d1 : decide (y < x) = false := decide_eq_false h1
  have HF : Hid (cmpI x y = 0) := hid (by unfold cmpI; rw [if_neg h0, if_neg h1])
  clear h0 h1
  go_enter Try.func51, Try.ntmps51
  go_wp2_with (first | (go_at_call 55; refine (isNaN_any _ _).mono ?_; rintro e w' ⟨rfl, rfl⟩))
  go_ret
  exact ⟨(congrArg (fun r => Ending.returned (.int .i64 r)) HF.out).symm, rfl⟩
set_option maxHeartbeats 4000000 in
set_option maxRecDepth 100000 in
theorem or_any (a b : Int) (g : Nat) (w : World) (h0 : w.cell? ⟨g, 0, none⟩ = some (.int .i64 a)) (h1 : w.cell? ⟨g, 1, none⟩ = some (.int .i64 b)) :
    Calls Try.prog 50 #[.slice (some ⟨g, 0, none⟩) 2 2] w fun e w' => e = .returned (.int .i64 (orI a b)) ∧ w' = w := by
  go_enter Try.func50, Try.ntmps50
  go_wp2
  go_loopw [8] (fun i wr => ∃ k : Nat, k ≤ 2 ∧ i = .int .i64 (k : Int) ∧ Hid (0 < k → a = 0) ∧ Hid (1 < k → b = 0) ∧ wr = w) (fun i _ => 2 - (Go.RowKit.intOf i).toNat)
  case atStart => exact ⟨0, by omega, rfl, hid (by omega), hid (by omega), rfl⟩
  case round =>
    obtain ⟨k, hk, rfl, H0, H1, rfl⟩ := hrel
    rcases (show k = 0 ∨ k = 1 ∨ k = 2 by omega) with rfl | rfl | rfl
    · by_cases ha : a = 0
      · have d : (a != 0) = false := by rw [ha]; rfl
        have HA := hid ha
        clear ha
        go_wp2
        go_roundw
        case rel => exact ⟨1, by omega, rfl, hid (fun _ => HA.out), hid (by omega), by first | rfl | trivial⟩
        case measure => simp [Go.RowKit.intOf]
      · have d : (a != 0) = true := by rw [bne_iff_ne]; exact ha
        have HF : Hid (orI a b = a) := hid (by unfold orI; rw [if_pos ha])
        clear ha
        go_wp2
        go_ret
        exact ⟨(congrArg (fun r => Ending.returned (.int .i64 r)) HF.out).symm, rfl⟩
    · have ha := H0.out (by omega)
      have HA := hid ha
      by_cases hb : b = 0
      · have d : (b != 0) = false := by rw [hb]; rfl
        have HB := hid hb
        clear hb ha
        go_wp2
        go_roundw
        case rel => exact ⟨2, by omega, rfl, hid (fun _ => HA.out), hid (fun _ => HB.out), by first | rfl | trivial⟩
        case measure => simp [Go.RowKit.intOf]
      · have d : (b != 0) = true := by rw [bne_iff_ne]; exact hb
        have HF : Hid (orI a b = b) := hid (by unfold orI; rw [if_neg (by omega)])
        clear hb ha
        go_wp2
        go_ret
        exact ⟨(congrArg (fun r => Ending.returned (.int .i64 r)) HF.out).symm, rfl⟩
    · have HF : Hid (orI a b = 0) := hid (by have := H0.out (by omega); have := H1.out (by omega); unfold orI; rw [if_neg (by omega)]; omega)
      go_wp2
      go_ret
      exact ⟨(congrArg (fun r => Ending.returned (.int .i64 r)) HF.out).symm, rfl⟩
set_option maxHeartbeats 4000000 in
set_option maxRecDepth 100000 in
theorem cfg_any (mn mx rt : Int) (w : World) : Calls Try.prog 34 #[.agg #[.int .i64 mn, .int .i64 mx, .int .i64 rt]] w fun e w' => e = .returned (.bool (cfgB mn mx rt)) ∧ Below w.heap.size w w' := by
  obtain ⟨b, hb⟩ : ∃ b, cfgB mn mx rt = b := ⟨_, rfl⟩
  rw [hb]
  unfold cfgB at hb
  obtain ⟨W1, hW1⟩ : ∃ W1, w.alloc (.cells #[.int .i64 mn, .int .i64 mx, .int .i64 rt] 23) = W1 := ⟨_, rfl⟩
  have hx1 : W1.heap[w.heap.size]? = some (.cells #[.int .i64 mn, .int .i64 mx, .int .i64 rt] 23) := by rw [← hW1]; exact heap_alloc_new _ _
  have HB1 : Hid (Below w.heap.size w W1) := hid (by rw [← hW1]; exact al1 _ _)
  have c0 := cell_of_row _ _ 0 _ _ _ hx1
  have c1 := cell_of_row _ _ 1 _ _ _ hx1
  have c2 := cell_of_row _ _ 2 _ _ _ hx1
  clear hx1
  subst hW1
  by_cases h0 : 0 ≤ mn
  rotate_left
  · have dh0 : decide (0 ≤ mn) = false := decide_eq_false h0
    obtain rfl : false = b := by rw [← hb]; exact (decide_eq_false (by omega)).symm
    clear hb
    go_enter Try.func34, Try.ntmps34
    go_wp2
    go_ret
    exact ⟨rfl, HB1.out⟩
  have dh0 : decide (0 ≤ mn) = true := decide_eq_true h0
  by_cases h1 : mn ≤ mx
  rotate_left
  · have dh1 : decide (mn ≤ mx) = false := decide_eq_false h1
    obtain rfl : false = b := by rw [← hb]; exact (decide_eq_false (by omega)).symm
    clear hb
    go_enter Try.func34, Try.ntmps34
    go_wp2
    go_ret
    exact ⟨rfl, HB1.out⟩
  have dh1 : decide (mn ≤ mx) = true := decide_eq_true h1
  by_cases h2 : mx ≤ 1073741824
  rotate_left
  · have dh2 : decide (mx ≤ 1073741824) = false := decide_eq_false h2
    obtain rfl : false = b := by rw [← hb]; exact (decide_eq_false (by omega)).symm
    clear hb
    go_enter Try.func34, Try.ntmps34
    go_wp2
    go_ret
    exact ⟨rfl, HB1.out⟩
  have dh2 : decide (mx ≤ 1073741824) = true := decide_eq_true h2
  by_cases h3 : 0 ≤ rt
  rotate_left
  · have dh3 : decide (0 ≤ rt) = false := decide_eq_false h3
    obtain rfl : false = b := by rw [← hb]; exact (decide_eq_false (by omega)).symm
    clear hb
    go_enter Try.func34, Try.ntmps34
    go_wp2
    go_ret
    exact ⟨rfl, HB1.out⟩
  have dh3 : decide (0 ≤ rt) = true := decide_eq_true h3
  by_cases h4 : rt ≤ 65536
  rotate_left
  · have dh4 : decide (rt ≤ 65536) = false := decide_eq_false h4
    obtain rfl : false = b := by rw [← hb]; exact (decide_eq_false (by omega)).symm
    clear hb
    go_enter Try.func34, Try.ntmps34
    go_wp2
    go_ret
    exact ⟨rfl, HB1.out⟩
  have dh4 : decide (rt ≤ 65536) = true := decide_eq_true h4
  obtain rfl : true = b := by rw [← hb]; exact (decide_eq_true ⟨h0, h1, h2, h3, h4⟩).symm
  clear hb
  go_enter Try.func34, Try.ntmps34
  go_wp2
  go_ret
  exact ⟨rfl, HB1.out⟩
/-- How long the transmission of some bytes takes. -/
def tik (m : Nat) (rate : Int) : Int := if rate = 0 then 0 else ((m : Int) + rate - 1) / rate
set_option maxHeartbeats 4000000 in
set_option maxRecDepth 100000 in
theorem ticks_any (m : Nat) (rate : Int) (w : World) (hm : m ≤ 1000000) (h0 : 0 ≤ rate) (h1 : rate ≤ 1000000) : Calls Try.prog 41 #[.int .i64 (m : Int), .int .i64 rate] w fun e w' => e = .returned (.int .i64 (tik m rate)) ∧ w' = w := by
  by_cases hr : rate = 0
  · have dr : (rate == 0) = true := by rw [beq_iff_eq]; exact hr
    have HF : Hid (tik m rate = 0) := hid (by unfold tik; rw [if_pos hr])
    clear hr
    go_enter Try.func41, Try.ntmps41
    go_wp2
    go_ret
    exact ⟨(congrArg (fun r => Ending.returned (.int .i64 r)) HF.out).symm, rfl⟩
  · have dr : (rate == 0) = false := by rw [beq_eq_false_iff_ne]; exact hr
    have hp : 0 < rate := by omega
    have HF : Hid (tik m rate = ((m : Int) + rate - 1) / rate) := hid (by unfold tik; rw [if_neg hr])
    clear hr
    go_enter Try.func41, Try.ntmps41
    go_wp2
    go_ret
    exact ⟨(congrArg (fun r => Ending.returned (.int .i64 r)) HF.out).symm, rfl⟩
set_option maxHeartbeats 4000000 in
set_option maxRecDepth 100000 in
theorem compare_any (t n t' n' : Int) (A A' : Option Addr) (m c m' c' : Nat) (w : World) :
    Calls Try.prog 37 #[.agg #[.int .i64 t, .int .i64 n, .slice A m c], .agg #[.int .i64 t', .int .i64 n', .slice A' m' c']] w fun e w' => e = .returned (.int .i64 (cmpE t n t' n')) ∧ Below w.heap.size w w' := by
  obtain ⟨W1, hW1⟩ : ∃ W1, (w.alloc (.cells #[.int .i64 t, .int .i64 n, .slice A m c] 69)).alloc (.cells #[.int .i64 t', .int .i64 n', .slice A' m' c'] 69) = W1 := ⟨_, rfl⟩
  have hb1 : Below w.heap.size w W1 := by rw [← hW1]; exact ((Below.refl _ w).alloc (Nat.le_refl _) _).alloc (by simp) _
  have hx1 : W1.heap[w.heap.size]? = some (.cells #[.int .i64 t, .int .i64 n, .slice A m c] 69) := by rw [← hW1]; exact (Below.heap_alloc _ _ _ (by simp)).trans (heap_alloc_new w _)
  have hy1 : W1.heap[w.heap.size + 1]? = some (.cells #[.int .i64 t', .int .i64 n', .slice A' m' c'] 69) := by rw [← hW1]; simpa using heap_alloc_new (w.alloc (.cells #[.int .i64 t, .int .i64 n, .slice A m c] 69)) (.cells #[.int .i64 t', .int .i64 n', .slice A' m' c'] 69)
  obtain ⟨g, hg⟩ : ∃ g, w.heap.size = g := ⟨_, rfl⟩
  have x0 : W1.cell? ⟨w.heap.size, 0, none⟩ = some (.int .i64 t) := cell_of_row _ _ 0 _ _ _ hx1
  have x1 : W1.cell? ⟨w.heap.size, 1, none⟩ = some (.int .i64 n) := cell_of_row _ _ 1 _ _ _ hx1
  have y0 : W1.cell? ⟨w.heap.size + 1, 0, none⟩ = some (.int .i64 t') := cell_of_row _ _ 0 _ _ _ hy1
  have y1 : W1.cell? ⟨w.heap.size + 1, 1, none⟩ = some (.int .i64 n') := cell_of_row _ _ 1 _ _ _ hy1
  have HB1 := hid hb1
  have HW1 := hid hW1
  have HG := hid hg
  have hl1 := box_lt hx1
  have hl2 := box_lt hy1
  clear hb1 hx1 hy1 hg hW1
  go_enter Try.func37, Try.ntmps37
  go_wp2_with fail
  rw [HW1.out]
  go_region_held3 (fun X => X.cell? ⟨w.heap.size, 0, none⟩ = some (.int .i64 t) ∧ X.cell? ⟨w.heap.size, 1, none⟩ = some (.int .i64 n) ∧ X.cell? ⟨w.heap.size + 1, 0, none⟩ = some (.int .i64 t') ∧ X.cell? ⟨w.heap.size + 1, 1, none⟩ = some (.int .i64 n')) (go_keep)
    (first
      | (go_at_call 51; refine (cmp_any _ _ _).mono ?_; rintro e wa ⟨rfl, rfl⟩)
      | (go_at_call 50; refine (or_any (cmpI t t') (cmpI n n') _ _ (by simp) (by simp)).mono ?_; rintro e wb ⟨rfl, rfl⟩))
  go_wp2
  go_ret
  exact ⟨rfl, (HB1.out.alloc HB1.out.size _).drew⟩
end Go.Proofs.Ytacpejoablcffaa
