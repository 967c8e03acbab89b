/- Size, over, next, number of a sector. -/
import Derived.Test.YtcmmkeadbedooaaC
import Derived.Test.YtcmmkeadbedooaaD
namespace Go.Proofs.Ytcmmkeadbedooaa
open Go.RowKit Go.Lib

/-- What Size answers. -/
def szI (n : Int) : Int := if n < 0 ∨ 4096 < n then 0 else (n + 10) / 4
theorem szI_nat {n : Nat} (h : n ≤ 4096) : szI (n : Int) = (size n : Int) := by
  unfold szI size; rw [if_neg (by omega)]; omega
set_option maxHeartbeats 2000000 in
theorem size_any (n : Int) (w : World) : Calls Try.prog 12 #[.int .i64 n] w fun e w' => e = .returned (.int .i64 (szI n)) ∧ w = w' := by
  by_cases h0 : n < 0
  · have d0 : decide (n < 0) = true := decide_eq_true h0
    have HC : Hid (szI n = 0) := hid (by unfold szI; rw [if_pos (.inl h0)])
    go_enter Try.func12, Try.ntmps12
    go_wp2
    go_ret
    exact ⟨by rw [HC.out]; rfl, rfl⟩
  · have d0 : decide (n < 0) = false := decide_eq_false h0
    by_cases h1 : 4096 < n
    · have d1 : decide (4096 < n) = true := decide_eq_true h1
      have HC : Hid (szI n = 0) := hid (by unfold szI; rw [if_pos (.inr h1)])
      go_enter Try.func12, Try.ntmps12
      go_wp2
      go_ret
      exact ⟨by rw [HC.out]; rfl, rfl⟩
    · have d1 : decide (4096 < n) = false := decide_eq_false h1
      have HC : Hid (szI n = (n + 10) / 4) := hid (by unfold szI; rw [if_neg (by omega)])
      go_enter Try.func12, Try.ntmps12
      go_wp2
      go_ret
      exact ⟨ret_int (by rw [HC.out]; congr 1; omega), rfl⟩
theorem rsize_any (n : Int) (w : World) : Calls Try.prog 13 #[.int .i64 n] w fun e w' => e = .returned (.int .i64 (szI n)) ∧ w = w' := by
  by_cases h0 : n < 0
  · have d0 : decide (n < 0) = true := decide_eq_true h0
    have HC : Hid (szI n = 0) := hid (by unfold szI; rw [if_pos (.inl h0)])
    go_enter Try.func13, Try.ntmps13
    go_wp2
    go_ret
    exact ⟨by rw [HC.out]; rfl, rfl⟩
  · have d0 : decide (n < 0) = false := decide_eq_false h0
    by_cases h1 : 4096 < n
    · have d1 : decide (4096 < n) = true := decide_eq_true h1
      have HC : Hid (szI n = 0) := hid (by unfold szI; rw [if_pos (.inr h1)])
      go_enter Try.func13, Try.ntmps13
      go_wp2
      go_ret
      exact ⟨by rw [HC.out]; rfl, rfl⟩
    · have d1 : decide (4096 < n) = false := decide_eq_false h1
      have HC : Hid (szI n = (n + 10) / 4) := hid (by unfold szI; rw [if_neg (by omega)])
      go_enter Try.func13, Try.ntmps13
      go_wp2
      go_ret
      exact ⟨ret_int (by rw [HC.out]; congr 1; omega), rfl⟩

/- The stream's box: what is left of it, and the whole. -/
/-- The values of the two fields. -/
theorem over_any (A : Option Addr) (n c : Nat) (w : World) :
    Calls Try.prog 25 #[.slice A n c] w fun e w' => e = .returned (.agg #[.slice A n c, .slice A n c]) ∧ Below w.heap.size w w' := by
  go_enter Try.func25, Try.ntmps25
  go_wp2
  refine bodyPost_ret (results_cell_row rfl _ _ w.heap.size 62 #[.slice A n c, .slice A n c] (0, 0) _ rfl (heap_alloc_new _ _) Try.underlying62 rfl rfl) rfl ?_
  exact ⟨rfl, al1 _ _⟩

set_option maxHeartbeats 2000000 in
set_option maxRecDepth 100000 in
theorem next_any (g : Nat) (A : Option Addr) (len cap k : Nat) (u : Value) (w : World) (hb : w.heap[g]? = some (.cells #[.slice A len cap, u] 62)) (hk : k ≤ len) (hc : len ≤ cap) :
    Calls Try.prog 27 #[.pointer (some ⟨g, 0, none⟩), .int .i64 (k : Int)] w fun e w' => e = .returned (.slice A k cap) ∧ w' = w.setCell ⟨g, 0, none⟩ (.slice (fromA A cap k) (len - k) (cap - k)) := by
  have c0 : w.cell? ⟨g, 0, none⟩ = some (.slice A len cap) := cell_of_row _ _ 0 _ _ _ hb
  have f0 := box_fr hb 0
  have hr1 := run_slice_to A len cap k (by omega)
  have hr2 := run_slice_from A len cap k hk
  have d0 : decide ((len : Int) < (k : Int)) = false := by simp; omega
  clear hb
  go_enter Try.func27, Try.ntmps27
  go_wp2
  go_ret
  exact ⟨rfl, rfl⟩

/- Numbers by their bytes. -/
theorem ge_take {l : List Nat} {k x : Nat} (h : l[k]? = some x) : ge (l.take (k + 1)) = ge (l.take k) + x * 256 ^ k := by
  have hk := (List.getElem?_eq_some_iff.1 h).1
  rw [take_succ' h, ge_snoc, List.length_take, Nat.min_eq_left (by omega)]
theorem pow256 (k : Nat) : (2 : Nat) ^ (8 * k) = 256 ^ k := Nat.pow_mul 2 8 k
theorem or_shift {m x k : Nat} (hm : m < 256 ^ k) : m ||| x * 256 ^ k = m + x * 256 ^ k := by
  have h := Nat.two_pow_add_eq_or_of_lt (i := 8 * k) (b := m) (by rw [pow256]; exact hm) x
  rw [pow256] at h
  rw [Nat.or_comm, Nat.mul_comm, ← h, Nat.add_comm]
theorem pow_le4 {k : Nat} (hk : k < 4) : 256 ^ k ≤ 16777216 := by
  have : 256 ^ k ≤ 256 ^ 3 := Nat.pow_le_pow_right (by omega) (by omega)
  simpa using this
theorem weigh_le {m x k : Nat} (hm : m < 256 ^ k) (hx : x < 256) : m + x * 256 ^ k < 256 ^ (k + 1) := by
  rw [Nat.pow_succ]
  have h2 : x * 256 ^ k ≤ 255 * 256 ^ k := Nat.mul_le_mul_right _ (by omega)
  omega
theorem pow_le4' {k : Nat} (hk : k < 4) : 256 ^ (k + 1) ≤ 4294967296 := by
  have : 256 ^ (k + 1) ≤ 256 ^ 4 := Nat.pow_le_pow_right (by omega) (by omega)
  simpa using this
end Go.Proofs.Ytcmmkeadbedooaa
