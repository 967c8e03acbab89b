/- Superblock: replace 28, Capacity 26 and 30. -/
import Derived.Test.YtnocgfhcamnjdaaP
namespace Go.Proofs.Ytnocgfhcamnjdaa
open Go.RowKit Go.Lib

/-- The operations that write sectors durably. -/
def repO (a : Int) (v : Value) (l : List Sect) : List OpT := [⟨0, a, v, l⟩, ⟨1, 0, .slice none 0 0, []⟩]
theorem capacity_any (w : World) : Calls Try.prog 26 #[] w fun e w' => e = .returned (.int .i64 31) ∧ w' = w := by
  go_enter Try.func26, Try.ntmps26
  go_wp2_with fail
  go_ret
  exact ⟨rfl, rfl⟩
theorem refCapacity_any (w : World) : Calls Try.prog 30 #[] w fun e w' => e = .returned (.int .i64 31) ∧ w' = w := by
  go_enter Try.func30, Try.ntmps30
  go_wp2_with fail
  go_ret
  exact ⟨rfl, rfl⟩
set_option maxHeartbeats 2000000 in
set_option maxRecDepth 100000 in
theorem replace_any (a : Int) (v : Value) (l : List Sect) (w : World) (hv : Sec w v l) :
    Calls Try.prog 28 #[.int .i64 a, v] w fun e w' => ∃ u, e = .returned u ∧ w'.ownsRow w.heap.size 75 3 u 2 ((repO a v l).map cOp).flatten ∧ Below w.heap.size w w' := by
  obtain ⟨A, c, rfl⟩ := sec_form hv
  clear hv
  go_enter Try.func28, Try.ntmps28
  go_wp2_with fail
  go_ret
  refine ⟨_, rfl, ⟨rfl, .inr ⟨w.heap.size, 2, _, rfl, Nat.le_refl _, heap_alloc_new w _, Nat.le_refl _, by unfold maxLen; omega, rfl, rfl⟩⟩, al1 _ _⟩
end Go.Proofs.Ytnocgfhcamnjdaa
