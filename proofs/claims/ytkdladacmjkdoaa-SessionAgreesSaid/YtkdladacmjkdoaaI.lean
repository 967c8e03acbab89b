/- handlingOf. -/
import Derived.Test.YtkdladacmjkdoaaF
import Derived.Test.YtkdladacmjkdoaaE
import Derived.Laws.EntriesVeiled
namespace Go.Proofs.Ytkdladacmjkdoaa
open Go.RowKit Go.Lib
/-- What is done about a kind of message. -/
def handV (g : Nat) (k : Int) : Value :=
  if k = 5 then .func (.func 40) #[.pointer (some ⟨g, 0, none⟩)] #[] else if k = 6 then .func (.func 41) #[.pointer (some ⟨g, 0, none⟩)] #[] else if k = 7 then .func (.func 42) #[.pointer (some ⟨g, 0, none⟩)] #[] else .nilFunc
set_option maxHeartbeats 4000000 in
set_option maxRecDepth 100000 in
theorem handlingOf_any (g : Nat) (k : Int) (w : World) : Calls Try.prog 39 #[.pointer (some ⟨g, 0, none⟩), .int .i64 k] w fun e w' => e = .returned (handV g k) ∧ Below w.heap.size w w' := by
  have hmf : ∀ (fn : Fn) (first cap : Array Value) (w : World), (Instr.makeFunc fn first cap).run Try.prog w = .ok (.func fn first cap) w := fun _ _ _ _ => rfl
  have HB := hid (fun (x : Obj) => al1 w x)
  unfold handV
  by_cases a1 : k < 0
  · have b1 : decide (k < 0) = true := decide_eq_true a1
    rw [if_neg (by omega), if_neg (by omega), if_neg (by omega)]
    go_enter Try.func39, Try.ntmps39
    go_wp2_with fail
    go_ret
    exact ⟨rfl, HB.out _⟩
  have b1 : decide (k < 0) = false := decide_eq_false a1
  by_cases a2 : 8 ≤ k
  · have b2 : decide (8 ≤ k) = true := decide_eq_true a2
    rw [if_neg (by omega), if_neg (by omega), if_neg (by omega)]
    go_enter Try.func39, Try.ntmps39
    go_wp2_with fail
    go_ret
    exact ⟨rfl, HB.out _⟩
  have hk : k = 0 ∨ k = 1 ∨ k = 2 ∨ k = 3 ∨ k = 4 ∨ k = 5 ∨ k = 6 ∨ k = 7 := by omega
  clear a1 a2 b1
  rcases hk with rfl | rfl | rfl | rfl | rfl | rfl | rfl | rfl
  all_goals
    go_enter Try.func39, Try.ntmps39
    go_wp2_with fail
    go_ret
    exact ⟨rfl, HB.out _⟩
end Go.Proofs.Ytkdladacmjkdoaa
