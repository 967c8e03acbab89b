/- Sample's contracts with the result named. -/
import Derived.Test.YtlbcidgmdfcamaaH
namespace Go.Proofs.Ytlbcidgmdfcamaa
open Go.RowKit Go.Lib
def TrueQ (w : World) (f : Ending) (w' : World) : Prop := f = .returned (.bool true) ∧ Below w.heap.size w w'
theorem sample_n {e r : Est} {t c : Int} (h : smp e t = (r, c)) (W : World) : Calls Try.prog 10 #[ev e, .int .i64 t] W fun f w' => f = .returned (.tuple #[ev r, .int .i64 c]) ∧ Below W.heap.size W w' := by
  have h' := sample_any e t W
  rw [h] at h'
  exact h'
theorem rsample_n {e r : Est} {t c : Int} (h : smp e t = (r, c)) (W : World) : Calls Try.prog 11 #[ev e, .int .i64 t] W fun f w' => f = .returned (.tuple #[ev r, .int .i64 c]) ∧ Below W.heap.size W w' := by
  have h' := rsample_any e t W
  rw [h] at h'
  exact h'
end Go.Proofs.Ytlbcidgmdfcamaa
