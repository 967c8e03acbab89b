/- Steps as an argument opened. -/
import Derived.Test.YtlbcidgmdfcamaaO
import Derived.Test.YtlbcidgmdfcamaaU
namespace Go.Proofs.Ytlbcidgmdfcamaa
open Go.ChangeShapes Go.WideShapes Go.ChangeAt Go.RowKit Go.Deep
theorem sqs_of_trod {H : Type} {enc : TypeId × Value → H} {W : World} {base : Nat} {v : Value} {d : DataW H} {p : List MemPlace} (hv : Value.okWide Try.prog W .any base 36 v) (h : DataW.Trod enc Try.prog W 0 (fun _ => true) true 36 v d p) : ∃ l, Sqs W v l := by
  obtain ⟨l, hl⟩ := stps_of_trod hv h
  exact ⟨l, hl⟩
end Go.Proofs.Ytlbcidgmdfcamaa
