/- Sectors that came in, with what a nil slice is. -/
import Derived.Test.YtcmmkeadbedooaaV
namespace Go.Proofs.Ytcmmkeadbedooaa
open Go.ChangeShapes Go.WideShapes Go.ChangeAt Go.RowKit Go.Deep

variable {H : Type} {enc : TypeId × Value → H} {W : World}
set_option maxRecDepth 100000 in
theorem secn_of_trod {base : Nat} {v : Value} {d : DataW H} {p : List MemPlace} (hv : Value.okWide Try.prog W .any base 28 v) (h : DataW.Trod enc Try.prog W 0 (fun _ => true) true 28 v d p) : ∃ l, Sec W v l ∧ NilOk v := by
  obtain ⟨a0, len0, cap0, rfl⟩ := okWide_slice Try.underlying28 hv
  obtain ⟨fuel, hf⟩ := h
  obtain ⟨l, hl⟩ := sec_of_fuel hf
  refine ⟨l, hl, ?_⟩
  obtain ⟨A, n, k, e, hk⟩ := slice_of Try.underlying28 hf
  rw [e]; exact hk
end Go.Proofs.Ytcmmkeadbedooaa
