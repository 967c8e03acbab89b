/- An argument that is an extent, opened. -/
import Derived.Test.YtbifhcjkdfocaaaDoorQb
import Derived.Test.YtbifhcjkdfocaaaDoorPa
namespace Go.Proofs.YtbifhcjkdfocaaaDoor
open Go.ChangeShapes Go.WideShapes Go.ChangeAt Go.RowKit Go.Deep
variable {H : Type} {enc : TypeId × Value → H} {W : World}
theorem extent_of_trod {base : Nat} {v : Value} {d : DataW H} {p : List MemPlace} (hv : Value.okWide Tryd.prog W .any base 39 v) (h : DataW.Trod enc Tryd.prog W 0 (fun _ => true) true 39 v d p) : ∃ a c, v = .agg #[.int .i64 a, .int .i64 c] ∧ R64 a ∧ R64 c := by
  obtain ⟨cs0, rfl, hsz⟩ := okWide_struct Tryd.underlying39 hv
  obtain ⟨fuel, hf⟩ := h
  obtain ⟨s, n, hcs, h1, h2⟩ := one_ext hf
  obtain ⟨L⟩ := cs0
  refine ⟨s, n, ?_, h1, h2⟩
  simp only [Value.cells] at hcs
  have : L = [.int .i64 s, .int .i64 n] := hcs
  rw [this]
end Go.Proofs.YtbifhcjkdfocaaaDoor
