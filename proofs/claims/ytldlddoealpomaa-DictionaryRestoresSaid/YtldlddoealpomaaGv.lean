/- Arguments opened: sectors, a sector. -/
import Derived.Test.YtldlddoealpomaaGu
namespace Go.Proofs.Ytldlddoealpomaa.Rl
open Go.ChangeShapes Go.WideShapes Go.ChangeAt Go.RowKit Go.Deep

theorem readSec : Try.prog.readableRec 33 = true := by kernel_rfl
theorem rowSec : 33 < Try.prog.types.size := of_decide_eq_true (by kernel_rfl)
theorem readOne : Try.prog.readableRec 44 = true := by kernel_rfl
theorem rowOne : 44 < Try.prog.types.size := of_decide_eq_true (by kernel_rfl)
variable {H : Type} {enc : TypeId × Value → H} {W : World}
set_option maxRecDepth 100000 in
theorem sec_of_trod {base : Nat} {v : Value} {d : DataW H} {p : List MemPlace} (hv : Value.okWide Try.prog W .any base 33 v) (h : DataW.Trod enc Try.prog W 0 (fun _ => true) true 33 v d p) : ∃ l, Sec W v l := by
  obtain ⟨a0, len0, cap0, rfl⟩ := okWide_slice Try.underlying33 hv
  obtain ⟨fuel, hf⟩ := h
  exact sec_of_fuel hf
set_option maxRecDepth 100000 in
theorem one_of_trod {base : Nat} {v : Value} {d : DataW H} {p : List MemPlace} (hv : Value.okWide Try.prog W .any base 44 v) (h : DataW.Trod enc Try.prog W 0 (fun _ => true) true 44 v d p) : ∃ s : List Nat, v = .agg (cSec s).toArray ∧ s.length = 8 ∧ B8 s := by
  have h41 : ∃ cs, v = .agg cs := by
    simp only [Value.okWide, Try.underlying44] at hv
    obtain ⟨cs, h1, _⟩ := hv
    exact ⟨cs, h1⟩
  obtain ⟨cs0, rfl⟩ := h41
  obtain ⟨fuel, hf⟩ := h
  obtain ⟨s, hs, hl, h8⟩ := sector_of hf
  refine ⟨s, ?_, hl, h8⟩
  have : cs0.toList = cSec s := by simpa [Value.cells] using hs
  rw [← this]
end Go.Proofs.Ytldlddoealpomaa.Rl
