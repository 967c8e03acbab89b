/- Arguments opened: steps. -/
import Derived.Test.YtnocgfhcamnjdaaU
import Derived.Test.YtnocgfhcamnjdaaBh
namespace Go.Proofs.Ytnocgfhcamnjdaa
open Go.ChangeShapes Go.WideShapes Go.ChangeAt Go.RowKit Go.Deep
theorem cells54 : Try.prog.cellsOf 54 = 3 := by kernel_rfl
theorem read54 : Try.prog.readableRec 54 = true := by kernel_rfl
theorem row54 : 54 < Try.prog.types.size := of_decide_eq_true (by kernel_rfl)
theorem read46 : Try.prog.readableRec 46 = true := by kernel_rfl
theorem row46 : 46 < Try.prog.types.size := of_decide_eq_true (by kernel_rfl)
variable {H : Type} {enc : TypeId × Value → H} {W : World}
set_option maxRecDepth 100000 in
theorem step_of_fuel {fuel : Nat} {cs : List Value} {x : DataW H × List MemPlace} (h : DataW.trod enc Try.prog W 0 (fun _ => true) true fuel 54 cs = some x) : ∃ a : StT, cs = cSt a ∧ StOk W a := by
  obtain ⟨y0, y1, y2, m, _, hl, h0, h1, h2⟩ := struct3 Try.underlying54 h
  rw [cells54] at hl
  match cs, hl with
  | [c0, c1, c2], _ =>
    simp only [cells22, cells5, cells52, List.drop, List.take] at h0 h1 h2
    obtain ⟨A, n, k, rfl, hk⟩ := slice_of Try.underlying22 h0
    obtain ⟨q, hq⟩ := byt_of_fuel hk h0
    obtain ⟨y, ey, hy⟩ := byte_of h1
    injection ey with ey _
    obtain ⟨A2, n2, k2, rfl, hk2⟩ := slice_of Try.underlying52 h2
    obtain ⟨l, hl'⟩ := ints_of_fuel hk2 h2
    subst ey
    exact ⟨⟨_, q, y, _, l⟩, rfl, hq, hy, hl'⟩
set_option maxRecDepth 100000 in
theorem steps_of_trod {base : Nat} {v : Value} {d : DataW H} {p : List MemPlace} (hv : Value.okWide Try.prog W .any base 46 v) (h : DataW.Trod enc Try.prog W 0 (fun _ => true) true 46 v d p) : ∃ l, Steps W v l := by
  obtain ⟨a0, len0, cap0, rfl⟩ := okWide_slice Try.underlying46 hv
  obtain ⟨fuel, hf⟩ := h
  obtain ⟨l, _, h8, ha⟩ := arr_of_fuel (α := StT) Try.underlying46 cells54 (by decide) cSt (StOk W) (fun _ _ _ h => step_of_fuel h) (fun _ _ => rfl) hf
  exact ⟨l, h8, ha⟩
set_option maxRecDepth 100000 in
theorem step_of_trod {base : Nat} {v : Value} {d : DataW H} {p : List MemPlace} (hv : Value.okWide Try.prog W .any base 54 v) (h : DataW.Trod enc Try.prog W 0 (fun _ => true) true 54 v d p) : ∃ x, v = .agg (cSt x).toArray ∧ StOk W x := by
  have h24 : ∃ cs, v = .agg cs := by
    simp only [Value.okWide, Try.underlying54] at hv
    obtain ⟨cs, h1, _⟩ := hv
    exact ⟨cs, h1⟩
  obtain ⟨cs0, rfl⟩ := h24
  obtain ⟨fuel, hf⟩ := h
  obtain ⟨a, e, hok⟩ := step_of_fuel hf
  simp only [Value.cells] at e
  obtain ⟨L0⟩ := cs0
  simp only at e
  subst e
  exact ⟨a, rfl, hok⟩
end Go.Proofs.Ytnocgfhcamnjdaa
