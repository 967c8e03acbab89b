/- Writes as arguments opened. -/
import Derived.Test.YtbcnikmhodkbfaaU
import Derived.Deep.Strs
namespace Go.Proofs.Ytbcnikmhodkbfaa
open Go.ChangeShapes Go.WideShapes Go.ChangeAt Go.RowKit Go.Deep

theorem cells42 : Try.prog.cellsOf 42 = 3 := by kernel_rfl
theorem read38 : Try.prog.readableRec 38 = true := by kernel_rfl
theorem row38 : 38 < Try.prog.types.size := of_decide_eq_true (by kernel_rfl)
variable {H : Type} {enc : TypeId × Value → H} {W : World}
set_option maxRecDepth 100000 in
theorem wri_of_fuel {fuel : Nat} {A : Option Addr} {n c : Nat} {x : DataW H × List MemPlace} (hf : DataW.trod enc Try.prog W 0 (fun _ => true) true fuel 38 [.slice A n c] = some x) : ∃ l, WrsA W (.slice A n c) l := by
  obtain ⟨l, _, h8, ha⟩ := arr_of_fuel (α := Wri) Try.underlying38 cells42 (by decide) cWri (fun x => Sec W x.d x.l ∧ NilOk x.d ∧ R64 x.v ∧ R64 x.s) (fun _ cs _ h => by
    obtain ⟨y0, y1, y2, m, _, hl, h0, h1, h2⟩ := Go.Deep.trod_struct3 Try.underlying42 h
    rw [cells42] at hl
    match cs, hl with
    | [c0, c1, c2], _ =>
      simp only [cells3, cells40, List.drop, List.take] at h0 h1 h2
      obtain ⟨a, ea, ra⟩ := i64_of h0
      obtain ⟨b, eb, rb⟩ := i64_of h1
      injection ea with ea _
      injection eb with eb _
      subst ea eb
      obtain ⟨A, n, k, rfl, hk⟩ := slice_of Try.underlying40 h2
      obtain ⟨ll, hll⟩ := sec_of_fuel h2
      exact ⟨⟨a, b, _, ll⟩, rfl, hll, hk, ra, rb⟩) (fun _ _ => rfl) hf
  exact ⟨l, h8, ha⟩
set_option maxRecDepth 100000 in
theorem wri_of_trod {base : Nat} {v : Value} {d : DataW H} {p : List MemPlace} (hv : Value.okWide Try.prog W .any base 38 v) (h : DataW.Trod enc Try.prog W 0 (fun _ => true) true 38 v d p) : ∃ l, WrsA W v l := by
  obtain ⟨a0, len0, cap0, rfl⟩ := okWide_slice Try.underlying38 hv
  obtain ⟨fuel, hf⟩ := h
  exact wri_of_fuel hf
end Go.Proofs.Ytbcnikmhodkbfaa
