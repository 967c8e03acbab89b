/- Arguments: small numbers, arrays of four bytes, nil slices. -/
import Derived.Test.YtgkcdmbhniipdaaK
import Derived.Test.YtgkcdmbhniipdaaM
import Derived.Laws.IdiomArrays
namespace Go.Proofs.Ytgkcdmbhniipdaa
open Go.ChangeShapes Go.WideShapes Go.ChangeAt Go.RowKit Go.Deep

theorem cells41 : Try.prog.cellsOf 41 = 4 := by kernel_rfl
theorem read41 : Try.prog.readableRec 41 = true := by kernel_rfl
theorem row41 : 41 < Try.prog.types.size := of_decide_eq_true (by kernel_rfl)
theorem u8_nat {x : Int} (h : (Lit.int .u8 x).wf = true) : ∃ y : Nat, x = (y : Int) ∧ y < 256 := by
  have hb := bounds_u8 h
  obtain ⟨y, rfl⟩ := Int.eq_ofNat_of_zero_le hb.1
  exact ⟨y, rfl, by omega⟩
theorem u16_nat {x : Int} (h : (Lit.int .u16 x).wf = true) : ∃ y : Nat, x = (y : Int) ∧ y < 65536 := by
  have hb := bounds_u16 h
  obtain ⟨y, rfl⟩ := Int.eq_ofNat_of_zero_le hb.1
  exact ⟨y, rfl, by omega⟩
theorem u64_nat {x : Int} (h : (Lit.int .u64 x).wf = true) : ∃ y : Nat, x = (y : Int) ∧ y < 18446744073709551616 := by
  have hb := bounds_u64 h
  obtain ⟨y, rfl⟩ := Int.eq_ofNat_of_zero_le hb.1
  exact ⟨y, rfl, by omega⟩

variable {H : Type} {enc : TypeId × Value → H} {W : World}
theorem nil_of_trod {base : Nat} {v : Value} {d : DataW H} {p : List MemPlace} (hv : Value.okWide Try.prog W .any base 22 v) (h : DataW.Trod enc Try.prog W 0 (fun _ => true) true 22 v d p) : NilOk v := by
  obtain ⟨a0, len0, cap0, rfl⟩ := okWide_slice Try.underlying22 hv
  obtain ⟨fuel, hf⟩ := h
  intro n c e
  injection e with e1 e2 e3
  subst e1 e2 e3
  rcases open_slice Try.underlying22 hf with ⟨hcs, _⟩ | ⟨a, len, cap, m, n', D, Pl, hcs, _⟩
  · simp [Value.cells] at hcs
    exact hcs.2
  · simp [Value.cells] at hcs
theorem byte_of {fuel base : Nat} {spare : Nat → Bool} {held : Bool} {c : Value} {x : DataW H × List MemPlace} (h : DataW.trod enc Try.prog W base spare held fuel 5 [c] = some x) : ∃ y : Nat, c = .int .u8 (y : Int) ∧ y < 256 := by
  obtain ⟨s, e0, _, w0⟩ := DataW.trod_int Try.underlying5 h
  simp at e0
  obtain ⟨y, rfl, hy⟩ := u8_nat w0
  exact ⟨y, e0, hy⟩
theorem arr4_of_trod {base : Nat} {v : Value} {d : DataW H} {p : List MemPlace} (hv : Value.okWide Try.prog W .any base 41 v) (h : DataW.Trod enc Try.prog W 0 (fun _ => true) true 41 v d p) :
    ∃ b0 b1 b2 b3 : Nat, v = .agg #[.int .u8 (b0 : Int), .int .u8 (b1 : Int), .int .u8 (b2 : Int), .int .u8 (b3 : Int)] ∧ b0 < 256 ∧ b1 < 256 ∧ b2 < 256 ∧ b3 < 256 := by
  have hv' := hv
  simp only [Value.okWide, Try.underlying41] at hv'
  obtain ⟨cs0, rfl, hsz, _⟩ := hv'
  obtain ⟨fuel, hf⟩ := h
  rw [cells41] at hsz
  obtain ⟨L⟩ := cs0
  match L, hsz with
  | [c0, c1, c2, c3], _ =>
    obtain ⟨y0, y1, y2, y3, n, _, h0, h1, h2, h3⟩ := trod_array4 Try.underlying41 cells5 hf
    obtain ⟨b0, rfl, g0⟩ := byte_of h0
    obtain ⟨b1, rfl, g1⟩ := byte_of h1
    obtain ⟨b2, rfl, g2⟩ := byte_of h2
    obtain ⟨b3, rfl, g3⟩ := byte_of h3
    exact ⟨b0, b1, b2, b3, rfl, g0, g1, g2, g3⟩
end Go.Proofs.Ytgkcdmbhniipdaa
