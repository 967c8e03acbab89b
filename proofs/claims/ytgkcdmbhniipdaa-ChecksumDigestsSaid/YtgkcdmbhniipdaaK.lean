/- Arguments that are slices of bytes, opened. -/
import Derived.Test.YtgkcdmbhniipdaaJ
import Derived.ProofKit
import Derived.Deep.Slices
import Derived.OpenShut
import Derived.KernelRfl
namespace Go.Proofs.Ytgkcdmbhniipdaa
open Go.ChangeShapes Go.WideShapes Go.ChangeAt Go.RowKit Go.Deep

theorem Try.own : ownKnob Try.prog.godebug = none := by kernel_rfl
theorem Try.laidOut : laidOutB Try.prog = true := by kernel_rfl
theorem cells5 : Try.prog.cellsOf 5 = 1 := by kernel_rfl
theorem cells22 : Try.prog.cellsOf 22 = 1 := by kernel_rfl
theorem read22 : Try.prog.readableRec 22 = true := by kernel_rfl
theorem row22 : 22 < Try.prog.types.size := of_decide_eq_true (by kernel_rfl)

variable {H : Type} {enc : TypeId × Value → H} {W : World}
theorem list_of {α : Type} {p : Nat → α → Prop} : ∀ (n : Nat), (∀ i, i < n → ∃ e, p i e) → ∃ l : List α, l.length = n ∧ ∀ i e, l[i]? = some e → p i e := by
  intro n
  induction n with
  | zero => intro _; exact ⟨[], rfl, fun i e h => by simp at h⟩
  | succ n ih =>
    intro h
    obtain ⟨l, hl, hp⟩ := ih fun i hi => h i (by omega)
    obtain ⟨e, he⟩ := h n (by omega)
    refine ⟨l ++ [e], by simp [hl], fun i f hf => ?_⟩
    rcases Nat.lt_or_ge i n with hi | hi
    · rw [List.getElem?_append_left (by omega)] at hf
      exact hp i f hf
    · rw [List.getElem?_append_right (by omega)] at hf
      have hi' : i = n := by
        have := (List.getElem?_eq_some_iff.1 hf).1
        simp at this
        omega
      subst hi'
      simp [hl] at hf
      subst hf
      exact he
theorem cell_lt {w : World} {b o : Nat} {v : Value} (h : w.cell? ⟨b, o, none⟩ = some v) : b < w.heap.size := by
  unfold World.cell? at h
  rcases Nat.lt_or_ge b w.heap.size with hl | hl
  · exact hl
  · rw [Array.getElem?_eq_none hl] at h; simp at h
theorem add_at (b off k : Nat) : (⟨b, off, none⟩ : Addr).add k = ⟨b, off + k, none⟩ := by unfold Addr.add; split <;> simp_all

theorem byt_of_fuel {fuel : Nat} {A : Option Addr} {n c : Nat} {x : DataW H × List MemPlace} (hf : DataW.trod enc Try.prog W 0 (fun _ => true) true fuel 22 [.slice A n c] = some x) : ∃ l, Byt W (.slice A n c) l := by
  rcases open_slice Try.underlying22 hf with ⟨hcs, _⟩ | ⟨a, len0, cap0, m, n', D, Pl, hcs, _, hlc, hcm, hm, hx, hi⟩
  · simp at hcs
    obtain ⟨rfl, rfl, rfl⟩ := hcs
    exact ⟨[], byt_nil _⟩
  · simp at hcs
    obtain ⟨rfl, rfl, rfl⟩ := hcs
    simp only [if_true] at hm
    subst hm
    obtain ⟨l, hl', hq⟩ := list_of (p := fun i (e : Nat) => e < 256 ∧ W.cell? (a.add i) = some (.int .u8 (e : Int))) n (fun i hi' => by
      obtain ⟨cs', hc, ht⟩ := hi i (by omega)
      rw [cells5] at hc
      obtain ⟨hlen, _, hat⟩ := World.cells?_some hc
      obtain ⟨x, ex, _, wx⟩ := DataW.trod_int Try.underlying5 ht
      subst ex
      have h0 := hat 0 (by omega)
      rw [Nat.mul_one] at h0
      have ea : (a.add i).add 0 = a.add i := by simp [Addr.add]
      rw [ea] at h0
      have hb := bounds_u8 wx
      obtain ⟨y, rfl⟩ := Int.eq_ofNat_of_zero_le hb.1
      exact ⟨y, by omega, by simpa using h0⟩)
    refine ⟨l, fun x hx => ?_, some a, _, by rw [hl'], by omega, hcm, ?_⟩
    · obtain ⟨i, hi'⟩ := List.mem_iff_getElem?.1 hx
      exact (hq i x hi').1
    · rcases Nat.eq_zero_or_pos n with hz | hz
      · exact ⟨0, 0, fun h => by omega, fun i e h => by have := (List.getElem?_eq_some_iff.1 h).1; omega⟩
      · obtain ⟨b, off, spot⟩ := a
        obtain ⟨e, he⟩ : ∃ e, l[0]? = some e := ⟨l[0]'(by omega), List.getElem?_eq_getElem (by omega)⟩
        have hc := (hq 0 e he).2
        have hsp : spot = none := by
          have := hc
          simp [Addr.add] at this
          exact World.cell?_spot this
        subst hsp
        rw [add_at] at hc
        refine ⟨b, off, fun _ => ⟨rfl, cell_lt hc⟩, fun i e he => ?_⟩
        have h0 := (hq i e he).2
        rw [add_at] at h0
        exact h0
theorem byt_of_trod {base : Nat} {v : Value} {d : DataW H} {p : List MemPlace} (hv : Value.okWide Try.prog W .any base 22 v) (h : DataW.Trod enc Try.prog W 0 (fun _ => true) true 22 v d p) : ∃ l, Byt W v l := by
  obtain ⟨a0, len0, cap0, rfl⟩ := okWide_slice Try.underlying22 hv
  obtain ⟨fuel, hf⟩ := h
  exact byt_of_fuel hf
theorem u32_nat {x : Int} (h : (Lit.int .u32 x).wf = true) : ∃ y : Nat, x = (y : Int) ∧ y < 4294967296 := by
  have hb := bounds_u32 h
  obtain ⟨y, rfl⟩ := Int.eq_ofNat_of_zero_le hb.1
  exact ⟨y, rfl, by omega⟩

end Go.Proofs.Ytgkcdmbhniipdaa
