/- Arguments that are lists of extents, opened; and the last step of a row whose law answers a bool. -/
import Derived.Test.YtkchenhkolpinaaH
import Derived.ProofKit
import Derived.Deep.Slices
import Derived.OpenShut
import Derived.KernelRfl
namespace Go.Proofs.Ytkchenhkolpinaa
open Go.ChangeShapes Go.WideShapes Go.ChangeAt Go.RowKit Go.Deep

theorem Try.own : ownKnob Try.prog.godebug = none := by kernel_rfl
theorem Try.laidOut : laidOutB Try.prog = true := by kernel_rfl
theorem cells44 : Try.prog.cellsOf 44 = 2 := by kernel_rfl
theorem cells3 : Try.prog.cellsOf 3 = 1 := by kernel_rfl
theorem read22 : Try.prog.readableRec 22 = true := by kernel_rfl
theorem row22 : 22 < Try.prog.types.size := of_decide_eq_true (by kernel_rfl)

theorem r64_wf {x : Int} (h : (Lit.int .i64 x).wf = true) : R64 x := by
  have := bounds_i64 h
  unfold R64
  omega

variable {H : Type} {enc : TypeId × Value → H} {W : World}

theorem one_ext {fuel base : Nat} {spare : Nat → Bool} {held : Bool} {cs : List Value} {x : DataW H × List MemPlace} (h : DataW.trod enc Try.prog W base spare held fuel 44 cs = some x) : ∃ s n, cs = [.int .i64 s, .int .i64 n] ∧ R64 s ∧ R64 n := by
  obtain ⟨y0, y1, m, _, hl, h0, h1⟩ := trod_struct2 Try.underlying44 h
  rw [cells44] at hl
  match cs, hl with
  | [c0, c1], _ =>
    simp only [cells3, List.drop, List.take] at h0 h1
    obtain ⟨s, e0, _, w0⟩ := DataW.trod_int Try.underlying3 h0
    obtain ⟨n, e1, _, w1⟩ := DataW.trod_int Try.underlying3 h1
    simp at e0 e1
    subst e0 e1
    exact ⟨s, n, rfl, r64_wf w0, r64_wf w1⟩

theorem list_of {p : Nat → (Int × Int) → Prop} : ∀ (n : Nat), (∀ i, i < n → ∃ e, p i e) → ∃ l : List (Int × Int), l.length = n ∧ ∀ i e, l[i]? = some e → p i e := by
  intro n
  induction n with
  | zero => intro _; exact ⟨[], rfl, fun i e h => by simp at h⟩
  | succ n ih =>
    intro h
    obtain ⟨l, hl, hp⟩ := ih fun i hi => h i (by omega)
    obtain ⟨e, he⟩ := h n (by omega)
    refine ⟨l ++ [e], by simp [hl], fun i f hf => ?_⟩
    rcases Nat.lt_or_ge i n with hi | hi
    · rw [List.getElem?_append_left (by omega)] at hf
      exact hp i f hf
    · rw [List.getElem?_append_right (by omega)] at hf
      have hi' : i = n := by
        have := (List.getElem?_eq_some_iff.1 hf).1
        simp at this
        omega
      subst hi'
      simp [hl] at hf
      subst hf
      exact he

theorem ext_of_trod {base : Nat} {v : Value} {d : DataW H} {p : List MemPlace} (hv : Value.okWide Try.prog W .any base 22 v) (h : DataW.Trod enc Try.prog W 0 (fun _ => true) true 22 v d p) : ∃ l, Ext W v l := by
  obtain ⟨a0, len0, cap0, rfl⟩ := okWide_slice Try.underlying22 hv
  obtain ⟨fuel, hf⟩ := h
  rcases open_slice Try.underlying22 hf with ⟨hcs, _⟩ | ⟨a, len, cap, m, n, D, Pl, hcs, _, hlc, hcm, hm, hx, hi⟩
  · simp [Value.cells] at hcs
    obtain ⟨rfl, rfl, rfl⟩ := hcs
    exact ⟨[], ext_nil _⟩
  · simp [Value.cells] at hcs
    obtain ⟨rfl, rfl, rfl⟩ := hcs
    simp only [if_true] at hm
    subst hm
    obtain ⟨l, hl, hq⟩ := list_of (p := fun i e => R64 e.1 ∧ R64 e.2 ∧ W.cell? (a.add (i * 2)) = some (.int .i64 e.1) ∧ W.cell? ((a.add (i * 2)).add 1) = some (.int .i64 e.2)) len0 (fun i hi' => by
      obtain ⟨cs', hc, ht⟩ := hi i (by omega)
      rw [cells44] at hc
      obtain ⟨_, _, hat⟩ := World.cells?_some hc
      obtain ⟨s, n', hcs', hs, hn⟩ := one_ext ht
      subst hcs'
      have h0 := hat 0 (by omega)
      have h1 := hat 1 (by omega)
      have ea : (a.add (i * 2)).add 0 = a.add (i * 2) := by simp [Addr.add]
      rw [ea] at h0
      exact ⟨(s, n'), hs, hn, by simpa using h0, by simpa using h1⟩)
    refine ⟨l, fun e he => ?_, some a, _, by rw [hl], by omega, hcm, ?_⟩
    · obtain ⟨i, hi'⟩ := List.mem_iff_getElem?.1 he
      have := hq i e hi'
      exact ⟨this.1, this.2.1⟩
    · rcases Nat.eq_zero_or_pos len0 with hz | hz
      · exact ⟨0, 0, fun h => by omega, fun i e h => by have := (List.getElem?_eq_some_iff.1 h).1; omega⟩
      · obtain ⟨b, off, spot⟩ := a
        have hsp : spot = none := by
          obtain ⟨e, he⟩ : ∃ e, l[0]? = some e := ⟨l[0]'(by omega), List.getElem?_eq_getElem (by omega)⟩
          have := (hq 0 e he).2.2.1
          simp [Addr.add] at this
          exact World.cell?_spot this
        subst hsp
        have hb : b < W.heap.size := by
          obtain ⟨e, he⟩ : ∃ e, l[0]? = some e := ⟨l[0]'(by omega), List.getElem?_eq_getElem (by omega)⟩
          have hc := (hq 0 e he).2.2.1
          simp [Addr.add] at hc
          unfold World.cell? at hc
          rcases Nat.lt_or_ge b W.heap.size with h | h
          · exact h
          · rw [Array.getElem?_eq_none h] at hc; simp at hc
        refine ⟨b, off, fun _ => ⟨rfl, hb⟩, fun i e he => ?_⟩
        obtain ⟨_, _, h0, h1⟩ := hq i e he
        have ea : ∀ k, (⟨b, off, none⟩ : Addr).add k = ⟨b, off + k, none⟩ := fun k => by unfold Addr.add; split <;> simp_all
        rw [ea] at h0 h1
        have eb : (⟨b, off + i * 2, none⟩ : Addr).add 1 = ⟨b, off + i * 2 + 1, none⟩ := by unfold Addr.add; simp
        rw [eb] at h1
        exact ⟨h0, h1⟩
end Go.Proofs.Ytkchenhkolpinaa
