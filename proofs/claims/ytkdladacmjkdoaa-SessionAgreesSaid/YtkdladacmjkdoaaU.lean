/- Arguments opened. -/
import Derived.Test.YtkdladacmjkdoaaN
import Derived.ProofKit
import Derived.Deep.Slices
import Derived.OpenShut
import Derived.KernelRfl
import Derived.Laws.IdiomArrays
import Derived.Deep.Strs
import Derived.SizedLaws
namespace Go.Proofs.Ytkdladacmjkdoaa
open Go.ChangeShapes Go.WideShapes Go.ChangeAt Go.RowKit Go.Deep
theorem Try.own : ownKnob Try.prog.godebug = none := by kernel_rfl
theorem Try.laidOut : laidOutB Try.prog = true := by kernel_rfl
theorem cells3 : Try.prog.cellsOf 3 = 1 := by kernel_rfl
variable {H : Type} {enc : TypeId × Value → H} {W : World}
theorem list_of {α : Type} {p : Nat → α → Prop} : ∀ (n : Nat), (∀ i, i < n → ∃ e, p i e) → ∃ l : List α, l.length = n ∧ ∀ i e, l[i]? = some e → p i e := by
  intro n
  induction n with
  | zero => intro _; exact ⟨[], rfl, fun i e h => by simp at h⟩
  | succ n ih =>
    intro h
    obtain ⟨l, hl, hp⟩ := ih fun i hi => h i (by omega)
    obtain ⟨e, he⟩ := h n (by omega)
    refine ⟨l ++ [e], by simp [hl], fun i f hf => ?_⟩
    rcases Nat.lt_or_ge i n with hi | hi
    · rw [List.getElem?_append_left (by omega)] at hf
      exact hp i f hf
    · rw [List.getElem?_append_right (by omega)] at hf
      have hi' : i = n := by
        have := (List.getElem?_eq_some_iff.1 hf).1
        simp at this
        omega
      subst hi'
      simp [hl] at hf
      subst hf
      exact he
theorem cell_lt {w : World} {b o : Nat} {v : Value} (h : w.cell? ⟨b, o, none⟩ = some v) : b < w.heap.size := by
  unfold World.cell? at h
  rcases Nat.lt_or_ge b w.heap.size with hl | hl
  · exact hl
  · rw [Array.getElem?_eq_none hl] at h; simp at h
theorem arr_of_fuel {α : Type} {TS TE : TypeId} {st : Nat} (hu : Try.prog.underlying TS = some (.slice TE)) (hc : Try.prog.cellsOf TE = st) (h0 : 0 < st) (cX : α → List Value) (ok : α → Prop)
    (hel : ∀ (fuel : Nat) (cs : List Value) (x : DataW H × List MemPlace), DataW.trod enc Try.prog W 0 (fun _ => true) true fuel TE cs = some x → ∃ a, cs = cX a ∧ ok a) (hlen : ∀ a, ok a → (cX a).length = st)
    {fuel : Nat} {A : Option Addr} {n c : Nat} {x : DataW H × List MemPlace} (hf : DataW.trod enc Try.prog W 0 (fun _ => true) true fuel TS [.slice A n c] = some x) : ∃ l : List α, l.length = n ∧ (∀ a ∈ l, ok a) ∧ Arr W (.slice A n c) st (l.map cX) := by
  rcases open_slice hu hf with ⟨hcs, _⟩ | ⟨a, len0, cap0, m, n', D, Pl, hcs, _, hlc, hcm, hm, hx, hi⟩
  · simp at hcs
    obtain ⟨rfl, rfl, rfl⟩ := hcs
    exact ⟨[], rfl, (fun a h => by cases h), arr_nil _ _⟩
  · simp at hcs
    obtain ⟨rfl, rfl, rfl⟩ := hcs
    simp only [if_true] at hm
    subst hm
    obtain ⟨l, hl', hq⟩ := list_of (p := fun i (e : α) => ok e ∧ ∀ (j : Nat) (u : Value), (cX e)[j]? = some u → W.cell? ((a.add (i * st)).add j) = some u) n (fun i hi' => by
      obtain ⟨cs', hcc, ht⟩ := hi i (by omega)
      rw [hc] at hcc
      obtain ⟨hlen', _, hat⟩ := World.cells?_some hcc
      obtain ⟨e, rfl, he⟩ := hel _ _ _ ht
      refine ⟨e, he, fun j u hj => ?_⟩
      have hjl := (List.getElem?_eq_some_iff.1 hj).1
      rw [hlen e he] at hjl
      rw [hat j hjl, hj])
    refine ⟨l, hl', fun e he => ?_, some a, _, by rw [List.length_map, hl'], by rw [List.length_map]; omega, hcm, ?_⟩
    · obtain ⟨i, hi'⟩ := List.mem_iff_getElem?.1 he
      exact (hq i e hi').1
    · rcases Nat.eq_zero_or_pos n with hz | hz
      · exact ⟨0, 0, fun h => by rw [List.length_map] at h; omega, fun i r h => by have := (List.getElem?_eq_some_iff.1 h).1; rw [List.length_map] at this; omega⟩
      · obtain ⟨b, off, spot⟩ := a
        obtain ⟨e, he⟩ : ∃ e, l[0]? = some e := ⟨l[0]'(by omega), List.getElem?_eq_getElem (by omega)⟩
        obtain ⟨hoke, hce⟩ := hq 0 e he
        have hle := hlen e hoke
        have hc0 := hce 0 ((cX e)[0]'(by omega)) (List.getElem?_eq_getElem (by omega))
        have hsp : spot = none := by
          have := hc0
          simp [Addr.add] at this
          exact World.cell?_spot this
        subst hsp
        rw [add_at, add_at] at hc0
        refine ⟨b, off, fun _ => ⟨rfl, cell_lt hc0⟩, fun i r hr j u hu => ?_⟩
        rw [List.getElem?_map] at hr
        obtain ⟨e', he', rfl⟩ := Option.map_eq_some_iff.1 hr
        have h0 := (hq i e' he').2 j u hu
        rw [add_at, add_at] at h0
        exact h0
theorem i64_of {fuel : Nat} {cs : List Value} {x : DataW H × List MemPlace} (h : DataW.trod enc Try.prog W 0 (fun _ => true) true fuel 3 cs = some x) : ∃ y : Int, cs = [.int .i64 y] ∧ -9223372036854775808 ≤ y ∧ y ≤ 9223372036854775807 := by
  obtain ⟨s, e0, _, w0⟩ := DataW.trod_int Try.underlying3 h
  have := bounds_i64 w0
  exact ⟨s, e0, by omega, by omega⟩
theorem slice_of {fuel : Nat} {TS TE : TypeId} (hu : Try.prog.underlying TS = some (.slice TE)) {c : Value} {x : DataW H × List MemPlace} (hf : DataW.trod enc Try.prog W 0 (fun _ => true) true fuel TS [c] = some x) : ∃ A n k, c = .slice A n k ∧ NilOk (.slice A n k) := by
  rcases open_slice hu hf with ⟨hcs, _⟩ | ⟨a, len0, cap0, m, n', D, Pl, hcs, _⟩
  · simp at hcs
    exact ⟨_, _, _, hcs, nilOk_nil⟩
  · simp at hcs
    exact ⟨_, _, _, hcs, nilOk_some _ _ _⟩
theorem struct2 {t : TypeId} {f0 f1 : Field} {fuel : Nat} {cs : List Value} {x : DataW H × List MemPlace} (ht : Try.prog.underlying t = some (.struct #[f0, f1])) (h : DataW.trod enc Try.prog W 0 (fun _ => true) true fuel t cs = some x) :
    ∃ y0 y1 n, x.1 = .agg [y0.1, y1.1] ∧ cs.length = Try.prog.cellsOf t ∧ DataW.trod enc Try.prog W 0 (fun _ => true) true n f0.type ((cs.drop f0.offset).take (Try.prog.cellsOf f0.type)) = some y0 ∧
      DataW.trod enc Try.prog W 0 (fun _ => true) true n f1.type ((cs.drop f1.offset).take (Try.prog.cellsOf f1.type)) = some y1 := by
  obtain ⟨xs, n, _, rfl, hl, hlen, hf⟩ := DataW.trod_struct ht h
  match xs, hlen with
  | [y0, y1], _ => exact ⟨y0, y1, n, rfl, hl, by simpa using hf 0 f0 rfl, by simpa using hf 1 f1 rfl⟩
theorem cells23 : Try.prog.cellsOf 23 = 6 := by kernel_rfl
theorem read23 : Try.prog.readableRec 23 = true := by kernel_rfl
theorem row23 : 23 < Try.prog.types.size := of_decide_eq_true (by kernel_rfl)
theorem cells47 : Try.prog.cellsOf 47 = 8 := by kernel_rfl
theorem cells44 : Try.prog.cellsOf 44 = 1 := by kernel_rfl
theorem cells45 : Try.prog.cellsOf 45 = 1 := by kernel_rfl
theorem read47 : Try.prog.readableRec 47 = true := by kernel_rfl
theorem row47 : 47 < Try.prog.types.size := of_decide_eq_true (by kernel_rfl)
theorem struct6 {t : TypeId} {f0 f1 f2 f3 f4 f5 : Field} {fuel : Nat} {cs : List Value} {x : DataW H × List MemPlace} (ht : Try.prog.underlying t = some (.struct #[f0, f1, f2, f3, f4, f5])) (h : DataW.trod enc Try.prog W 0 (fun _ => true) true fuel t cs = some x) :
    ∃ y0 y1 y2 y3 y4 y5 n, cs.length = Try.prog.cellsOf t ∧ DataW.trod enc Try.prog W 0 (fun _ => true) true n f0.type ((cs.drop f0.offset).take (Try.prog.cellsOf f0.type)) = some y0 ∧ DataW.trod enc Try.prog W 0 (fun _ => true) true n f1.type ((cs.drop f1.offset).take (Try.prog.cellsOf f1.type)) = some y1 ∧ DataW.trod enc Try.prog W 0 (fun _ => true) true n f2.type ((cs.drop f2.offset).take (Try.prog.cellsOf f2.type)) = some y2 ∧ DataW.trod enc Try.prog W 0 (fun _ => true) true n f3.type ((cs.drop f3.offset).take (Try.prog.cellsOf f3.type)) = some y3 ∧ DataW.trod enc Try.prog W 0 (fun _ => true) true n f4.type ((cs.drop f4.offset).take (Try.prog.cellsOf f4.type)) = some y4 ∧ DataW.trod enc Try.prog W 0 (fun _ => true) true n f5.type ((cs.drop f5.offset).take (Try.prog.cellsOf f5.type)) = some y5 := by
  obtain ⟨xs, n, _, rfl, hl, hlen, hf⟩ := DataW.trod_struct ht h
  match xs, hlen with
  | [y0, y1, y2, y3, y4, y5], _ => exact ⟨y0, y1, y2, y3, y4, y5, n, hl, by simpa using hf 0 f0 rfl, by simpa using hf 1 f1 rfl, by simpa using hf 2 f2 rfl, by simpa using hf 3 f3 rfl, by simpa using hf 4 f4 rfl, by simpa using hf 5 f5 rfl⟩
theorem struct8 {t : TypeId} {f0 f1 f2 f3 f4 f5 f6 f7 : Field} {fuel : Nat} {cs : List Value} {x : DataW H × List MemPlace} (ht : Try.prog.underlying t = some (.struct #[f0, f1, f2, f3, f4, f5, f6, f7])) (h : DataW.trod enc Try.prog W 0 (fun _ => true) true fuel t cs = some x) :
    ∃ y0 y1 y2 y3 y4 y5 y6 y7 n, cs.length = Try.prog.cellsOf t ∧ DataW.trod enc Try.prog W 0 (fun _ => true) true n f0.type ((cs.drop f0.offset).take (Try.prog.cellsOf f0.type)) = some y0 ∧ DataW.trod enc Try.prog W 0 (fun _ => true) true n f1.type ((cs.drop f1.offset).take (Try.prog.cellsOf f1.type)) = some y1 ∧ DataW.trod enc Try.prog W 0 (fun _ => true) true n f2.type ((cs.drop f2.offset).take (Try.prog.cellsOf f2.type)) = some y2 ∧ DataW.trod enc Try.prog W 0 (fun _ => true) true n f3.type ((cs.drop f3.offset).take (Try.prog.cellsOf f3.type)) = some y3 ∧ DataW.trod enc Try.prog W 0 (fun _ => true) true n f4.type ((cs.drop f4.offset).take (Try.prog.cellsOf f4.type)) = some y4 ∧ DataW.trod enc Try.prog W 0 (fun _ => true) true n f5.type ((cs.drop f5.offset).take (Try.prog.cellsOf f5.type)) = some y5 ∧ DataW.trod enc Try.prog W 0 (fun _ => true) true n f6.type ((cs.drop f6.offset).take (Try.prog.cellsOf f6.type)) = some y6 ∧ DataW.trod enc Try.prog W 0 (fun _ => true) true n f7.type ((cs.drop f7.offset).take (Try.prog.cellsOf f7.type)) = some y7 := by
  obtain ⟨xs, n, _, rfl, hl, hlen, hf⟩ := DataW.trod_struct ht h
  match xs, hlen with
  | [y0, y1, y2, y3, y4, y5, y6, y7], _ => exact ⟨y0, y1, y2, y3, y4, y5, y6, y7, n, hl, by simpa using hf 0 f0 rfl, by simpa using hf 1 f1 rfl, by simpa using hf 2 f2 rfl, by simpa using hf 3 f3 rfl, by simpa using hf 4 f4 rfl, by simpa using hf 5 f5 rfl, by simpa using hf 6 f6 rfl, by simpa using hf 7 f7 rfl⟩
set_option maxRecDepth 100000 in
theorem ses_of_trod {base : Nat} {v : Value} {d : DataW H} {p : List MemPlace} (hv : Value.okWide Try.prog W .any base 23 v) (h : DataW.Trod enc Try.prog W 0 (fun _ => true) true 23 v d p) : ∃ s : Ses, v = sv s := by
  have h24 : ∃ cs, v = .agg cs := by
    simp only [Value.okWide, Try.underlying23] at hv
    obtain ⟨cs, h1, _⟩ := hv
    exact ⟨cs, h1⟩
  obtain ⟨cs0, rfl⟩ := h24
  obtain ⟨fuel, hf⟩ := h
  obtain ⟨y0, y1, y2, y3, y4, y5, m, hl, h0, h1, h2, h3, h4, h5⟩ := struct6 Try.underlying23 hf
  rw [cells23] at hl
  simp only [Value.cells] at hl h0 h1 h2 h3 h4 h5
  obtain ⟨L0⟩ := cs0
  simp only at hl h0 h1 h2 h3 h4 h5
  match L0, hl with
  | [c0, c1, c2, c3, c4, c5], _ =>
    simp only [cells3, List.drop, List.take] at h0 h1 h2 h3 h4 h5
    obtain ⟨a0, e0, _⟩ := i64_of h0
    obtain ⟨a1, e1, _⟩ := i64_of h1
    obtain ⟨a2, e2, _⟩ := i64_of h2
    obtain ⟨a3, e3, _⟩ := i64_of h3
    obtain ⟨a4, e4, _⟩ := i64_of h4
    obtain ⟨a5, e5, _⟩ := i64_of h5
    injection e0 with e0 _
    injection e1 with e1 _
    injection e2 with e2 _
    injection e3 with e3 _
    injection e4 with e4 _
    injection e5 with e5 _
    subst e0 e1 e2 e3 e4 e5
    exact ⟨⟨a0, a1, a2, a3, a4, a5⟩, rfl⟩
set_option maxRecDepth 100000 in
theorem mes_of_trod {base : Nat} {v : Value} {d : DataW H} {p : List MemPlace} (hv : Value.okWide Try.prog W .any base 47 v) (h : DataW.Trod enc Try.prog W 0 (fun _ => true) true 47 v d p) : ∃ (m : Mes) (u : Int) (VA : Option Addr) (vn vc : Nat) (BA : Option Addr) (bn bc : Nat), v = mv m u VA vn vc BA bn bc := by
  have h24 : ∃ cs, v = .agg cs := by
    simp only [Value.okWide, Try.underlying47] at hv
    obtain ⟨cs, h1, _⟩ := hv
    exact ⟨cs, h1⟩
  obtain ⟨cs0, rfl⟩ := h24
  obtain ⟨fuel, hf⟩ := h
  obtain ⟨y0, y1, y2, y3, y4, y5, y6, y7, m, hl, h0, h1, h2, h3, h4, h5, h6, h7⟩ := struct8 Try.underlying47 hf
  rw [cells47] at hl
  simp only [Value.cells] at hl h0 h1 h2 h3 h4 h5 h6 h7
  obtain ⟨L0⟩ := cs0
  simp only at hl h0 h1 h2 h3 h4 h5 h6 h7
  match L0, hl with
  | [c0, c1, c2, c3, c4, c5, c6, c7], _ =>
    simp only [cells3, cells44, cells45, List.drop, List.take] at h0 h1 h2 h3 h4 h5 h6 h7
    obtain ⟨a0, e0, _⟩ := i64_of h0
    obtain ⟨a1, e1, _⟩ := i64_of h1
    obtain ⟨a2, e2, _⟩ := i64_of h2
    obtain ⟨a3, e3, _⟩ := i64_of h3
    obtain ⟨a4, e4, _⟩ := i64_of h4
    obtain ⟨a5, e5, _⟩ := i64_of h5
    injection e0 with e0 _
    injection e1 with e1 _
    injection e2 with e2 _
    injection e3 with e3 _
    injection e4 with e4 _
    injection e5 with e5 _
    subst e0 e1 e2 e3 e4 e5
    obtain ⟨VA, vn, vc, rfl, _⟩ := slice_of Try.underlying44 h6
    obtain ⟨BA, bn, bc, rfl, _⟩ := slice_of Try.underlying45 h7
    exact ⟨⟨a0, a1, a2, a3, a5⟩, a4, VA, vn, vc, BA, bn, bc, rfl⟩
end Go.Proofs.Ytkdladacmjkdoaa
