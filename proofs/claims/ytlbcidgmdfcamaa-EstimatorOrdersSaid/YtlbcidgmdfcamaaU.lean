/- Arguments opened. -/
import Derived.Test.YtlbcidgmdfcamaaB
import Derived.ProofKit
import Derived.Deep.Slices
import Derived.OpenShut
import Derived.KernelRfl
import Derived.Laws.IdiomArrays
import Derived.Deep.Strs
import Derived.SizedLaws
namespace Go.Proofs.Ytlbcidgmdfcamaa
open Go.ChangeShapes Go.WideShapes Go.ChangeAt Go.RowKit Go.Deep
theorem Try.own : ownKnob Try.prog.godebug = none := by kernel_rfl
theorem Try.laidOut : laidOutB Try.prog = true := by kernel_rfl
theorem cells3 : Try.prog.cellsOf 3 = 1 := by kernel_rfl
variable {H : Type} {enc : TypeId × Value → H} {W : World}
theorem list_of {α : Type} {p : Nat → α → Prop} : ∀ (n : Nat), (∀ i, i < n → ∃ e, p i e) → ∃ l : List α, l.length = n ∧ ∀ i e, l[i]? = some e → p i e := by
  intro n
  induction n with
  | zero => intro _; exact ⟨[], rfl, fun i e h => by simp at h⟩
  | succ n ih =>
    intro h
    obtain ⟨l, hl, hp⟩ := ih fun i hi => h i (by omega)
    obtain ⟨e, he⟩ := h n (by omega)
    refine ⟨l ++ [e], by simp [hl], fun i f hf => ?_⟩
    rcases Nat.lt_or_ge i n with hi | hi
    · rw [List.getElem?_append_left (by omega)] at hf
      exact hp i f hf
    · rw [List.getElem?_append_right (by omega)] at hf
      have hi' : i = n := by
        have := (List.getElem?_eq_some_iff.1 hf).1
        simp at this
        omega
      subst hi'
      simp [hl] at hf
      subst hf
      exact he
theorem cell_lt {w : World} {b o : Nat} {v : Value} (h : w.cell? ⟨b, o, none⟩ = some v) : b < w.heap.size := by
  unfold World.cell? at h
  rcases Nat.lt_or_ge b w.heap.size with hl | hl
  · exact hl
  · rw [Array.getElem?_eq_none hl] at h; simp at h
theorem arr_of_fuel {α : Type} {TS TE : TypeId} {st : Nat} (hu : Try.prog.underlying TS = some (.slice TE)) (hc : Try.prog.cellsOf TE = st) (h0 : 0 < st) (cX : α → List Value) (ok : α → Prop)
    (hel : ∀ (fuel : Nat) (cs : List Value) (x : DataW H × List MemPlace), DataW.trod enc Try.prog W 0 (fun _ => true) true fuel TE cs = some x → ∃ a, cs = cX a ∧ ok a) (hlen : ∀ a, ok a → (cX a).length = st)
    {fuel : Nat} {A : Option Addr} {n c : Nat} {x : DataW H × List MemPlace} (hf : DataW.trod enc Try.prog W 0 (fun _ => true) true fuel TS [.slice A n c] = some x) : ∃ l : List α, l.length = n ∧ (∀ a ∈ l, ok a) ∧ Arr W (.slice A n c) st (l.map cX) := by
  rcases open_slice hu hf with ⟨hcs, _⟩ | ⟨a, len0, cap0, m, n', D, Pl, hcs, _, hlc, hcm, hm, hx, hi⟩
  · simp at hcs
    obtain ⟨rfl, rfl, rfl⟩ := hcs
    exact ⟨[], rfl, (fun a h => by cases h), arr_nil _ _⟩
  · simp at hcs
    obtain ⟨rfl, rfl, rfl⟩ := hcs
    simp only [if_true] at hm
    subst hm
    obtain ⟨l, hl', hq⟩ := list_of (p := fun i (e : α) => ok e ∧ ∀ (j : Nat) (u : Value), (cX e)[j]? = some u → W.cell? ((a.add (i * st)).add j) = some u) n (fun i hi' => by
      obtain ⟨cs', hcc, ht⟩ := hi i (by omega)
      rw [hc] at hcc
      obtain ⟨hlen', _, hat⟩ := World.cells?_some hcc
      obtain ⟨e, rfl, he⟩ := hel _ _ _ ht
      refine ⟨e, he, fun j u hj => ?_⟩
      have hjl := (List.getElem?_eq_some_iff.1 hj).1
      rw [hlen e he] at hjl
      rw [hat j hjl, hj])
    refine ⟨l, hl', fun e he => ?_, some a, _, by rw [List.length_map, hl'], by rw [List.length_map]; omega, hcm, ?_⟩
    · obtain ⟨i, hi'⟩ := List.mem_iff_getElem?.1 he
      exact (hq i e hi').1
    · rcases Nat.eq_zero_or_pos n with hz | hz
      · exact ⟨0, 0, fun h => by rw [List.length_map] at h; omega, fun i r h => by have := (List.getElem?_eq_some_iff.1 h).1; rw [List.length_map] at this; omega⟩
      · obtain ⟨b, off, spot⟩ := a
        obtain ⟨e, he⟩ : ∃ e, l[0]? = some e := ⟨l[0]'(by omega), List.getElem?_eq_getElem (by omega)⟩
        obtain ⟨hoke, hce⟩ := hq 0 e he
        have hle := hlen e hoke
        have hc0 := hce 0 ((cX e)[0]'(by omega)) (List.getElem?_eq_getElem (by omega))
        have hsp : spot = none := by
          have := hc0
          simp [Addr.add] at this
          exact World.cell?_spot this
        subst hsp
        rw [add_at, add_at] at hc0
        refine ⟨b, off, fun _ => ⟨rfl, cell_lt hc0⟩, fun i r hr j u hu => ?_⟩
        rw [List.getElem?_map] at hr
        obtain ⟨e', he', rfl⟩ := Option.map_eq_some_iff.1 hr
        have h0 := (hq i e' he').2 j u hu
        rw [add_at, add_at] at h0
        exact h0
theorem i64_of {fuel : Nat} {cs : List Value} {x : DataW H × List MemPlace} (h : DataW.trod enc Try.prog W 0 (fun _ => true) true fuel 3 cs = some x) : ∃ y : Int, cs = [.int .i64 y] ∧ -9223372036854775808 ≤ y ∧ y ≤ 9223372036854775807 := by
  obtain ⟨s, e0, _, w0⟩ := DataW.trod_int Try.underlying3 h
  have := bounds_i64 w0
  exact ⟨s, e0, by omega, by omega⟩
theorem slice_of {fuel : Nat} {TS TE : TypeId} (hu : Try.prog.underlying TS = some (.slice TE)) {c : Value} {x : DataW H × List MemPlace} (hf : DataW.trod enc Try.prog W 0 (fun _ => true) true fuel TS [c] = some x) : ∃ A n k, c = .slice A n k ∧ NilOk (.slice A n k) := by
  rcases open_slice hu hf with ⟨hcs, _⟩ | ⟨a, len0, cap0, m, n', D, Pl, hcs, _⟩
  · simp at hcs
    exact ⟨_, _, _, hcs, nilOk_nil⟩
  · simp at hcs
    exact ⟨_, _, _, hcs, nilOk_some _ _ _⟩
theorem struct2 {t : TypeId} {f0 f1 : Field} {fuel : Nat} {cs : List Value} {x : DataW H × List MemPlace} (ht : Try.prog.underlying t = some (.struct #[f0, f1])) (h : DataW.trod enc Try.prog W 0 (fun _ => true) true fuel t cs = some x) :
    ∃ y0 y1 n, x.1 = .agg [y0.1, y1.1] ∧ cs.length = Try.prog.cellsOf t ∧ DataW.trod enc Try.prog W 0 (fun _ => true) true n f0.type ((cs.drop f0.offset).take (Try.prog.cellsOf f0.type)) = some y0 ∧
      DataW.trod enc Try.prog W 0 (fun _ => true) true n f1.type ((cs.drop f1.offset).take (Try.prog.cellsOf f1.type)) = some y1 := by
  obtain ⟨xs, n, _, rfl, hl, hlen, hf⟩ := DataW.trod_struct ht h
  match xs, hlen with
  | [y0, y1], _ => exact ⟨y0, y1, n, rfl, hl, by simpa using hf 0 f0 rfl, by simpa using hf 1 f1 rfl⟩
theorem cells23 : Try.prog.cellsOf 23 = 4 := by kernel_rfl
theorem cells39 : Try.prog.cellsOf 39 = 2 := by kernel_rfl
theorem cells4 : Try.prog.cellsOf 4 = 1 := by kernel_rfl
theorem cells37 : Try.prog.cellsOf 37 = 1 := by kernel_rfl
theorem read23 : Try.prog.readableRec 23 = true := by kernel_rfl
theorem row23 : 23 < Try.prog.types.size := of_decide_eq_true (by kernel_rfl)
theorem read36 : Try.prog.readableRec 36 = true := by kernel_rfl
theorem row36 : 36 < Try.prog.types.size := of_decide_eq_true (by kernel_rfl)
theorem struct4 {t : TypeId} {f0 f1 f2 f3 : Field} {fuel : Nat} {cs : List Value} {x : DataW H × List MemPlace} (ht : Try.prog.underlying t = some (.struct #[f0, f1, f2, f3])) (h : DataW.trod enc Try.prog W 0 (fun _ => true) true fuel t cs = some x) :
    ∃ y0 y1 y2 y3 n, cs.length = Try.prog.cellsOf t ∧ DataW.trod enc Try.prog W 0 (fun _ => true) true n f0.type ((cs.drop f0.offset).take (Try.prog.cellsOf f0.type)) = some y0 ∧
      DataW.trod enc Try.prog W 0 (fun _ => true) true n f1.type ((cs.drop f1.offset).take (Try.prog.cellsOf f1.type)) = some y1 ∧ DataW.trod enc Try.prog W 0 (fun _ => true) true n f2.type ((cs.drop f2.offset).take (Try.prog.cellsOf f2.type)) = some y2 ∧
      DataW.trod enc Try.prog W 0 (fun _ => true) true n f3.type ((cs.drop f3.offset).take (Try.prog.cellsOf f3.type)) = some y3 := by
  obtain ⟨xs, n, _, rfl, hl, hlen, hf⟩ := DataW.trod_struct ht h
  match xs, hlen with
  | [y0, y1, y2, y3], _ => exact ⟨y0, y1, y2, y3, n, hl, by simpa using hf 0 f0 rfl, by simpa using hf 1 f1 rfl, by simpa using hf 2 f2 rfl, by simpa using hf 3 f3 rfl⟩
set_option maxRecDepth 100000 in
theorem est_of_trod {base : Nat} {v : Value} {d : DataW H} {p : List MemPlace} (hv : Value.okWide Try.prog W .any base 23 v) (h : DataW.Trod enc Try.prog W 0 (fun _ => true) true 23 v d p) : ∃ e : Est, v = ev e := by
  have h24 : ∃ cs, v = .agg cs := by
    simp only [Value.okWide, Try.underlying23] at hv
    obtain ⟨cs, h1, _⟩ := hv
    exact ⟨cs, h1⟩
  obtain ⟨cs0, rfl⟩ := h24
  obtain ⟨fuel, hf⟩ := h
  obtain ⟨y0, y1, y2, y3, m, hl, h0, h1, h2, h3⟩ := struct4 Try.underlying23 hf
  rw [cells23] at hl
  simp only [Value.cells] at hl h0 h1 h2 h3
  obtain ⟨L0⟩ := cs0
  simp only at hl h0 h1 h2 h3
  match L0, hl with
  | [c0, c1, c2, c3], _ =>
    simp only [cells3, List.drop, List.take] at h0 h1 h2 h3
    obtain ⟨a0, e0, _⟩ := i64_of h0
    obtain ⟨a1, e1, _⟩ := i64_of h1
    obtain ⟨a2, e2, _⟩ := i64_of h2
    obtain ⟨a3, e3, _⟩ := i64_of h3
    injection e0 with e0 _
    injection e1 with e1 _
    injection e2 with e2 _
    injection e3 with e3 _
    subst e0 e1 e2 e3
    exact ⟨⟨a0, a1, a2, a3⟩, rfl⟩
/-- A step: a timeout that has passed, or a sample. -/
abbrev Stp := Bool × Nat
def cSt (x : Stp) : List Value := [.bool x.1, .int .u16 (x.2 : Int)]
/-- The value v reads as the steps l. -/
def Stps (w : World) (v : Value) (l : List Stp) : Prop := (∀ x ∈ l, x.2 < 65536) ∧ Arr w v 2 (l.map cSt)
theorem Stps.below {w w' : World} {v : Value} {l : List Stp} (h : Stps w v l) (hb : Below w.heap.size w w') : Stps w' v l := ⟨h.1, h.2.below hb⟩
theorem u16_of {fuel : Nat} {cs : List Value} {x : DataW H × List MemPlace} (h : DataW.trod enc Try.prog W 0 (fun _ => true) true fuel 37 cs = some x) : ∃ y : Nat, cs = [.int .u16 (y : Int)] ∧ y < 65536 := by
  obtain ⟨s, e0, _, w0⟩ := DataW.trod_int Try.underlying37 h
  have hb := bounds_u16 w0
  obtain ⟨y, rfl⟩ := Int.eq_ofNat_of_zero_le hb.1
  exact ⟨y, e0, by omega⟩
set_option maxRecDepth 100000 in
theorem stp_of_fuel {fuel : Nat} {cs : List Value} {x : DataW H × List MemPlace} (h : DataW.trod enc Try.prog W 0 (fun _ => true) true fuel 39 cs = some x) : ∃ a : Stp, cs = cSt a ∧ a.2 < 65536 := by
  obtain ⟨y0, y1, m, _, hl, h0, h1⟩ := struct2 Try.underlying39 h
  rw [cells39] at hl
  match cs, hl with
  | [c0, c1], _ =>
    simp only [cells4, cells37, List.drop, List.take] at h0 h1
    obtain ⟨a, ea, ra⟩ := DataW.trod_bool Try.underlying4 h0
    injection ea with ea _
    subst ea
    obtain ⟨t, et, rt⟩ := u16_of h1
    injection et with et _
    subst et
    exact ⟨(a, t), rfl, rt⟩
set_option maxRecDepth 100000 in
theorem stps_of_trod {base : Nat} {v : Value} {d : DataW H} {p : List MemPlace} (hv : Value.okWide Try.prog W .any base 36 v) (h : DataW.Trod enc Try.prog W 0 (fun _ => true) true 36 v d p) : ∃ l, Stps W v l := by
  obtain ⟨a0, len0, cap0, rfl⟩ := okWide_slice Try.underlying36 hv
  obtain ⟨fuel, hf⟩ := h
  obtain ⟨A, n, k, e, hk⟩ := slice_of Try.underlying36 hf
  rw [e] at hf ⊢
  obtain ⟨l, _, h8, ha⟩ := arr_of_fuel (α := Stp) Try.underlying36 cells39 (by decide) cSt (fun a => a.2 < 65536) (fun _ _ _ h => stp_of_fuel h) (fun _ _ => rfl) hf
  exact ⟨l, h8, ha⟩
end Go.Proofs.Ytlbcidgmdfcamaa
