/- Arguments opened. -/
import Derived.Test.YtoefbgkeinhibaaSc
import Derived.ProofKit
import Derived.Deep.Slices
import Derived.OpenShut
import Derived.KernelRfl
import Derived.Laws.IdiomArrays
import Derived.Deep.Strs
import Derived.SizedLaws
namespace Go.Proofs.Ytoefbgkeinhibaa
open Go.ChangeShapes Go.WideShapes Go.ChangeAt Go.RowKit Go.Deep
theorem Try.own : ownKnob Try.prog.godebug = none := by kernel_rfl
theorem Try.laidOut : laidOutB Try.prog = true := by kernel_rfl
theorem cells5 : Try.prog.cellsOf 5 = 1 := by kernel_rfl
theorem cells3 : Try.prog.cellsOf 3 = 1 := by kernel_rfl
theorem cells73 : Try.prog.cellsOf 73 = 8 := by kernel_rfl
theorem cells77 : Try.prog.cellsOf 77 = 9 := by kernel_rfl
theorem cells22 : Try.prog.cellsOf 22 = 1 := by kernel_rfl
theorem cells23 : Try.prog.cellsOf 23 = 1 := by kernel_rfl
theorem cells25 : Try.prog.cellsOf 25 = 2 := by kernel_rfl
theorem cells27 : Try.prog.cellsOf 27 = 3 := by kernel_rfl
theorem cells29 : Try.prog.cellsOf 29 = 2 := by kernel_rfl
theorem cells55 : Try.prog.cellsOf 55 = 1 := by kernel_rfl
theorem cells65 : Try.prog.cellsOf 65 = 2 := by kernel_rfl
theorem bytes73 : Try.prog.bytesOf 73 = 8 := by kernel_rfl
theorem read25 : Try.prog.readableRec 25 = true := by kernel_rfl
theorem row25 : 25 < Try.prog.types.size := of_decide_eq_true (by kernel_rfl)
theorem read27 : Try.prog.readableRec 27 = true := by kernel_rfl
theorem row27 : 27 < Try.prog.types.size := of_decide_eq_true (by kernel_rfl)
theorem read29 : Try.prog.readableRec 29 = true := by kernel_rfl
theorem row29 : 29 < Try.prog.types.size := of_decide_eq_true (by kernel_rfl)
theorem read32 : Try.prog.readableRec 32 = true := by kernel_rfl
theorem row32 : 32 < Try.prog.types.size := of_decide_eq_true (by kernel_rfl)
theorem read55 : Try.prog.readableRec 55 = true := by kernel_rfl
theorem row55 : 55 < Try.prog.types.size := of_decide_eq_true (by kernel_rfl)
theorem read65 : Try.prog.readableRec 65 = true := by kernel_rfl
theorem row65 : 65 < Try.prog.types.size := of_decide_eq_true (by kernel_rfl)
variable {H : Type} {enc : TypeId × Value → H} {W : World}
theorem weightsAll_mem {E : TypeId} {d : DataW H} : ∀ {l : List (DataW H)}, d ∈ l → ∀ {q : Nat}, q ∈ d.weights Try.prog E → q ∈ DataW.weightsAll Try.prog E l
  | x :: r, h, q, hq => by
    simp only [DataW.weightsAll, List.mem_append]
    rcases List.mem_cons.1 h with rfl | h
    · exact .inl hq
    · exact .inr (weightsAll_mem h hq)
theorem list_of {α : Type} {p : Nat → α → Prop} : ∀ (n : Nat), (∀ i, i < n → ∃ e, p i e) → ∃ l : List α, l.length = n ∧ ∀ i e, l[i]? = some e → p i e := by
  intro n
  induction n with
  | zero => intro _; exact ⟨[], rfl, fun i e h => by simp at h⟩
  | succ n ih =>
    intro h
    obtain ⟨l, hl, hp⟩ := ih fun i hi => h i (by omega)
    obtain ⟨e, he⟩ := h n (by omega)
    refine ⟨l ++ [e], by simp [hl], fun i f hf => ?_⟩
    rcases Nat.lt_or_ge i n with hi | hi
    · rw [List.getElem?_append_left (by omega)] at hf
      exact hp i f hf
    · rw [List.getElem?_append_right (by omega)] at hf
      have hi' : i = n := by
        have := (List.getElem?_eq_some_iff.1 hf).1
        simp at this
        omega
      subst hi'
      simp [hl] at hf
      subst hf
      exact he
theorem cell_lt {w : World} {b o : Nat} {v : Value} (h : w.cell? ⟨b, o, none⟩ = some v) : b < w.heap.size := by
  unfold World.cell? at h
  rcases Nat.lt_or_ge b w.heap.size with hl | hl
  · exact hl
  · rw [Array.getElem?_eq_none hl] at h; simp at h
theorem arr_of_fuel {α : Type} {TS TE : TypeId} {st : Nat} (hu : Try.prog.underlying TS = some (.slice TE)) (hc : Try.prog.cellsOf TE = st) (h0 : 0 < st) (cX : α → List Value) (ok : α → Prop)
    (hel : ∀ (fuel : Nat) (cs : List Value) (x : DataW H × List MemPlace), DataW.trod enc Try.prog W 0 (fun _ => true) true fuel TE cs = some x → ∃ a, cs = cX a ∧ ok a) (hlen : ∀ a, ok a → (cX a).length = st)
    {fuel : Nat} {A : Option Addr} {n c : Nat} {x : DataW H × List MemPlace} (hf : DataW.trod enc Try.prog W 0 (fun _ => true) true fuel TS [.slice A n c] = some x) : ∃ l : List α, l.length = n ∧ (∀ a ∈ l, ok a) ∧ Arr W (.slice A n c) st (l.map cX) := by
  rcases open_slice hu hf with ⟨hcs, _⟩ | ⟨a, len0, cap0, m, n', D, Pl, hcs, _, hlc, hcm, hm, hx, hi⟩
  · simp at hcs
    obtain ⟨rfl, rfl, rfl⟩ := hcs
    exact ⟨[], rfl, (fun a h => by cases h), arr_nil _ _⟩
  · simp at hcs
    obtain ⟨rfl, rfl, rfl⟩ := hcs
    simp only [if_true] at hm
    subst hm
    obtain ⟨l, hl', hq⟩ := list_of (p := fun i (e : α) => ok e ∧ ∀ (j : Nat) (u : Value), (cX e)[j]? = some u → W.cell? ((a.add (i * st)).add j) = some u) n (fun i hi' => by
      obtain ⟨cs', hcc, ht⟩ := hi i (by omega)
      rw [hc] at hcc
      obtain ⟨hlen', _, hat⟩ := World.cells?_some hcc
      obtain ⟨e, rfl, he⟩ := hel _ _ _ ht
      refine ⟨e, he, fun j u hj => ?_⟩
      have hjl := (List.getElem?_eq_some_iff.1 hj).1
      rw [hlen e he] at hjl
      rw [hat j hjl, hj])
    refine ⟨l, hl', fun e he => ?_, some a, _, by rw [List.length_map, hl'], by rw [List.length_map]; omega, hcm, ?_⟩
    · obtain ⟨i, hi'⟩ := List.mem_iff_getElem?.1 he
      exact (hq i e hi').1
    · rcases Nat.eq_zero_or_pos n with hz | hz
      · exact ⟨0, 0, fun h => by rw [List.length_map] at h; omega, fun i r h => by have := (List.getElem?_eq_some_iff.1 h).1; rw [List.length_map] at this; omega⟩
      · obtain ⟨b, off, spot⟩ := a
        obtain ⟨e, he⟩ : ∃ e, l[0]? = some e := ⟨l[0]'(by omega), List.getElem?_eq_getElem (by omega)⟩
        obtain ⟨hoke, hce⟩ := hq 0 e he
        have hle := hlen e hoke
        have hc0 := hce 0 ((cX e)[0]'(by omega)) (List.getElem?_eq_getElem (by omega))
        have hsp : spot = none := by
          have := hc0
          simp [Addr.add] at this
          exact World.cell?_spot this
        subst hsp
        rw [add_at, add_at] at hc0
        refine ⟨b, off, fun _ => ⟨rfl, cell_lt hc0⟩, fun i r hr j u hu => ?_⟩
        rw [List.getElem?_map] at hr
        obtain ⟨e', he', rfl⟩ := Option.map_eq_some_iff.1 hr
        have h0 := (hq i e' he').2 j u hu
        rw [add_at, add_at] at h0
        exact h0
theorem arr_of_fuel_w {α : Type} {TS TE : TypeId} {st : Nat} (hu : Try.prog.underlying TS = some (.slice TE)) (hc : Try.prog.cellsOf TE = st) (h0 : 0 < st) (cX : α → List Value) (ok : α → Prop)
    (hel : ∀ (fuel : Nat) (cs : List Value) (x : DataW H × List MemPlace), DataW.trod enc Try.prog W 0 (fun _ => true) true fuel TE cs = some x → (∀ q ∈ x.1.weights Try.prog TE, q ≤ reachBytes) → ∃ a, cs = cX a ∧ ok a) (hlen : ∀ a, ok a → (cX a).length = st)
    {fuel : Nat} {A : Option Addr} {n c : Nat} {x : DataW H × List MemPlace} (hf : DataW.trod enc Try.prog W 0 (fun _ => true) true fuel TS [.slice A n c] = some x) (hw : ∀ q ∈ x.1.weights Try.prog TS, q ≤ reachBytes) : n * Try.prog.bytesOf TE ≤ reachBytes ∧ ∃ l : List α, l.length = n ∧ (∀ a ∈ l, ok a) ∧ Arr W (.slice A n c) st (l.map cX) := by
  rcases open_slice hu hf with ⟨hcs, _⟩ | ⟨a, len0, cap0, m, n', D, Pl, hcs, _, hlc, hcm, hm, hx, hi⟩
  · simp at hcs
    obtain ⟨rfl, rfl, rfl⟩ := hcs
    exact ⟨by omega, [], rfl, (fun a h => by cases h), arr_nil _ _⟩
  · simp at hcs
    obtain ⟨rfl, rfl, rfl⟩ := hcs
    simp only [if_true] at hm
    subst hm
    subst hx
    simp only [DataW.weights, hu] at hw
    have hlen0 := hw _ (List.mem_cons_self ..)
    simp only [List.length_map, List.length_range] at hlen0
    refine ⟨Nat.le_trans (Nat.mul_le_mul_right _ (Nat.le_add_right _ _)) hlen0, ?_⟩
    obtain ⟨l, hl', hq⟩ := list_of (p := fun i (e : α) => ok e ∧ ∀ (j : Nat) (u : Value), (cX e)[j]? = some u → W.cell? ((a.add (i * st)).add j) = some u) n (fun i hi' => by
      obtain ⟨cs', hcc, ht⟩ := hi i (by omega)
      rw [hc] at hcc
      obtain ⟨hlen', _, hat⟩ := World.cells?_some hcc
      obtain ⟨e, rfl, he⟩ := hel _ _ _ ht (fun q hq => hw q (List.mem_cons_of_mem _ (List.mem_append_left _ (weightsAll_mem (List.mem_map.2 ⟨i, List.mem_range.2 hi', rfl⟩) hq))))
      refine ⟨e, he, fun j u hj => ?_⟩
      have hjl := (List.getElem?_eq_some_iff.1 hj).1
      rw [hlen e he] at hjl
      rw [hat j hjl, hj])
    refine ⟨l, hl', fun e he => ?_, some a, _, by rw [List.length_map, hl'], by rw [List.length_map]; omega, hcm, ?_⟩
    · obtain ⟨i, hi'⟩ := List.mem_iff_getElem?.1 he
      exact (hq i e hi').1
    · rcases Nat.eq_zero_or_pos n with hz | hz
      · exact ⟨0, 0, fun h => by rw [List.length_map] at h; omega, fun i r h => by have := (List.getElem?_eq_some_iff.1 h).1; rw [List.length_map] at this; omega⟩
      · obtain ⟨b, off, spot⟩ := a
        obtain ⟨e, he⟩ : ∃ e, l[0]? = some e := ⟨l[0]'(by omega), List.getElem?_eq_getElem (by omega)⟩
        obtain ⟨hoke, hce⟩ := hq 0 e he
        have hle := hlen e hoke
        have hc0 := hce 0 ((cX e)[0]'(by omega)) (List.getElem?_eq_getElem (by omega))
        have hsp : spot = none := by
          have := hc0
          simp [Addr.add] at this
          exact World.cell?_spot this
        subst hsp
        rw [add_at, add_at] at hc0
        refine ⟨b, off, fun _ => ⟨rfl, cell_lt hc0⟩, fun i r hr j u hu => ?_⟩
        rw [List.getElem?_map] at hr
        obtain ⟨e', he', rfl⟩ := Option.map_eq_some_iff.1 hr
        have h0 := (hq i e' he').2 j u hu
        rw [add_at, add_at] at h0
        exact h0
theorem i64_of {fuel : Nat} {cs : List Value} {x : DataW H × List MemPlace} (h : DataW.trod enc Try.prog W 0 (fun _ => true) true fuel 3 cs = some x) : ∃ y : Int, cs = [.int .i64 y] ∧ -9223372036854775808 ≤ y ∧ y ≤ 9223372036854775807 := by
  obtain ⟨s, e0, _, w0⟩ := DataW.trod_int Try.underlying3 h
  have := bounds_i64 w0
  exact ⟨s, e0, by omega, by omega⟩
theorem byte_of {fuel : Nat} {cs : List Value} {x : DataW H × List MemPlace} (h : DataW.trod enc Try.prog W 0 (fun _ => true) true fuel 5 cs = some x) : ∃ y : Nat, cs = [byteV y] ∧ y < 256 := by
  obtain ⟨s, e0, _, w0⟩ := DataW.trod_int Try.underlying5 h
  have hb := bounds_u8 w0
  obtain ⟨y, rfl⟩ := Int.eq_ofNat_of_zero_le hb.1
  exact ⟨y, e0, by omega⟩
theorem sector_of {fuel : Nat} {cs : List Value} {x : DataW H × List MemPlace} (h : DataW.trod enc Try.prog W 0 (fun _ => true) true fuel 73 cs = some x) : ∃ s : List Nat, cs = cSec s ∧ s.length = 8 ∧ B8 s := by
  obtain ⟨xs, m, _, _, hlen, hn, hel⟩ := DataW.trod_array Try.underlying73 h
  rw [cells73] at hlen
  obtain ⟨s, hs, hp⟩ := list_of (p := fun j (y : Nat) => y < 256 ∧ cs[j]? = some (byteV y)) 8 (fun j hj => by
    have h1 := hel j hj
    rw [cells5, Nat.mul_one, List.getElem?_eq_getElem (show j < xs.length by omega)] at h1
    have e : (cs.drop j).take 1 = [cs[j]'(by omega)] := by
      rw [List.drop_eq_getElem_cons (by omega)]
      rfl
    rw [e] at h1
    obtain ⟨y, hy, hyl⟩ := byte_of h1
    injection hy with hy _
    exact ⟨y, hyl, by rw [List.getElem?_eq_getElem (show j < cs.length by omega), hy]⟩)
  refine ⟨s, ?_, hs, fun y hy => ?_⟩
  · apply List.ext_getElem?
    intro j
    unfold cSec
    rw [List.getElem?_map]
    rcases Nat.lt_or_ge j 8 with hj | hj
    · obtain ⟨y, hy⟩ : ∃ y, s[j]? = some y := ⟨s[j]'(by omega), List.getElem?_eq_getElem (by omega)⟩
      rw [hy, (hp j y hy).2]
      rfl
    · rw [List.getElem?_eq_none (by omega), List.getElem?_eq_none (by omega)]
      rfl
  · obtain ⟨j, hj⟩ := List.mem_iff_getElem?.1 hy
    exact (hp j y hj).1
theorem slice_of {fuel : Nat} {TS TE : TypeId} (hu : Try.prog.underlying TS = some (.slice TE)) {c : Value} {x : DataW H × List MemPlace} (hf : DataW.trod enc Try.prog W 0 (fun _ => true) true fuel TS [c] = some x) : ∃ A n k, c = .slice A n k ∧ NilOk (.slice A n k) := by
  rcases open_slice hu hf with ⟨hcs, _⟩ | ⟨a, len0, cap0, m, n', D, Pl, hcs, _⟩
  · simp at hcs
    exact ⟨_, _, _, hcs, nilOk_nil⟩
  · simp at hcs
    exact ⟨_, _, _, hcs, nilOk_some _ _ _⟩
set_option maxRecDepth 100000 in
theorem sec_of_fuel {fuel : Nat} {A : Option Addr} {n c : Nat} {x : DataW H × List MemPlace} (hf : DataW.trod enc Try.prog W 0 (fun _ => true) true fuel 22 [.slice A n c] = some x) (hw : ∀ q ∈ x.1.weights Try.prog 22, q ≤ reachBytes) : ∃ l, Sec W (.slice A n c) l ∧ l.length ≤ 17592186044416 := by
  obtain ⟨hb, l, hl, h8, ha⟩ := arr_of_fuel_w (α := List Nat) Try.underlying22 cells73 (by decide) cSec (fun s => s.length = 8 ∧ B8 s) (fun _ _ _ h _ => sector_of h) (fun s h => by unfold cSec; rw [List.length_map]; exact h.1) hf hw
  rw [bytes73] at hb
  unfold reachBytes at hb
  exact ⟨l, ⟨h8, ha⟩, by omega⟩
theorem struct2 {t : TypeId} {f0 f1 : Field} {fuel : Nat} {cs : List Value} {x : DataW H × List MemPlace} (ht : Try.prog.underlying t = some (.struct #[f0, f1])) (h : DataW.trod enc Try.prog W 0 (fun _ => true) true fuel t cs = some x) :
    ∃ y0 y1 n, x.1 = .agg [y0.1, y1.1] ∧ cs.length = Try.prog.cellsOf t ∧ DataW.trod enc Try.prog W 0 (fun _ => true) true n f0.type ((cs.drop f0.offset).take (Try.prog.cellsOf f0.type)) = some y0 ∧
      DataW.trod enc Try.prog W 0 (fun _ => true) true n f1.type ((cs.drop f1.offset).take (Try.prog.cellsOf f1.type)) = some y1 := by
  obtain ⟨xs, n, _, rfl, hl, hlen, hf⟩ := DataW.trod_struct ht h
  match xs, hlen with
  | [y0, y1], _ => exact ⟨y0, y1, n, rfl, hl, by simpa using hf 0 f0 rfl, by simpa using hf 1 f1 rfl⟩
theorem struct3 {t : TypeId} {f0 f1 f2 : Field} {fuel : Nat} {cs : List Value} {x : DataW H × List MemPlace} (ht : Try.prog.underlying t = some (.struct #[f0, f1, f2])) (h : DataW.trod enc Try.prog W 0 (fun _ => true) true fuel t cs = some x) :
    ∃ y0 y1 y2 n, x.1 = .agg [y0.1, y1.1, y2.1] ∧ cs.length = Try.prog.cellsOf t ∧ DataW.trod enc Try.prog W 0 (fun _ => true) true n f0.type ((cs.drop f0.offset).take (Try.prog.cellsOf f0.type)) = some y0 ∧
      DataW.trod enc Try.prog W 0 (fun _ => true) true n f1.type ((cs.drop f1.offset).take (Try.prog.cellsOf f1.type)) = some y1 ∧ DataW.trod enc Try.prog W 0 (fun _ => true) true n f2.type ((cs.drop f2.offset).take (Try.prog.cellsOf f2.type)) = some y2 := by
  obtain ⟨xs, n, _, rfl, hl, hlen, hf⟩ := DataW.trod_struct ht h
  match xs, hlen with
  | [y0, y1, y2], _ => exact ⟨y0, y1, y2, n, rfl, hl, by simpa using hf 0 f0 rfl, by simpa using hf 1 f1 rfl, by simpa using hf 2 f2 rfl⟩
set_option maxRecDepth 100000 in
theorem op_of_fuel {fuel : Nat} {cs : List Value} {x : DataW H × List MemPlace} (h : DataW.trod enc Try.prog W 0 (fun _ => true) true fuel 27 cs = some x) (hw : ∀ q ∈ x.1.weights Try.prog 27, q ≤ reachBytes) : ∃ a : OpT, cs = cOp a ∧ (Sec W a.d a.l ∧ NilOk a.d ∧ R64 a.k ∧ R64 a.a) ∧ a.l.length ≤ 17592186044416 := by
  obtain ⟨y0, y1, y2, m, hx, hl, h0, h1, h2⟩ := struct3 Try.underlying27 h
  rw [cells27] at hl
  rw [hx] at hw
  simp only [DataW.weights, Try.underlying27] at hw
  have hw2 := fun q hq => hw q (DataW.weights_mem_each (j := 2) (t := 22) (d := y2.1) rfl rfl q hq)
  match cs, hl with
  | [c0, c1, c2], _ =>
    simp only [cells3, cells22, List.drop, List.take] at h0 h1 h2
    obtain ⟨a, ea, ra⟩ := i64_of h0
    obtain ⟨b, eb, rb⟩ := i64_of h1
    injection ea with ea _
    injection eb with eb _
    subst ea eb
    obtain ⟨A, n, k, rfl, hk⟩ := slice_of Try.underlying22 h2
    obtain ⟨ll, hll, hln⟩ := sec_of_fuel h2 hw2
    exact ⟨⟨a, b, _, ll⟩, rfl, ⟨hll, hk, ra, rb⟩, hln⟩
set_option maxRecDepth 100000 in
theorem op_of_trod {base : Nat} {v : Value} {d : DataW H} {p : List MemPlace} (hv : Value.okWide Try.prog W .any base 27 v) (h : DataW.Trod enc Try.prog W 0 (fun _ => true) true 27 v d p) (hw : ∀ q ∈ d.weights Try.prog 27, q ≤ reachBytes) : ∃ (k a : Int) (dv : Value) (l : List Sect), v = .agg #[.int .i64 k, .int .i64 a, dv] ∧ Sec W dv l ∧ NilOk dv ∧ R64 k ∧ R64 a ∧ l.length ≤ 17592186044416 := by
  have h24 : ∃ cs, v = .agg cs := by
    simp only [Value.okWide, Try.underlying27] at hv
    obtain ⟨cs, h1, _⟩ := hv
    exact ⟨cs, h1⟩
  obtain ⟨cs0, rfl⟩ := h24
  obtain ⟨fuel, hf⟩ := h
  obtain ⟨a, e, h1, h2⟩ := op_of_fuel hf hw
  simp only [Value.cells] at e
  obtain ⟨L0⟩ := cs0
  simp only at e
  subst e
  exact ⟨a.k, a.a, a.d, a.l, rfl, h1.1, h1.2.1, h1.2.2.1, h1.2.2.2, h2⟩
set_option maxRecDepth 100000 in
theorem ops_of_trod {base : Nat} {v : Value} {d : DataW H} {p : List MemPlace} (hv : Value.okWide Try.prog W .any base 32 v) (h : DataW.Trod enc Try.prog W 0 (fun _ => true) true 32 v d p) (hw : ∀ q ∈ d.weights Try.prog 32, q ≤ reachBytes) : ∃ l, OpsA W v l ∧ BigO l := by
  obtain ⟨a0, len0, cap0, rfl⟩ := okWide_slice Try.underlying32 hv
  obtain ⟨fuel, hf⟩ := h
  obtain ⟨_, l, _, h8, ha⟩ := arr_of_fuel_w (α := OpT) Try.underlying32 cells27 (by decide) cOp (fun x => (Sec W x.d x.l ∧ NilOk x.d ∧ R64 x.k ∧ R64 x.a) ∧ x.l.length ≤ 17592186044416) (fun _ _ _ h hw => op_of_fuel h hw) (fun _ _ => rfl) hf hw
  exact ⟨l, ⟨fun x hx => (h8 x hx).1, ha⟩, fun x hx => (h8 x hx).2⟩
set_option maxRecDepth 100000 in
theorem ext_of_trod {base : Nat} {v : Value} {d : DataW H} {p : List MemPlace} (hv : Value.okWide Try.prog W .any base 29 v) (h : DataW.Trod enc Try.prog W 0 (fun _ => true) true 29 v d p) : ∃ s m : Int, v = .agg #[.int .i64 s, .int .i64 m] ∧ R64 s ∧ R64 m := by
  have h24 : ∃ cs, v = .agg cs := by
    simp only [Value.okWide, Try.underlying29] at hv
    obtain ⟨cs, h1, _⟩ := hv
    exact ⟨cs, h1⟩
  obtain ⟨cs0, rfl⟩ := h24
  obtain ⟨fuel, hf⟩ := h
  obtain ⟨y0, y1, m, _, hl, h0, h1⟩ := struct2 Try.underlying29 hf
  rw [cells29] at hl
  simp only [Value.cells] at hl h0 h1
  obtain ⟨L0⟩ := cs0
  simp only at hl h0 h1
  match L0, hl with
  | [c0, c1], _ =>
    simp only [cells3, List.drop, List.take] at h0 h1
    obtain ⟨a, ea, ra⟩ := i64_of h0
    obtain ⟨b, eb, rb⟩ := i64_of h1
    injection ea with ea _
    injection eb with eb _
    subst ea eb
    exact ⟨a, b, rfl, ra, rb⟩
theorem ints_of_fuel {fuel : Nat} {A : Option Addr} {n c : Nat} {x : DataW H × List MemPlace} (hk : NilOk (.slice A n c)) (hf : DataW.trod enc Try.prog W 0 (fun _ => true) true fuel 55 [.slice A n c] = some x) : ∃ l : List Int, Ints W (.slice A n c) l := by
  obtain ⟨l, _, h8, ha⟩ := arr_of_fuel (α := Int) Try.underlying55 cells3 (by decide) (fun x => [intV x]) R64 (fun _ _ _ h => i64_of h) (fun _ _ => rfl) hf
  exact ⟨l, h8, hk, ha⟩
set_option maxRecDepth 100000 in
theorem ints_of_trod {base : Nat} {v : Value} {d : DataW H} {p : List MemPlace} (hv : Value.okWide Try.prog W .any base 55 v) (h : DataW.Trod enc Try.prog W 0 (fun _ => true) true 55 v d p) : ∃ l, Ints W v l := by
  obtain ⟨a0, len0, cap0, rfl⟩ := okWide_slice Try.underlying55 hv
  obtain ⟨fuel, hf⟩ := h
  obtain ⟨A, n, k, e, hk⟩ := slice_of Try.underlying55 hf
  rw [e] at hf ⊢
  exact ints_of_fuel hk hf
set_option maxRecDepth 100000 in
theorem cac_of_fuel {fuel : Nat} {cs : List Value} {x : DataW H × List MemPlace} (h : DataW.trod enc Try.prog W 0 (fun _ => true) true fuel 77 cs = some x) : ∃ a : Ca, cs = cCa a ∧ (a.2.length = 8 ∧ B8 a.2 ∧ R64 a.1) := by
  obtain ⟨y0, y1, m, _, hl, h0, h1⟩ := struct2 Try.underlying77 h
  rw [cells77] at hl
  match cs, hl with
  | c0 :: r, hl =>
    simp only [cells3, cells73, List.drop, List.take] at h0 h1
    obtain ⟨a, ea, ra⟩ := i64_of h0
    injection ea with ea _
    subst ea
    rw [List.take_of_length_le (by simp at hl; omega)] at h1
    obtain ⟨s, rfl, h8, hb⟩ := sector_of h1
    exact ⟨(a, s), rfl, h8, hb, ra⟩
set_option maxRecDepth 100000 in
theorem cas_of_fuel {fuel : Nat} {A : Option Addr} {n c : Nat} {x : DataW H × List MemPlace} (hk : NilOk (.slice A n c)) (hf : DataW.trod enc Try.prog W 0 (fun _ => true) true fuel 23 [.slice A n c] = some x) : ∃ l : List Ca, Cas W (.slice A n c) l := by
  obtain ⟨l, _, h8, ha⟩ := arr_of_fuel (α := Ca) Try.underlying23 cells77 (by decide) cCa (fun a => a.2.length = 8 ∧ B8 a.2 ∧ R64 a.1) (fun _ _ _ h => cac_of_fuel h) (fun x h => cCa_len h.1) hf
  exact ⟨l, h8, hk, ha⟩
set_option maxRecDepth 100000 in
theorem sec_of_fuel0 {fuel : Nat} {A : Option Addr} {n c : Nat} {x : DataW H × List MemPlace} (hf : DataW.trod enc Try.prog W 0 (fun _ => true) true fuel 22 [.slice A n c] = some x) : ∃ l, Sec W (.slice A n c) l := by
  obtain ⟨l, _, h8, ha⟩ := arr_of_fuel (α := List Nat) Try.underlying22 cells73 (by decide) cSec (fun s => s.length = 8 ∧ B8 s) (fun _ _ _ h => sector_of h) (fun s h => by unfold cSec; rw [List.length_map]; exact h.1) hf
  exact ⟨l, h8, ha⟩
set_option maxRecDepth 100000 in
theorem dk_of_trod {base : Nat} {v : Value} {d : DataW H} {p : List MemPlace} (hv : Value.okWide Try.prog W .any base 25 v) (h : DataW.Trod enc Try.prog W 0 (fun _ => true) true 25 v d p) : ∃ st ca, Dk W v st ca := by
  have h24 : ∃ cs, v = .agg cs := by
    simp only [Value.okWide, Try.underlying25] at hv
    obtain ⟨cs, h1, _⟩ := hv
    exact ⟨cs, h1⟩
  obtain ⟨cs0, rfl⟩ := h24
  obtain ⟨fuel, hf⟩ := h
  obtain ⟨y0, y1, m, _, hl, h0, h1⟩ := struct2 Try.underlying25 hf
  rw [cells25] at hl
  simp only [Value.cells] at hl h0 h1
  obtain ⟨L0⟩ := cs0
  simp only at hl h0 h1
  match L0, hl with
  | [c0, c1], _ =>
    simp only [cells22, cells23, List.drop, List.take] at h0 h1
    obtain ⟨A, n, k, rfl, hk⟩ := slice_of Try.underlying22 h0
    obtain ⟨A2, n2, k2, rfl, hk2⟩ := slice_of Try.underlying23 h1
    obtain ⟨st, hst⟩ := sec_of_fuel0 h0
    obtain ⟨ca, hca⟩ := cas_of_fuel hk2 h1
    exact ⟨st, ca, _, _, rfl, hst, hk, hca⟩
set_option maxRecDepth 100000 in
theorem brk_of_trod {base : Nat} {v : Value} {d : DataW H} {p : List MemPlace} (hv : Value.okWide Try.prog W .any base 65 v) (h : DataW.Trod enc Try.prog W 0 (fun _ => true) true 65 v d p) : ∃ (a : Int) (u : Value) (l : List Int), v = .agg #[.int .i64 a, u] ∧ R64 a ∧ Ints W u l := by
  have h24 : ∃ cs, v = .agg cs := by
    simp only [Value.okWide, Try.underlying65] at hv
    obtain ⟨cs, h1, _⟩ := hv
    exact ⟨cs, h1⟩
  obtain ⟨cs0, rfl⟩ := h24
  obtain ⟨fuel, hf⟩ := h
  obtain ⟨y0, y1, m, _, hl, h0, h1⟩ := struct2 Try.underlying65 hf
  rw [cells65] at hl
  simp only [Value.cells] at hl h0 h1
  obtain ⟨L0⟩ := cs0
  simp only at hl h0 h1
  match L0, hl with
  | [c0, c1], _ =>
    simp only [cells3, cells55, List.drop, List.take] at h0 h1
    obtain ⟨a, ea, ra⟩ := i64_of h0
    injection ea with ea _
    subst ea
    obtain ⟨A, n, k, rfl, hk⟩ := slice_of Try.underlying55 h1
    obtain ⟨l, hl'⟩ := ints_of_fuel hk h1
    exact ⟨a, _, l, rfl, ra, hl'⟩
end Go.Proofs.Ytoefbgkeinhibaa
