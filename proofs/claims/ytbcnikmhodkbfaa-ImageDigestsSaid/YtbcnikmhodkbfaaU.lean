/- Arguments opened: images, an extent. -/
import Derived.Test.YtbcnikmhodkbfaaN
import Derived.ProofKit
import Derived.Deep.Slices
import Derived.OpenShut
import Derived.KernelRfl
import Derived.Laws.IdiomArrays
namespace Go.Proofs.Ytbcnikmhodkbfaa
open Go.ChangeShapes Go.WideShapes Go.ChangeAt Go.RowKit Go.Deep

theorem Try.own : ownKnob Try.prog.godebug = none := by kernel_rfl
theorem Try.laidOut : laidOutB Try.prog = true := by kernel_rfl
theorem cells5 : Try.prog.cellsOf 5 = 1 := by kernel_rfl
theorem cells3 : Try.prog.cellsOf 3 = 1 := by kernel_rfl
theorem cells40 : Try.prog.cellsOf 40 = 1 := by kernel_rfl
theorem cells51 : Try.prog.cellsOf 51 = 2 := by kernel_rfl
theorem cells58 : Try.prog.cellsOf 58 = 8 := by kernel_rfl
theorem read24 : Try.prog.readableRec 24 = true := by kernel_rfl
theorem row24 : 24 < Try.prog.types.size := of_decide_eq_true (by kernel_rfl)
variable {H : Type} {enc : TypeId × Value → H} {W : World}
theorem list_of {α : Type} {p : Nat → α → Prop} : ∀ (n : Nat), (∀ i, i < n → ∃ e, p i e) → ∃ l : List α, l.length = n ∧ ∀ i e, l[i]? = some e → p i e := by
  intro n
  induction n with
  | zero => intro _; exact ⟨[], rfl, fun i e h => by simp at h⟩
  | succ n ih =>
    intro h
    obtain ⟨l, hl, hp⟩ := ih fun i hi => h i (by omega)
    obtain ⟨e, he⟩ := h n (by omega)
    refine ⟨l ++ [e], by simp [hl], fun i f hf => ?_⟩
    rcases Nat.lt_or_ge i n with hi | hi
    · rw [List.getElem?_append_left (by omega)] at hf
      exact hp i f hf
    · rw [List.getElem?_append_right (by omega)] at hf
      have hi' : i = n := by
        have := (List.getElem?_eq_some_iff.1 hf).1
        simp at this
        omega
      subst hi'
      simp [hl] at hf
      subst hf
      exact he
theorem cell_lt {w : World} {b o : Nat} {v : Value} (h : w.cell? ⟨b, o, none⟩ = some v) : b < w.heap.size := by
  unfold World.cell? at h
  rcases Nat.lt_or_ge b w.heap.size with hl | hl
  · exact hl
  · rw [Array.getElem?_eq_none hl] at h; simp at h
/-- A slice of elements of st cells each, of which one is opened by hel. -/
theorem arr_of_fuel {α : Type} {TS TE : TypeId} {st : Nat} (hu : Try.prog.underlying TS = some (.slice TE)) (hc : Try.prog.cellsOf TE = st) (h0 : 0 < st) (cX : α → List Value) (ok : α → Prop)
    (hel : ∀ (fuel : Nat) (cs : List Value) (x : DataW H × List MemPlace), DataW.trod enc Try.prog W 0 (fun _ => true) true fuel TE cs = some x → ∃ a, cs = cX a ∧ ok a) (hlen : ∀ a, ok a → (cX a).length = st)
    {fuel : Nat} {A : Option Addr} {n c : Nat} {x : DataW H × List MemPlace} (hf : DataW.trod enc Try.prog W 0 (fun _ => true) true fuel TS [.slice A n c] = some x) : ∃ l : List α, l.length = n ∧ (∀ a ∈ l, ok a) ∧ Arr W (.slice A n c) st (l.map cX) := by
  rcases open_slice hu hf with ⟨hcs, _⟩ | ⟨a, len0, cap0, m, n', D, Pl, hcs, _, hlc, hcm, hm, hx, hi⟩
  · simp at hcs
    obtain ⟨rfl, rfl, rfl⟩ := hcs
    exact ⟨[], rfl, (fun a h => by cases h), arr_nil _ _⟩
  · simp at hcs
    obtain ⟨rfl, rfl, rfl⟩ := hcs
    simp only [if_true] at hm
    subst hm
    obtain ⟨l, hl', hq⟩ := list_of (p := fun i (e : α) => ok e ∧ ∀ (j : Nat) (u : Value), (cX e)[j]? = some u → W.cell? ((a.add (i * st)).add j) = some u) n (fun i hi' => by
      obtain ⟨cs', hcc, ht⟩ := hi i (by omega)
      rw [hc] at hcc
      obtain ⟨hlen', _, hat⟩ := World.cells?_some hcc
      obtain ⟨e, rfl, he⟩ := hel _ _ _ ht
      refine ⟨e, he, fun j u hj => ?_⟩
      have hjl := (List.getElem?_eq_some_iff.1 hj).1
      rw [hlen e he] at hjl
      rw [hat j hjl, hj])
    refine ⟨l, hl', fun e he => ?_, some a, _, by rw [List.length_map, hl'], by rw [List.length_map]; omega, hcm, ?_⟩
    · obtain ⟨i, hi'⟩ := List.mem_iff_getElem?.1 he
      exact (hq i e hi').1
    · rcases Nat.eq_zero_or_pos n with hz | hz
      · exact ⟨0, 0, fun h => by rw [List.length_map] at h; omega, fun i r h => by have := (List.getElem?_eq_some_iff.1 h).1; rw [List.length_map] at this; omega⟩
      · obtain ⟨b, off, spot⟩ := a
        obtain ⟨e, he⟩ : ∃ e, l[0]? = some e := ⟨l[0]'(by omega), List.getElem?_eq_getElem (by omega)⟩
        obtain ⟨hoke, hce⟩ := hq 0 e he
        have hle := hlen e hoke
        have hc0 := hce 0 ((cX e)[0]'(by omega)) (List.getElem?_eq_getElem (by omega))
        have hsp : spot = none := by
          have := hc0
          simp [Addr.add] at this
          exact World.cell?_spot this
        subst hsp
        rw [add_at, add_at] at hc0
        refine ⟨b, off, fun _ => ⟨rfl, cell_lt hc0⟩, fun i r hr j u hu => ?_⟩
        rw [List.getElem?_map] at hr
        obtain ⟨e', he', rfl⟩ := Option.map_eq_some_iff.1 hr
        have h0 := (hq i e' he').2 j u hu
        rw [add_at, add_at] at h0
        exact h0
theorem i64_of {fuel : Nat} {cs : List Value} {x : DataW H × List MemPlace} (h : DataW.trod enc Try.prog W 0 (fun _ => true) true fuel 3 cs = some x) : ∃ y : Int, cs = [.int .i64 y] ∧ -9223372036854775808 ≤ y ∧ y ≤ 9223372036854775807 := by
  obtain ⟨s, e0, _, w0⟩ := DataW.trod_int Try.underlying3 h
  have := bounds_i64 w0
  exact ⟨s, e0, by omega, by omega⟩
theorem byte_of {fuel : Nat} {cs : List Value} {x : DataW H × List MemPlace} (h : DataW.trod enc Try.prog W 0 (fun _ => true) true fuel 5 cs = some x) : ∃ y : Nat, cs = [byteV y] ∧ y < 256 := by
  obtain ⟨s, e0, _, w0⟩ := DataW.trod_int Try.underlying5 h
  have hb := bounds_u8 w0
  obtain ⟨y, rfl⟩ := Int.eq_ofNat_of_zero_le hb.1
  exact ⟨y, e0, by omega⟩
set_option maxRecDepth 100000 in
theorem sector_of {fuel : Nat} {cs : List Value} {x : DataW H × List MemPlace} (h : DataW.trod enc Try.prog W 0 (fun _ => true) true fuel 58 cs = some x) : ∃ s : List Nat, cs = cSec s ∧ s.length = 8 ∧ B8 s := by
  obtain ⟨xs, m, _, _, hlen, hn, hel⟩ := DataW.trod_array Try.underlying58 h
  rw [cells58] at hlen
  obtain ⟨s, hs, hp⟩ := list_of (p := fun j (y : Nat) => y < 256 ∧ cs[j]? = some (byteV y)) 8 (fun j hj => by
    have h1 := hel j hj
    rw [cells5, Nat.mul_one, List.getElem?_eq_getElem (show j < xs.length by omega)] at h1
    have e : (cs.drop j).take 1 = [cs[j]'(by omega)] := by
      rw [List.drop_eq_getElem_cons (by omega)]
      rfl
    rw [e] at h1
    obtain ⟨y, hy, hyl⟩ := byte_of h1
    injection hy with hy _
    exact ⟨y, hyl, by rw [List.getElem?_eq_getElem (show j < cs.length by omega), hy]⟩)
  refine ⟨s, ?_, hs, fun y hy => ?_⟩
  · apply List.ext_getElem?
    intro j
    unfold cSec
    rw [List.getElem?_map]
    rcases Nat.lt_or_ge j 8 with hj | hj
    · obtain ⟨y, hy⟩ : ∃ y, s[j]? = some y := ⟨s[j]'(by omega), List.getElem?_eq_getElem (by omega)⟩
      rw [hy, (hp j y hy).2]
      rfl
    · rw [List.getElem?_eq_none (by omega), List.getElem?_eq_none (by omega)]
      rfl
  · obtain ⟨j, hj⟩ := List.mem_iff_getElem?.1 hy
    exact (hp j y hj).1
set_option maxRecDepth 100000 in
theorem sec_of_fuel {fuel : Nat} {A : Option Addr} {n c : Nat} {x : DataW H × List MemPlace} (hf : DataW.trod enc Try.prog W 0 (fun _ => true) true fuel 40 [.slice A n c] = some x) : ∃ l, Sec W (.slice A n c) l := by
  obtain ⟨l, _, h8, ha⟩ := arr_of_fuel (α := List Nat) Try.underlying40 cells58 (by decide) cSec (fun s => s.length = 8 ∧ B8 s) (fun _ _ _ h => sector_of h) (fun s h => by unfold cSec; rw [List.length_map]; exact h.1) hf
  exact ⟨l, h8, ha⟩
theorem slice_of {fuel : Nat} {TS TE : TypeId} (hu : Try.prog.underlying TS = some (.slice TE)) {c : Value} {x : DataW H × List MemPlace} (hf : DataW.trod enc Try.prog W 0 (fun _ => true) true fuel TS [c] = some x) : ∃ A n k, c = .slice A n k ∧ NilOk (.slice A n k) := by
  rcases open_slice hu hf with ⟨hcs, _⟩ | ⟨a, len0, cap0, m, n', D, Pl, hcs, _⟩
  · simp at hcs
    exact ⟨_, _, _, hcs, nilOk_nil⟩
  · simp at hcs
    exact ⟨_, _, _, hcs, nilOk_some _ _ _⟩
set_option maxRecDepth 100000 in
theorem img_of_fuel {fuel : Nat} {A : Option Addr} {n c : Nat} {x : DataW H × List MemPlace} (hf : DataW.trod enc Try.prog W 0 (fun _ => true) true fuel 24 [.slice A n c] = some x) : ∃ l, Img W (.slice A n c) l := by
  obtain ⟨l, _, h8, ha⟩ := arr_of_fuel (α := Vol) Try.underlying24 cells40 (by decide) cVol (fun x => Sec W x.d x.l ∧ NilOk x.d) (fun _ cs _ h => by
    have hl : cs.length = 1 := by
      rcases open_slice Try.underlying40 h with ⟨hcs, _⟩ | ⟨a, len0, cap0, m, n', D, Pl, hcs, _⟩
      · rw [hcs]; rfl
      · rw [hcs]; rfl
    match cs, hl with
    | [c0], _ =>
      obtain ⟨A, n, k, rfl, hn⟩ := slice_of Try.underlying40 h
      obtain ⟨ll, hll⟩ := sec_of_fuel h
      exact ⟨⟨_, ll⟩, rfl, hll, hn⟩) (fun _ _ => rfl) hf
  exact ⟨l, h8, ha⟩
set_option maxRecDepth 100000 in
theorem img_of_trod {base : Nat} {v : Value} {d : DataW H} {p : List MemPlace} (hv : Value.okWide Try.prog W .any base 24 v) (h : DataW.Trod enc Try.prog W 0 (fun _ => true) true 24 v d p) : ∃ l, Img W v l := by
  obtain ⟨a0, len0, cap0, rfl⟩ := okWide_slice Try.underlying24 hv
  obtain ⟨fuel, hf⟩ := h
  exact img_of_fuel hf
set_option maxRecDepth 100000 in
theorem ext_of_trod {base : Nat} {v : Value} {d : DataW H} {p : List MemPlace} (hv : Value.okWide Try.prog W .any base 51 v) (h : DataW.Trod enc Try.prog W 0 (fun _ => true) true 51 v d p) : ∃ s m : Int, v = .agg #[.int .i64 s, .int .i64 m] ∧ R64 s ∧ R64 m := by
  obtain ⟨cs0, rfl, hsz⟩ := okWide_struct Try.underlying51 hv
  obtain ⟨fuel, hf⟩ := h
  obtain ⟨y0, y1, m0, _, _, h0, h1⟩ := trod_struct2 Try.underlying51 hf
  rw [cells51] at hsz
  obtain ⟨cs⟩ := cs0
  match cs, hsz with
  | [c0, c1], _ =>
    simp only [cells3, Value.cells, List.drop, List.take] at h0 h1
    obtain ⟨a, ea, ra⟩ := i64_of h0
    obtain ⟨b, eb, rb⟩ := i64_of h1
    injection ea with ea _
    injection eb with eb _
    subst ea eb
    exact ⟨a, b, rfl, ra, rb⟩
end Go.Proofs.Ytbcnikmhodkbfaa
