/- The law DictionaryUnpacks is proved: Unpack answers as the reference does, for all bytes, dictionaries and limits; what came in reads as before. No condition. -/
import Derived.Test.YtldlddoealpomaaUu
import Derived.Test.YtldlddoealpomaaGa
import Derived.ProofKit
import Derived.Deep.Slices
import Derived.OpenShut
import Derived.KernelRfl
import Derived.Laws.IdiomArrays
namespace Go.Proofs.Ytldlddoealpomaa.Rl
open Go.ChangeShapes Go.WideShapes Go.ChangeAt Go.RowKit Go.Deep

theorem Try.own : ownKnob Try.prog.godebug = none := by kernel_rfl
theorem Try.laidOut : laidOutB Try.prog = true := by kernel_rfl
theorem cells5 : Try.prog.cellsOf 5 = 1 := by kernel_rfl
theorem cells3 : Try.prog.cellsOf 3 = 1 := by kernel_rfl
theorem cells22 : Try.prog.cellsOf 22 = 1 := by kernel_rfl
theorem cells30 : Try.prog.cellsOf 33 = 1 := by kernel_rfl
theorem cells59 : Try.prog.cellsOf 44 = 8 := by kernel_rfl
theorem read22 : Try.prog.readableRec 22 = true := by kernel_rfl
theorem row22 : 22 < Try.prog.types.size := of_decide_eq_true (by kernel_rfl)
variable {H : Type} {enc : TypeId × Value → H} {W : World}
theorem list_of {α : Type} {p : Nat → α → Prop} : ∀ (n : Nat), (∀ i, i < n → ∃ e, p i e) → ∃ l : List α, l.length = n ∧ ∀ i e, l[i]? = some e → p i e := by
  intro n
  induction n with
  | zero => intro _; exact ⟨[], rfl, fun i e h => by simp at h⟩
  | succ n ih =>
    intro h
    obtain ⟨l, hl, hp⟩ := ih fun i hi => h i (by omega)
    obtain ⟨e, he⟩ := h n (by omega)
    refine ⟨l ++ [e], by simp [hl], fun i f hf => ?_⟩
    rcases Nat.lt_or_ge i n with hi | hi
    · rw [List.getElem?_append_left (by omega)] at hf
      exact hp i f hf
    · rw [List.getElem?_append_right (by omega)] at hf
      have hi' : i = n := by
        have := (List.getElem?_eq_some_iff.1 hf).1
        simp at this
        omega
      subst hi'
      simp [hl] at hf
      subst hf
      exact he
theorem cell_lt {w : World} {b o : Nat} {v : Value} (h : w.cell? ⟨b, o, none⟩ = some v) : b < w.heap.size := by
  unfold World.cell? at h
  rcases Nat.lt_or_ge b w.heap.size with hl | hl
  · exact hl
  · rw [Array.getElem?_eq_none hl] at h; simp at h
theorem add_at (b off k : Nat) : (⟨b, off, none⟩ : Addr).add k = ⟨b, off + k, none⟩ := by unfold Addr.add; split <;> simp_all
/-- A slice of elements of st cells each, of which one is opened by hel. -/
theorem arr_of_fuel {α : Type} {TS TE : TypeId} {st : Nat} (hu : Try.prog.underlying TS = some (.slice TE)) (hc : Try.prog.cellsOf TE = st) (h0 : 0 < st) (cX : α → List Value) (ok : α → Prop)
    (hel : ∀ (fuel : Nat) (cs : List Value) (x : DataW H × List MemPlace), DataW.trod enc Try.prog W 0 (fun _ => true) true fuel TE cs = some x → ∃ a, cs = cX a ∧ ok a) (hlen : ∀ a, ok a → (cX a).length = st)
    {fuel : Nat} {A : Option Addr} {n c : Nat} {x : DataW H × List MemPlace} (hf : DataW.trod enc Try.prog W 0 (fun _ => true) true fuel TS [.slice A n c] = some x) : ∃ l : List α, l.length = n ∧ (∀ a ∈ l, ok a) ∧ Arr W (.slice A n c) st (l.map cX) := by
  rcases open_slice hu hf with ⟨hcs, _⟩ | ⟨a, len0, cap0, m, n', D, Pl, hcs, _, hlc, hcm, hm, hx, hi⟩
  · simp at hcs
    obtain ⟨rfl, rfl, rfl⟩ := hcs
    exact ⟨[], rfl, (fun a h => by cases h), arr_nil _ _⟩
  · simp at hcs
    obtain ⟨rfl, rfl, rfl⟩ := hcs
    simp only [if_true] at hm
    subst hm
    obtain ⟨l, hl', hq⟩ := list_of (p := fun i (e : α) => ok e ∧ ∀ (j : Nat) (u : Value), (cX e)[j]? = some u → W.cell? ((a.add (i * st)).add j) = some u) n (fun i hi' => by
      obtain ⟨cs', hcc, ht⟩ := hi i (by omega)
      rw [hc] at hcc
      obtain ⟨hlen', _, hat⟩ := World.cells?_some hcc
      obtain ⟨e, rfl, he⟩ := hel _ _ _ ht
      refine ⟨e, he, fun j u hj => ?_⟩
      have hjl := (List.getElem?_eq_some_iff.1 hj).1
      rw [hlen e he] at hjl
      rw [hat j hjl, hj])
    refine ⟨l, hl', fun e he => ?_, some a, _, by rw [List.length_map, hl'], by rw [List.length_map]; omega, hcm, ?_⟩
    · obtain ⟨i, hi'⟩ := List.mem_iff_getElem?.1 he
      exact (hq i e hi').1
    · rcases Nat.eq_zero_or_pos n with hz | hz
      · exact ⟨0, 0, fun h => by rw [List.length_map] at h; omega, fun i r h => by have := (List.getElem?_eq_some_iff.1 h).1; rw [List.length_map] at this; omega⟩
      · obtain ⟨b, off, spot⟩ := a
        obtain ⟨e, he⟩ : ∃ e, l[0]? = some e := ⟨l[0]'(by omega), List.getElem?_eq_getElem (by omega)⟩
        obtain ⟨hoke, hce⟩ := hq 0 e he
        have hle := hlen e hoke
        have hc0 := hce 0 ((cX e)[0]'(by omega)) (List.getElem?_eq_getElem (by omega))
        have hsp : spot = none := by
          have := hc0
          simp [Addr.add] at this
          exact World.cell?_spot this
        subst hsp
        rw [add_at, add_at] at hc0
        refine ⟨b, off, fun _ => ⟨rfl, cell_lt hc0⟩, fun i r hr j u hu => ?_⟩
        rw [List.getElem?_map] at hr
        obtain ⟨e', he', rfl⟩ := Option.map_eq_some_iff.1 hr
        have h0 := (hq i e' he').2 j u hu
        rw [add_at, add_at] at h0
        exact h0
theorem i64_of {fuel : Nat} {cs : List Value} {x : DataW H × List MemPlace} (h : DataW.trod enc Try.prog W 0 (fun _ => true) true fuel 3 cs = some x) : ∃ y : Int, cs = [.int .i64 y] ∧ -9223372036854775808 ≤ y ∧ y ≤ 9223372036854775807 := by
  obtain ⟨s, e0, _, w0⟩ := DataW.trod_int Try.underlying3 h
  have := bounds_i64 w0
  exact ⟨s, e0, by omega, by omega⟩
theorem byte_of {fuel : Nat} {cs : List Value} {x : DataW H × List MemPlace} (h : DataW.trod enc Try.prog W 0 (fun _ => true) true fuel 5 cs = some x) : ∃ y : Nat, cs = [byteV y] ∧ y < 256 := by
  obtain ⟨s, e0, _, w0⟩ := DataW.trod_int Try.underlying5 h
  have hb := bounds_u8 w0
  obtain ⟨y, rfl⟩ := Int.eq_ofNat_of_zero_le hb.1
  exact ⟨y, e0, by omega⟩
theorem byt_of_arr {A : Option Addr} {n c : Nat} {l : List Nat} (h8 : ∀ x ∈ l, x < 256) (h : Arr W (.slice A n c) 1 (l.map fun x => [byteV x])) : Byt W (.slice A n c) l := by
  obtain ⟨A', c', e, h1, h2, b, off, hA, hc⟩ := h
  rw [List.length_map] at e h1 hA
  refine ⟨h8, A', c', e, h1, h2, b, off, hA, fun i x hx => ?_⟩
  have h := hc i [byteV x] (by rw [List.getElem?_map, hx]; rfl) 0 _ rfl
  rw [Nat.mul_one, Nat.add_zero] at h
  exact h
theorem byt_of_fuel {fuel : Nat} {A : Option Addr} {n c : Nat} {x : DataW H × List MemPlace} (hf : DataW.trod enc Try.prog W 0 (fun _ => true) true fuel 22 [.slice A n c] = some x) : ∃ l, Byt W (.slice A n c) l := by
  obtain ⟨l, _, h8, ha⟩ := arr_of_fuel (α := Nat) Try.underlying22 cells5 (by decide) (fun x => [byteV x]) (fun x => x < 256) (fun _ _ _ h => byte_of h) (fun _ _ => rfl) hf
  exact ⟨l, byt_of_arr h8 ha⟩
set_option maxRecDepth 100000 in
theorem sector_of {fuel : Nat} {cs : List Value} {x : DataW H × List MemPlace} (h : DataW.trod enc Try.prog W 0 (fun _ => true) true fuel 44 cs = some x) : ∃ s : List Nat, cs = cSec s ∧ s.length = 8 ∧ B8 s := by
  obtain ⟨xs, m, _, _, hlen, hn, hel⟩ := DataW.trod_array Try.underlying44 h
  rw [cells59] at hlen
  obtain ⟨s, hs, hp⟩ := list_of (p := fun j (y : Nat) => y < 256 ∧ cs[j]? = some (byteV y)) 8 (fun j hj => by
    have h1 := hel j hj
    rw [cells5, Nat.mul_one, List.getElem?_eq_getElem (show j < xs.length by omega)] at h1
    have e : (cs.drop j).take 1 = [cs[j]'(by omega)] := by
      rw [List.drop_eq_getElem_cons (by omega)]
      rfl
    rw [e] at h1
    obtain ⟨y, hy, hyl⟩ := byte_of h1
    injection hy with hy _
    exact ⟨y, hyl, by rw [List.getElem?_eq_getElem (show j < cs.length by omega), hy]⟩)
  refine ⟨s, ?_, hs, fun y hy => ?_⟩
  · apply List.ext_getElem?
    intro j
    unfold cSec
    rw [List.getElem?_map]
    rcases Nat.lt_or_ge j 8 with hj | hj
    · obtain ⟨y, hy⟩ : ∃ y, s[j]? = some y := ⟨s[j]'(by omega), List.getElem?_eq_getElem (by omega)⟩
      rw [hy, (hp j y hy).2]
      rfl
    · rw [List.getElem?_eq_none (by omega), List.getElem?_eq_none (by omega)]
      rfl
  · obtain ⟨j, hj⟩ := List.mem_iff_getElem?.1 hy
    exact (hp j y hj).1
set_option maxRecDepth 100000 in
theorem sec_of_fuel {fuel : Nat} {A : Option Addr} {n c : Nat} {x : DataW H × List MemPlace} (hf : DataW.trod enc Try.prog W 0 (fun _ => true) true fuel 33 [.slice A n c] = some x) : ∃ l, Sec W (.slice A n c) l := by
  obtain ⟨l, _, h8, ha⟩ := arr_of_fuel (α := List Nat) Try.underlying33 cells59 (by decide) cSec (fun s => s.length = 8 ∧ B8 s) (fun _ _ _ h => sector_of h) (fun s h => by unfold cSec; rw [List.length_map]; exact h.1) hf
  exact ⟨l, h8, ha⟩
set_option maxRecDepth 100000 in
theorem byt_of_trod {base : Nat} {v : Value} {d : DataW H} {p : List MemPlace} (hv : Value.okWide Try.prog W .any base 22 v) (h : DataW.Trod enc Try.prog W 0 (fun _ => true) true 22 v d p) : ∃ l, Byt W v l := by
  obtain ⟨a0, len0, cap0, rfl⟩ := okWide_slice Try.underlying22 hv
  obtain ⟨fuel, hf⟩ := h
  exact byt_of_fuel hf
set_option maxRecDepth 100000 in
theorem nil_of_trod {base : Nat} {v : Value} {d : DataW H} {p : List MemPlace} (hv : Value.okWide Try.prog W .any base 22 v) (h : DataW.Trod enc Try.prog W 0 (fun _ => true) true 22 v d p) : NilOk v := by
  obtain ⟨a0, len0, cap0, rfl⟩ := okWide_slice Try.underlying22 hv
  obtain ⟨fuel, hf⟩ := h
  intro n c e
  injection e with e1 e2 e3
  subst e1 e2 e3
  rcases open_slice Try.underlying22 hf with ⟨hcs, _⟩ | ⟨a, len, cap, m, n', D, Pl, hcs, _⟩
  · simp [Value.cells] at hcs
    exact hcs.2
  · simp [Value.cells] at hcs
set_option maxRecDepth 100000 in
theorem u16_nat {x : Int} (h : (Lit.int .u16 x).wf = true) : ∃ y : Nat, x = (y : Int) ∧ y < 65536 := by
  have hb := bounds_u16 h
  obtain ⟨y, rfl⟩ := Int.eq_ofNat_of_zero_le hb.1
  exact ⟨y, rfl, by omega⟩
end Go.Proofs.Ytldlddoealpomaa.Rl

namespace Go.Proofs.Ytldlddoealpomaa
open Rl
open Go.ChangeShapes Go.WideShapes Go.ChangeAt Go.RowKit Go.Deep

set_option maxRecDepth 100000 in
theorem dictionaryUnpacks_lifted (os : Os) (started : os.Started) (H : Type) (enc : TypeId × Value → H) :
    ReturnsInHanded {} Try.checked os 6 .any (Rows.dictionaryUnpacksSpec.pre6 enc Try.prog Try.f6 Rows.dictionaryUnpacksRow.domain false) (Rows.dictionaryUnpacksSpec.post enc Try.prog Try.f6 false true false false) := by
  refine returnsInHanded_of_change (C := Try.checked) Try.own started (by kernel_rfl) Try.func6
    (ChangeSpec.witness6 (enc := enc) (C := Try.checked) false ⟨#[], #[.slice none 0 0, .slice none 0 0, .int .i64 0], []⟩ 8 (by kernel_rfl) (by kernel_rfl) (by kernel_rfl) (by kernel_rfl)) ?_
  intro W base args ds gs before hval0 hW hcnd _
  have hval : ∀ (j : Nat) t v, Try.f6.params[j]? = some t → args[j]? = some v → Value.okWide Try.prog W .any base t v := hval0
  have hW' := hW
  obtain ⟨p, q, hA0, hV, rfl, hfz, hnd⟩ := hW
  have hA : DataW.TrodAll enc Try.prog W 0 (fun _ => true) true Try.f6.params.toList args.toList ds p := hA0
  rw [Try.params6] at hA hval
  obtain ⟨v0, v1, v2, d0, d1, d2, p0, p1, p2, rfl, rfl, rfl, h0, h1, h2⟩ := trodAll_three hA
  obtain ⟨rfl, rfl⟩ := trodVars_none hV
  obtain ⟨l0, hx0⟩ := byt_of_trod (hval 0 22 v0 rfl rfl) h0
  have hn0 := nil_of_trod (hval 0 22 v0 rfl rfl) h0
  obtain ⟨l1, hx1⟩ := byt_of_trod (hval 1 22 v1 rfl rfl) h1
  have hn1 := nil_of_trod (hval 1 22 v1 rfl rfl) h1
  obtain ⟨b2, rfl, rfl, rfl, wb2⟩ := open_int Try.underlying3 (hval 2 3 v2 rfl rfl) h2
  clear hA0 hval0
  simp only [List.append_nil] at hW'
  have hlt0 : ∀ x ∈ p0, x.block < W.heap.size := fun x hx => hW'.lt x (by simp [hx])
  have hlt1 : ∀ x ∈ p1, x.block < W.heap.size := fun x hx => hW'.lt x (by simp [hx])
  refine (unpacks_walk l0 l1 b2 v0 v1 W hx0 hn0 hx1 hn1 (by have := bounds_i64 wb2; omega)).mono fun e W' ⟨he, hb⟩ => ?_
  subst he
  exact ⟨_, rfl, _, _, _, [], _, [], hW', trodAll_mk1 (shut_bool Try.underlying4 _), trodAll_mk3 (Below.trod Try.laidOut read22 row22 h0 hb hlt0) (Below.trod Try.laidOut read22 row22 h1 hb hlt1) (shut_int Try.underlying3 wb2), rfl, hb.frame _, fun h => by cases h⟩

theorem dictionaryUnpacks_holds : Rows.DictionaryUnpacksSaid :=
  OpenClaim.holds_of_wide 6 Try.f6 rfl rfl rfl rfl rfl rfl rfl ⟨rfl, rfl, rfl, rfl, rfl⟩ rfl rfl rfl rfl rfl (by kernel_rfl) Try.func6 (by kernel_rfl)
    (of_decide_eq_true (by kernel_rfl)) (by unfold Func.isWrapper; rw [if_neg (of_decide_eq_false (by kernel_rfl))]; exact ⟨rfl, rfl⟩)
    (fun os started H enc _ => dictionaryUnpacks_lifted os started H enc)
end Go.Proofs.Ytldlddoealpomaa
