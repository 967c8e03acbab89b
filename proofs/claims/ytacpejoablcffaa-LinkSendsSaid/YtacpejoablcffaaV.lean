/- Arguments opened. -/
import Derived.Test.YtacpejoablcffaaTb
import Derived.ProofKit
import Derived.Deep.Slices
import Derived.OpenShut
import Derived.KernelRfl
import Derived.Laws.IdiomArrays
import Derived.Deep.Strs
namespace Go.Proofs.Ytacpejoablcffaa
open Go.ChangeShapes Go.WideShapes Go.ChangeAt Go.RowKit Go.Deep
theorem Try.own : ownKnob Try.prog.godebug = none := by kernel_rfl
theorem Try.laidOut : laidOutB Try.prog = true := by kernel_rfl
theorem cells5 : Try.prog.cellsOf 5 = 1 := by kernel_rfl
theorem cells3 : Try.prog.cellsOf 3 = 1 := by kernel_rfl
theorem cellsB : Try.prog.cellsOf 37 = 1 := by kernel_rfl
variable {H : Type} {enc : TypeId × Value → H} {W : World}
theorem list_of {α : Type} {p : Nat → α → Prop} : ∀ (n : Nat), (∀ i, i < n → ∃ e, p i e) → ∃ l : List α, l.length = n ∧ ∀ i e, l[i]? = some e → p i e := by
  intro n
  induction n with
  | zero => intro _; exact ⟨[], rfl, fun i e h => by simp at h⟩
  | succ n ih =>
    intro h
    obtain ⟨l, hl, hp⟩ := ih fun i hi => h i (by omega)
    obtain ⟨e, he⟩ := h n (by omega)
    refine ⟨l ++ [e], by simp [hl], fun i f hf => ?_⟩
    rcases Nat.lt_or_ge i n with hi | hi
    · rw [List.getElem?_append_left (by omega)] at hf
      exact hp i f hf
    · rw [List.getElem?_append_right (by omega)] at hf
      have hi' : i = n := by
        have := (List.getElem?_eq_some_iff.1 hf).1
        simp at this
        omega
      subst hi'
      simp [hl] at hf
      subst hf
      exact he
theorem cell_lt {w : World} {b o : Nat} {v : Value} (h : w.cell? ⟨b, o, none⟩ = some v) : b < w.heap.size := by
  unfold World.cell? at h
  rcases Nat.lt_or_ge b w.heap.size with hl | hl
  · exact hl
  · rw [Array.getElem?_eq_none hl] at h; simp at h
/-- A slice of elements of st cells each, of which one is opened by hel. -/
theorem arr_of_fuel {α : Type} {TS TE : TypeId} {st : Nat} (hu : Try.prog.underlying TS = some (.slice TE)) (hc : Try.prog.cellsOf TE = st) (h0 : 0 < st) (cX : α → List Value) (ok : α → Prop)
    (hel : ∀ (fuel : Nat) (cs : List Value) (x : DataW H × List MemPlace), DataW.trod enc Try.prog W 0 (fun _ => true) true fuel TE cs = some x → ∃ a, cs = cX a ∧ ok a) (hlen : ∀ a, ok a → (cX a).length = st)
    {fuel : Nat} {A : Option Addr} {n c : Nat} {x : DataW H × List MemPlace} (hf : DataW.trod enc Try.prog W 0 (fun _ => true) true fuel TS [.slice A n c] = some x) : ∃ l : List α, l.length = n ∧ (∀ a ∈ l, ok a) ∧ Arr W (.slice A n c) st (l.map cX) := by
  rcases open_slice hu hf with ⟨hcs, _⟩ | ⟨a, len0, cap0, m, n', D, Pl, hcs, _, hlc, hcm, hm, hx, hi⟩
  · simp at hcs
    obtain ⟨rfl, rfl, rfl⟩ := hcs
    exact ⟨[], rfl, (fun a h => by cases h), arr_nil _ _⟩
  · simp at hcs
    obtain ⟨rfl, rfl, rfl⟩ := hcs
    simp only [if_true] at hm
    subst hm
    obtain ⟨l, hl', hq⟩ := list_of (p := fun i (e : α) => ok e ∧ ∀ (j : Nat) (u : Value), (cX e)[j]? = some u → W.cell? ((a.add (i * st)).add j) = some u) n (fun i hi' => by
      obtain ⟨cs', hcc, ht⟩ := hi i (by omega)
      rw [hc] at hcc
      obtain ⟨hlen', _, hat⟩ := World.cells?_some hcc
      obtain ⟨e, rfl, he⟩ := hel _ _ _ ht
      refine ⟨e, he, fun j u hj => ?_⟩
      have hjl := (List.getElem?_eq_some_iff.1 hj).1
      rw [hlen e he] at hjl
      rw [hat j hjl, hj])
    refine ⟨l, hl', fun e he => ?_, some a, _, by rw [List.length_map, hl'], by rw [List.length_map]; omega, hcm, ?_⟩
    · obtain ⟨i, hi'⟩ := List.mem_iff_getElem?.1 he
      exact (hq i e hi').1
    · rcases Nat.eq_zero_or_pos n with hz | hz
      · exact ⟨0, 0, fun h => by rw [List.length_map] at h; omega, fun i r h => by have := (List.getElem?_eq_some_iff.1 h).1; rw [List.length_map] at this; omega⟩
      · obtain ⟨b, off, spot⟩ := a
        obtain ⟨e, he⟩ : ∃ e, l[0]? = some e := ⟨l[0]'(by omega), List.getElem?_eq_getElem (by omega)⟩
        obtain ⟨hoke, hce⟩ := hq 0 e he
        have hle := hlen e hoke
        have hc0 := hce 0 ((cX e)[0]'(by omega)) (List.getElem?_eq_getElem (by omega))
        have hsp : spot = none := by
          have := hc0
          simp [Addr.add] at this
          exact World.cell?_spot this
        subst hsp
        rw [add_at, add_at] at hc0
        refine ⟨b, off, fun _ => ⟨rfl, cell_lt hc0⟩, fun i r hr j u hu => ?_⟩
        rw [List.getElem?_map] at hr
        obtain ⟨e', he', rfl⟩ := Option.map_eq_some_iff.1 hr
        have h0 := (hq i e' he').2 j u hu
        rw [add_at, add_at] at h0
        exact h0
theorem i64_of {fuel : Nat} {cs : List Value} {x : DataW H × List MemPlace} (h : DataW.trod enc Try.prog W 0 (fun _ => true) true fuel 3 cs = some x) : ∃ y : Int, cs = [.int .i64 y] ∧ -9223372036854775808 ≤ y ∧ y ≤ 9223372036854775807 := by
  obtain ⟨s, e0, _, w0⟩ := DataW.trod_int Try.underlying3 h
  have := bounds_i64 w0
  exact ⟨s, e0, by omega, by omega⟩
theorem byte_of {fuel : Nat} {cs : List Value} {x : DataW H × List MemPlace} (h : DataW.trod enc Try.prog W 0 (fun _ => true) true fuel 5 cs = some x) : ∃ y : Nat, cs = [byteV y] ∧ y < 256 := by
  obtain ⟨s, e0, _, w0⟩ := DataW.trod_int Try.underlying5 h
  have hb := bounds_u8 w0
  obtain ⟨y, rfl⟩ := Int.eq_ofNat_of_zero_le hb.1
  exact ⟨y, e0, by omega⟩
theorem byt_of_arr {A : Option Addr} {n c : Nat} {l : List Nat} (h8 : ∀ x ∈ l, x < 256) (h : Arr W (.slice A n c) 1 (l.map fun x => [byteV x])) : Byt W (.slice A n c) l := by
  obtain ⟨A', c', e, h1, h2, b, off, hA, hc⟩ := h
  rw [List.length_map] at e h1 hA
  refine ⟨h8, A', c', e, h1, h2, b, off, hA, fun i x hx => ?_⟩
  have h := hc i [byteV x] (by rw [List.getElem?_map, hx]; rfl) 0 _ rfl
  rw [Nat.mul_one, Nat.add_zero] at h
  exact h
theorem byt_of_fuel {fuel : Nat} {A : Option Addr} {n c : Nat} {x : DataW H × List MemPlace} (hf : DataW.trod enc Try.prog W 0 (fun _ => true) true fuel 37 [.slice A n c] = some x) : ∃ l, Byt W (.slice A n c) l := by
  obtain ⟨l, _, h8, ha⟩ := arr_of_fuel (α := Nat) Try.underlying37 cells5 (by decide) (fun x => [byteV x]) (fun x => x < 256) (fun _ _ _ h => byte_of h) (fun _ _ => rfl) hf
  exact ⟨l, byt_of_arr h8 ha⟩
set_option maxRecDepth 100000 in
theorem byt_of_trod {base : Nat} {v : Value} {d : DataW H} {p : List MemPlace} (hv : Value.okWide Try.prog W .any base 37 v) (h : DataW.Trod enc Try.prog W 0 (fun _ => true) true 37 v d p) : ∃ l, Byt W v l := by
  obtain ⟨a0, len0, cap0, rfl⟩ := okWide_slice Try.underlying37 hv
  obtain ⟨fuel, hf⟩ := h
  exact byt_of_fuel hf
set_option maxRecDepth 100000 in
theorem nil_of_trod {base : Nat} {v : Value} {d : DataW H} {p : List MemPlace} (hv : Value.okWide Try.prog W .any base 37 v) (h : DataW.Trod enc Try.prog W 0 (fun _ => true) true 37 v d p) : NilOk v := by
  obtain ⟨a0, len0, cap0, rfl⟩ := okWide_slice Try.underlying37 hv
  obtain ⟨fuel, hf⟩ := h
  intro n c e
  injection e with e1 e2 e3
  subst e1 e2 e3
  rcases open_slice Try.underlying37 hf with ⟨hcs, _⟩ | ⟨a, len, cap, m, n', D, Pl, hcs, _⟩
  · simp [Value.cells] at hcs
    exact hcs.2
  · simp [Value.cells] at hcs
theorem slice_of {fuel : Nat} {TS TE : TypeId} (hu : Try.prog.underlying TS = some (.slice TE)) {c : Value} {x : DataW H × List MemPlace} (hf : DataW.trod enc Try.prog W 0 (fun _ => true) true fuel TS [c] = some x) : ∃ A n k, c = .slice A n k ∧ NilOk (.slice A n k) := by
  rcases open_slice hu hf with ⟨hcs, _⟩ | ⟨a, len0, cap0, m, n', D, Pl, hcs, _⟩
  · simp at hcs
    exact ⟨_, _, _, hcs, nilOk_nil⟩
  · simp at hcs
    exact ⟨_, _, _, hcs, nilOk_some _ _ _⟩
theorem cells65 : Try.prog.cellsOf 65 = 1 := by kernel_rfl
theorem cells64 : Try.prog.cellsOf 64 = 2 := by kernel_rfl
theorem cells69 : Try.prog.cellsOf 69 = 3 := by kernel_rfl
theorem cells23 : Try.prog.cellsOf 23 = 3 := by kernel_rfl
theorem cells26 : Try.prog.cellsOf 26 = 7 := by kernel_rfl
theorem cells58 : Try.prog.cellsOf 58 = 5 := by kernel_rfl
theorem cells39 : Try.prog.cellsOf 39 = 2 := by kernel_rfl
theorem cells4 : Try.prog.cellsOf 4 = 1 := by kernel_rfl
theorem cells24 : Try.prog.cellsOf 24 = 1 := by kernel_rfl
theorem cells40 : Try.prog.cellsOf 40 = 1 := by kernel_rfl
theorem cells56 : Try.prog.cellsOf 56 = 1 := by kernel_rfl
theorem cellsB' : Try.prog.cellsOf 37 = 1 := by kernel_rfl
theorem readLink : Try.prog.readableRec 26 = true := by kernel_rfl
theorem rowLink : 26 < Try.prog.types.size := of_decide_eq_true (by kernel_rfl)
theorem readRun : Try.prog.readableRec 58 = true := by kernel_rfl
theorem rowRun : 58 < Try.prog.types.size := of_decide_eq_true (by kernel_rfl)
theorem readSent : Try.prog.readableRec 39 = true := by kernel_rfl
theorem rowSent : 39 < Try.prog.types.size := of_decide_eq_true (by kernel_rfl)
theorem readInts : Try.prog.readableRec 40 = true := by kernel_rfl
theorem rowInts : 40 < Try.prog.types.size := of_decide_eq_true (by kernel_rfl)
open Go.Lib in
theorem struct3 {t : TypeId} {f0 f1 f2 : Field} {fuel : Nat} {cs : List Value} {x : DataW H × List MemPlace} (ht : Try.prog.underlying t = some (.struct #[f0, f1, f2])) (h : DataW.trod enc Try.prog W 0 (fun _ => true) true fuel t cs = some x) :
    ∃ y0 y1 y2 n, cs.length = Try.prog.cellsOf t ∧ DataW.trod enc Try.prog W 0 (fun _ => true) true n f0.type ((cs.drop f0.offset).take (Try.prog.cellsOf f0.type)) = some y0 ∧
      DataW.trod enc Try.prog W 0 (fun _ => true) true n f1.type ((cs.drop f1.offset).take (Try.prog.cellsOf f1.type)) = some y1 ∧ DataW.trod enc Try.prog W 0 (fun _ => true) true n f2.type ((cs.drop f2.offset).take (Try.prog.cellsOf f2.type)) = some y2 := by
  obtain ⟨xs, n, _, rfl, hl, hlen, hf⟩ := DataW.trod_struct ht h
  match xs, hlen with
  | [y0, y1, y2], _ => exact ⟨y0, y1, y2, n, hl, by simpa using hf 0 f0 rfl, by simpa using hf 1 f1 rfl, by simpa using hf 2 f2 rfl⟩
theorem struct2 {t : TypeId} {f0 f1 : Field} {fuel : Nat} {cs : List Value} {x : DataW H × List MemPlace} (ht : Try.prog.underlying t = some (.struct #[f0, f1])) (h : DataW.trod enc Try.prog W 0 (fun _ => true) true fuel t cs = some x) :
    ∃ y0 y1 n, cs.length = Try.prog.cellsOf t ∧ DataW.trod enc Try.prog W 0 (fun _ => true) true n f0.type ((cs.drop f0.offset).take (Try.prog.cellsOf f0.type)) = some y0 ∧
      DataW.trod enc Try.prog W 0 (fun _ => true) true n f1.type ((cs.drop f1.offset).take (Try.prog.cellsOf f1.type)) = some y1 := by
  obtain ⟨xs, n, _, rfl, hl, hlen, hf⟩ := DataW.trod_struct ht h
  match xs, hlen with
  | [y0, y1], _ => exact ⟨y0, y1, n, hl, by simpa using hf 0 f0 rfl, by simpa using hf 1 f1 rfl⟩
theorem struct5 {t : TypeId} {f0 f1 f2 f3 f4 : Field} {fuel : Nat} {cs : List Value} {x : DataW H × List MemPlace} (ht : Try.prog.underlying t = some (.struct #[f0, f1, f2, f3, f4])) (h : DataW.trod enc Try.prog W 0 (fun _ => true) true fuel t cs = some x) :
    ∃ y0 y1 y2 y3 y4 n, cs.length = Try.prog.cellsOf t ∧ DataW.trod enc Try.prog W 0 (fun _ => true) true n f0.type ((cs.drop f0.offset).take (Try.prog.cellsOf f0.type)) = some y0 ∧
      DataW.trod enc Try.prog W 0 (fun _ => true) true n f1.type ((cs.drop f1.offset).take (Try.prog.cellsOf f1.type)) = some y1 ∧ DataW.trod enc Try.prog W 0 (fun _ => true) true n f2.type ((cs.drop f2.offset).take (Try.prog.cellsOf f2.type)) = some y2 ∧
      DataW.trod enc Try.prog W 0 (fun _ => true) true n f3.type ((cs.drop f3.offset).take (Try.prog.cellsOf f3.type)) = some y3 ∧ DataW.trod enc Try.prog W 0 (fun _ => true) true n f4.type ((cs.drop f4.offset).take (Try.prog.cellsOf f4.type)) = some y4 := by
  obtain ⟨xs, n, _, rfl, hl, hlen, hf⟩ := DataW.trod_struct ht h
  match xs, hlen with
  | [y0, y1, y2, y3, y4], _ => exact ⟨y0, y1, y2, y3, y4, n, hl, by simpa using hf 0 f0 rfl, by simpa using hf 1 f1 rfl, by simpa using hf 2 f2 rfl, by simpa using hf 3 f3 rfl, by simpa using hf 4 f4 rfl⟩
theorem cfg_of {fuel : Nat} {cs : List Value} {x : DataW H × List MemPlace} (h : DataW.trod enc Try.prog W 0 (fun _ => true) true fuel 23 cs = some x) : ∃ a b c : Int, cs = [.int .i64 a, .int .i64 b, .int .i64 c] := by
  obtain ⟨y0, y1, y2, m, hl, h0, h1, h2⟩ := struct3 Try.underlying23 h
  rw [cells23] at hl
  match cs, hl with
  | [c0, c1, c2], _ =>
    simp only [cells3, List.drop, List.take] at h0 h1 h2
    obtain ⟨a, ea, _⟩ := i64_of h0
    obtain ⟨b, eb, _⟩ := i64_of h1
    obtain ⟨c, ec, _⟩ := i64_of h2
    injection ea with ea _
    injection eb with eb _
    injection ec with ec _
    subst ea eb ec
    exact ⟨a, b, c, rfl⟩
def flOk (W : World) (x : Fl) : Prop := Byt W x.d x.p ∧ NilOk x.d ∧ R64 x.n
theorem fl_of_fuel1 {fuel : Nat} {cs : List Value} {x : DataW H × List MemPlace} (h : DataW.trod enc Try.prog W 0 (fun _ => true) true fuel 69 cs = some x) : ∃ a : Fl, cs = cFl a ∧ flOk W a := by
  obtain ⟨y0, y1, y2, m, hl, h0, h1, h2⟩ := struct3 Try.underlying69 h
  rw [cells69] at hl
  match cs, hl with
  | [c0, c1, c2], _ =>
    simp only [cells3, cellsB', List.drop, List.take] at h0 h1 h2
    obtain ⟨a, ea, _⟩ := i64_of h0
    obtain ⟨b, eb, rb⟩ := i64_of h1
    injection ea with ea _
    injection eb with eb _
    subst ea eb
    obtain ⟨A, n, k, rfl, hk⟩ := slice_of Try.underlying37 h2
    obtain ⟨ll, hll⟩ := byt_of_fuel h2
    exact ⟨⟨a, b, _, ll⟩, rfl, hll, hk, rb⟩
theorem fl_of_fuel {fuel : Nat} {A : Option Addr} {n c : Nat} {x : DataW H × List MemPlace} (hk : NilOk (.slice A n c)) (hf : DataW.trod enc Try.prog W 0 (fun _ => true) true fuel 24 [.slice A n c] = some x) : ∃ l : List Fl, FL W (.slice A n c) l ∧ ∀ x ∈ l, R64 x.n := by
  obtain ⟨l, _, h8, ha⟩ := arr_of_fuel (α := Fl) Try.underlying24 cells69 (by decide) cFl (flOk W) (fun _ _ _ h => fl_of_fuel1 h) (fun _ _ => rfl) hf
  exact ⟨l, ⟨fun x hx => ⟨(h8 x hx).1, (h8 x hx).2.1⟩, hk, ha⟩, fun x hx => (h8 x hx).2.2⟩
theorem ints_of_fuel {fuel : Nat} {A : Option Addr} {n c : Nat} {x : DataW H × List MemPlace} (hk : NilOk (.slice A n c)) (hf : DataW.trod enc Try.prog W 0 (fun _ => true) true fuel 40 [.slice A n c] = some x) : ∃ l : List Int, Ints W (.slice A n c) l := by
  obtain ⟨l, _, h8, ha⟩ := arr_of_fuel (α := Int) Try.underlying40 cells3 (by decide) (fun x => [intV x]) R64 (fun _ _ _ h => i64_of h) (fun _ _ => rfl) hf
  exact ⟨l, h8, hk, ha⟩
theorem st_of_fuel {fuel : Nat} {cs : List Value} {x : DataW H × List MemPlace} (h : DataW.trod enc Try.prog W 0 (fun _ => true) true fuel 64 cs = some x) : ∃ a : Nat × Nat, cs = [.int .u8 (a.1 : Int), .int .u8 (a.2 : Int)] ∧ (a.1 < 256 ∧ a.2 < 256) := by
  obtain ⟨y0, y1, m, hl, h0, h1⟩ := struct2 Try.underlying64 h
  rw [cells64] at hl
  match cs, hl with
  | [c0, c1], _ =>
    simp only [cells5, List.drop, List.take] at h0 h1
    obtain ⟨a, ea, ra⟩ := byte_of h0
    obtain ⟨b, eb, rb⟩ := byte_of h1
    injection ea with ea _
    injection eb with eb _
    subst ea eb
    exact ⟨(a, b), rfl, ra, rb⟩
theorem sts_of_fuel {fuel : Nat} {A : Option Addr} {n c : Nat} {x : DataW H × List MemPlace} (hf : DataW.trod enc Try.prog W 0 (fun _ => true) true fuel 56 [.slice A n c] = some x) : ∃ l : List (Nat × Nat), Sts W (.slice A n c) l := by
  obtain ⟨l, _, h8, ha⟩ := arr_of_fuel (α := Nat × Nat) Try.underlying56 cells64 (by decide) (fun x => [.int .u8 (x.1 : Int), .int .u8 (x.2 : Int)]) (fun x => x.1 < 256 ∧ x.2 < 256) (fun _ _ _ h => st_of_fuel h) (fun _ _ => rfl) hf
  exact ⟨l, h8, ha⟩
set_option maxRecDepth 100000 in
theorem ints_of_trod {base : Nat} {v : Value} {d : DataW H} {p : List MemPlace} (hv : Value.okWide Try.prog W .any base 40 v) (h : DataW.Trod enc Try.prog W 0 (fun _ => true) true 40 v d p) : ∃ l, Ints W v l := by
  obtain ⟨a0, len0, cap0, rfl⟩ := okWide_slice Try.underlying40 hv
  obtain ⟨fuel, hf⟩ := h
  obtain ⟨A, n, k, e, hk⟩ := slice_of Try.underlying40 hf
  rw [e] at hf ⊢
  exact ints_of_fuel hk hf
set_option maxRecDepth 100000 in
theorem link_of_trod {base : Nat} {v : Value} {d : DataW H} {p : List MemPlace} (hv : Value.okWide Try.prog W .any base 26 v) (h : DataW.Trod enc Try.prog W 0 (fun _ => true) true 26 v d p) : ∃ (s : Lk) (u : Value) (l : List Fl), v = vLk s u ∧ FL W u l ∧ ∀ x ∈ l, R64 x.n := by
  have h24 : ∃ cs, v = .agg cs := by
    simp only [Value.okWide, Try.underlying26] at hv
    obtain ⟨cs, h1, _⟩ := hv
    exact ⟨cs, h1⟩
  obtain ⟨cs0, rfl⟩ := h24
  obtain ⟨fuel, hf⟩ := h
  obtain ⟨y0, y1, y2, y3, y4, m, hl, h0, h1, h2, h3, h4⟩ := struct5 Try.underlying26 hf
  rw [cells26] at hl
  simp only [Value.cells] at hl h0 h1 h2 h3 h4
  obtain ⟨L0⟩ := cs0
  simp only at hl h0 h1 h2 h3 h4
  match L0, hl with
  | [c0, c1, c2, c3, c4, c5, c6], _ =>
    simp only [cells3, cells4, cells23, cells24, List.drop, List.take] at h0 h1 h2 h3 h4
    obtain ⟨a, b, c, e0⟩ := cfg_of h0
    simp only [List.cons.injEq, and_true] at e0
    obtain ⟨rfl, rfl, rfl⟩ := e0
    obtain ⟨dn, e1, _⟩ := DataW.trod_bool Try.underlying4 h1
    injection e1 with e1 _
    subst e1
    obtain ⟨id, e2, _⟩ := i64_of h2
    obtain ⟨nx, e3, _⟩ := i64_of h3
    injection e2 with e2 _
    injection e3 with e3 _
    subst e2 e3
    obtain ⟨A, n, k, rfl, hk⟩ := slice_of Try.underlying24 h4
    obtain ⟨ll, hll, hr⟩ := fl_of_fuel hk h4
    exact ⟨⟨a, b, c, dn, id, nx⟩, _, ll, rfl, hll, hr⟩
set_option maxRecDepth 100000 in
theorem run_of_trod {base : Nat} {v : Value} {d : DataW H} {p : List MemPlace} (hv : Value.okWide Try.prog W .any base 58 v) (h : DataW.Trod enc Try.prog W 0 (fun _ => true) true 58 v d p) : ∃ (mn mx rt : Int) (sv cv : Value) (sts : List (Nat × Nat)) (ch : List Int), v = .agg #[.int .i64 mn, .int .i64 mx, .int .i64 rt, sv, cv] ∧ Sts W sv sts ∧ Ints W cv ch := by
  have h24 : ∃ cs, v = .agg cs := by
    simp only [Value.okWide, Try.underlying58] at hv
    obtain ⟨cs, h1, _⟩ := hv
    exact ⟨cs, h1⟩
  obtain ⟨cs0, rfl⟩ := h24
  obtain ⟨fuel, hf⟩ := h
  obtain ⟨y0, y1, y2, m, hl, h0, h1, h2⟩ := struct3 Try.underlying58 hf
  rw [cells58] at hl
  simp only [Value.cells] at hl h0 h1 h2
  obtain ⟨L0⟩ := cs0
  simp only at hl h0 h1 h2
  match L0, hl with
  | [c0, c1, c2, c3, c4], _ =>
    simp only [cells23, cells56, cells40, List.drop, List.take] at h0 h1 h2
    obtain ⟨a, b, c, e0⟩ := cfg_of h0
    simp only [List.cons.injEq, and_true] at e0
    obtain ⟨rfl, rfl, rfl⟩ := e0
    obtain ⟨A, n, k, rfl, hk⟩ := slice_of Try.underlying56 h1
    obtain ⟨A2, n2, k2, rfl, hk2⟩ := slice_of Try.underlying40 h2
    obtain ⟨sl, hsl⟩ := sts_of_fuel h1
    obtain ⟨cl, hcl⟩ := ints_of_fuel hk2 h2
    exact ⟨a, b, c, _, _, sl, cl, rfl, hsl, hcl⟩
set_option maxRecDepth 100000 in
theorem sent_of_trod {base : Nat} {v : Value} {d : DataW H} {p : List MemPlace} (hv : Value.okWide Try.prog W .any base 39 v) (h : DataW.Trod enc Try.prog W 0 (fun _ => true) true 39 v d p) : ∃ (now : Int) (pv : Value) (l : List Nat), v = .agg #[.int .i64 now, pv] ∧ Byt W pv l ∧ NilOk pv := by
  have h24 : ∃ cs, v = .agg cs := by
    simp only [Value.okWide, Try.underlying39] at hv
    obtain ⟨cs, h1, _⟩ := hv
    exact ⟨cs, h1⟩
  obtain ⟨cs0, rfl⟩ := h24
  obtain ⟨fuel, hf⟩ := h
  obtain ⟨y0, y1, m, hl, h0, h1⟩ := struct2 Try.underlying39 hf
  rw [cells39] at hl
  simp only [Value.cells] at hl h0 h1
  obtain ⟨L0⟩ := cs0
  simp only at hl h0 h1
  match L0, hl with
  | [c0, c1], _ =>
    simp only [cells3, cellsB', List.drop, List.take] at h0 h1
    obtain ⟨b, eb, rb⟩ := i64_of h0
    injection eb with eb _
    subst eb
    obtain ⟨A, n, k, rfl, hk⟩ := slice_of Try.underlying37 h1
    obtain ⟨ll, hll⟩ := byt_of_fuel h1
    exact ⟨b, _, ll, rfl, hll, hk⟩
end Go.Proofs.Ytacpejoablcffaa
