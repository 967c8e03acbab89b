/- Arguments that are bitmaps or lists of extents, opened; the library's table out of the row's premise. -/
import Derived.Test.YtbifhcjkdfocaaaDoorX
import Derived.Test.YtbifhcjkdfocaaaDoorJ
import Derived.ProofKit
import Derived.Deep.Slices
import Derived.OpenShut
import Derived.KernelRfl
import Derived.LaidMore
import Derived.LaidHandle
import Derived.LaidLaws
import Derived.Stop.Joined
namespace Go.Proofs.YtbifhcjkdfocaaaDoor
open Go.ChangeShapes Go.WideShapes Go.ChangeAt Go.RowKit Go.Deep

theorem Tryd.own : ownKnob Tryd.prog.godebug = none := by kernel_rfl
theorem Tryd.laidOut : laidOutB Tryd.prog = true := by kernel_rfl
theorem cells39 : Tryd.prog.cellsOf 39 = 2 := by kernel_rfl
theorem cells24 : Tryd.prog.cellsOf 24 = 2 := by kernel_rfl
theorem cells55 : Tryd.prog.cellsOf 55 = 1 := by kernel_rfl
theorem cells3 : Tryd.prog.cellsOf 3 = 1 := by kernel_rfl
theorem cells22 : Tryd.prog.cellsOf 22 = 1 := by kernel_rfl
theorem cells5 : Tryd.prog.cellsOf 5 = 1 := by kernel_rfl
theorem read45 : Tryd.prog.readableRec 45 = true := by kernel_rfl
theorem row45 : 45 < Tryd.prog.types.size := of_decide_eq_true (by kernel_rfl)
theorem read24 : Tryd.prog.readableRec 24 = true := by kernel_rfl
theorem row24 : 24 < Tryd.prog.types.size := of_decide_eq_true (by kernel_rfl)
theorem read39 : Tryd.prog.readableRec 39 = true := by kernel_rfl
theorem row39 : 39 < Tryd.prog.types.size := of_decide_eq_true (by kernel_rfl)

theorem r64_wf {x : Int} (h : (Lit.int .i64 x).wf = true) : R64 x := by
  have := bounds_i64 h
  unfold R64
  omega

variable {H : Type} {enc : TypeId × Value → H} {W : World}
theorem list_of {α : Type} {p : Nat → α → Prop} : ∀ (n : Nat), (∀ i, i < n → ∃ e, p i e) → ∃ l : List α, l.length = n ∧ ∀ i e, l[i]? = some e → p i e := by
  intro n
  induction n with
  | zero => intro _; exact ⟨[], rfl, fun i e h => by simp at h⟩
  | succ n ih =>
    intro h
    obtain ⟨l, hl, hp⟩ := ih fun i hi => h i (by omega)
    obtain ⟨e, he⟩ := h n (by omega)
    refine ⟨l ++ [e], by simp [hl], fun i f hf => ?_⟩
    rcases Nat.lt_or_ge i n with hi | hi
    · rw [List.getElem?_append_left (by omega)] at hf
      exact hp i f hf
    · rw [List.getElem?_append_right (by omega)] at hf
      have hi' : i = n := by
        have := (List.getElem?_eq_some_iff.1 hf).1
        simp at this
        omega
      subst hi'
      simp [hl] at hf
      subst hf
      exact he
theorem cell_lt {w : World} {b o : Nat} {v : Value} (h : w.cell? ⟨b, o, none⟩ = some v) : b < w.heap.size := by
  unfold World.cell? at h
  rcases Nat.lt_or_ge b w.heap.size with hl | hl
  · exact hl
  · rw [Array.getElem?_eq_none hl] at h; simp at h
theorem add_at (b off k : Nat) : (⟨b, off, none⟩ : Addr).add k = ⟨b, off + k, none⟩ := by unfold Addr.add; split <;> simp_all

theorem one_ext {fuel base : Nat} {spare : Nat → Bool} {held : Bool} {cs : List Value} {x : DataW H × List MemPlace} (h : DataW.trod enc Tryd.prog W base spare held fuel 39 cs = some x) : ∃ s n, cs = [.int .i64 s, .int .i64 n] ∧ R64 s ∧ R64 n := by
  obtain ⟨y0, y1, m, _, hl, h0, h1⟩ := trod_struct2 Tryd.underlying39 h
  rw [cells39] at hl
  match cs, hl with
  | [c0, c1], _ =>
    simp only [cells3, List.drop, List.take] at h0 h1
    obtain ⟨s, e0, _, w0⟩ := DataW.trod_int Tryd.underlying3 h0
    obtain ⟨n, e1, _, w1⟩ := DataW.trod_int Tryd.underlying3 h1
    simp at e0 e1
    subst e0 e1
    exact ⟨s, n, rfl, r64_wf w0, r64_wf w1⟩

theorem ext_of_trod {base : Nat} {v : Value} {d : DataW H} {p : List MemPlace} (hv : Value.okWide Tryd.prog W .any base 45 v) (h : DataW.Trod enc Tryd.prog W 0 (fun _ => true) true 45 v d p) : ∃ l, Ext W v l := by
  obtain ⟨a0, len0, cap0, rfl⟩ := okWide_slice Tryd.underlying45 hv
  obtain ⟨fuel, hf⟩ := h
  rcases open_slice Tryd.underlying45 hf with ⟨hcs, _⟩ | ⟨a, len, cap, m, n, D, Pl, hcs, _, hlc, hcm, hm, hx, hi⟩
  · simp [Value.cells] at hcs
    obtain ⟨rfl, rfl, rfl⟩ := hcs
    exact ⟨[], ext_nil _⟩
  · simp [Value.cells] at hcs
    obtain ⟨rfl, rfl, rfl⟩ := hcs
    simp only [if_true] at hm
    subst hm
    obtain ⟨l, hl, hq⟩ := list_of (p := fun i (e : Int × Int) => R64 e.1 ∧ R64 e.2 ∧ W.cell? (a.add (i * 2)) = some (.int .i64 e.1) ∧ W.cell? ((a.add (i * 2)).add 1) = some (.int .i64 e.2)) len0 (fun i hi' => by
      obtain ⟨cs', hc, ht⟩ := hi i (by omega)
      rw [cells39] at hc
      obtain ⟨_, _, hat⟩ := World.cells?_some hc
      obtain ⟨s, n', hcs', hs, hn⟩ := one_ext ht
      subst hcs'
      have h0 := hat 0 (by omega)
      have h1 := hat 1 (by omega)
      have ea : (a.add (i * 2)).add 0 = a.add (i * 2) := by simp [Addr.add]
      rw [ea] at h0
      exact ⟨((s, n') : Int × Int), hs, hn, by simpa using h0, by simpa using h1⟩)
    refine ⟨l, fun e he => ?_, some a, _, by rw [hl], by omega, hcm, ?_⟩
    · obtain ⟨i, hi'⟩ := List.mem_iff_getElem?.1 he
      have := hq i e hi'
      exact ⟨this.1, this.2.1⟩
    · rcases Nat.eq_zero_or_pos len0 with hz | hz
      · exact ⟨0, 0, fun h => by omega, fun i e h => by have := (List.getElem?_eq_some_iff.1 h).1; omega⟩
      · obtain ⟨b, off, spot⟩ := a
        obtain ⟨e, he⟩ : ∃ e, l[0]? = some e := ⟨l[0]'(by omega), List.getElem?_eq_getElem (by omega)⟩
        have hc := (hq 0 e he).2.2.1
        have hsp : spot = none := by
          have := hc
          simp [Addr.add] at this
          exact World.cell?_spot this
        subst hsp
        rw [add_at] at hc
        refine ⟨b, off, fun _ => ⟨rfl, cell_lt hc⟩, fun i e he => ?_⟩
        obtain ⟨_, _, h0, h1⟩ := hq i e he
        rw [add_at] at h0 h1
        rw [add_at] at h1
        exact ⟨h0, h1⟩

theorem bm_of_trod {base : Nat} {v : Value} {d : DataW H} {p : List MemPlace} (hv : Value.okWide Tryd.prog W .any base 24 v) (h : DataW.Trod enc Tryd.prog W 0 (fun _ => true) true 24 v d p) : ∃ s ws, Bm W v s ws := by
  obtain ⟨cs0, rfl, hsz⟩ := okWide_struct Tryd.underlying24 hv
  obtain ⟨fuel, hf⟩ := h
  obtain ⟨y0, y1, m0, _, hl, h0, h1⟩ := trod_struct2 Tryd.underlying24 hf
  rw [cells24] at hl hsz
  obtain ⟨L⟩ := cs0
  match L, hsz with
  | [c0, c1], _ =>
    simp only [Value.cells, cells3, cells22, List.drop, List.take] at h0 h1
    obtain ⟨s, e0, _, w0⟩ := DataW.trod_int Tryd.underlying3 h0
    simp at e0
    subst e0
    rcases open_slice Tryd.underlying22 h1 with ⟨hcs, _⟩ | ⟨a, len0, cap0, m, n, D, Pl, hcs, _, hlc, hcm, hm, hx, hi⟩
    · simp at hcs
      subst hcs
      exact ⟨s, [], r64_wf w0, (fun x h => by cases h), none, 0, rfl, Nat.le_refl _, by unfold maxLen; omega, 0, 0, fun h => absurd h (by simp), fun i x h => by simp at h⟩
    · simp at hcs
      subst hcs
      simp only [if_true] at hm
      subst hm
      obtain ⟨l, hl', hq⟩ := list_of (p := fun i (e : Nat) => e < 18446744073709551616 ∧ W.cell? (a.add i) = some (.int .u64 (e : Int))) len0 (fun i hi' => by
        obtain ⟨cs', hc, ht⟩ := hi i (by omega)
        rw [cells55] at hc
        obtain ⟨hlen, _, hat⟩ := World.cells?_some hc
        obtain ⟨x, ex, _, wx⟩ := DataW.trod_int Tryd.underlying55 ht
        subst ex
        have h0 := hat 0 (by omega)
        rw [Nat.mul_one] at h0
        have ea : (a.add i).add 0 = a.add i := by simp [Addr.add]
        rw [ea] at h0
        have hb := bounds_u64 wx
        obtain ⟨y, rfl⟩ := Int.eq_ofNat_of_zero_le hb.1
        exact ⟨y, by omega, by simpa using h0⟩)
      refine ⟨s, l, r64_wf w0, fun x hx => ?_, some a, _, by rw [hl'], by omega, hcm, ?_⟩
      · obtain ⟨i, hi'⟩ := List.mem_iff_getElem?.1 hx
        exact (hq i x hi').1
      · rcases Nat.eq_zero_or_pos len0 with hz | hz
        · exact ⟨0, 0, fun h => by omega, fun i e h => by have := (List.getElem?_eq_some_iff.1 h).1; omega⟩
        · obtain ⟨b, off, spot⟩ := a
          obtain ⟨e, he⟩ : ∃ e, l[0]? = some e := ⟨l[0]'(by omega), List.getElem?_eq_getElem (by omega)⟩
          have hc := (hq 0 e he).2
          have hsp : spot = none := by
            have := hc
            simp [Addr.add] at this
            exact World.cell?_spot this
          subst hsp
          rw [add_at] at hc
          refine ⟨b, off, fun _ => ⟨rfl, cell_lt hc⟩, fun i e he => ?_⟩
          have h0 := (hq i e he).2
          rw [add_at] at h0
          exact h0

def laidT : List (String × DataW Unit) := [("math/bits.deBruijn64tab", Rows.laid_math_bits_deBruijn64tab)]
theorem gTab : Tryd.prog.globalNamed "math/bits.deBruijn64tab" = some 0 := by kernel_rfl
theorem tTab : (Tryd.prog.globals[0]?).map (·.type) = some 75 := by kernel_rfl
theorem door_met (os : Os) (args : Array Value) : laidMetH Tryd.prog laidT ((World.doorLaid Tryd.prog 400 os).forCall (fun _ _ => 0) ⟨#[], args, []⟩).memory :=
  laidMetH_of_parts3 (fuel := 8) (laidMet_of_run' 8 (by kernel_rfl) (by kernel_rfl)) (by kernel_rfl) (by kernel_rfl)
theorem litsT : Rows.laid_math_bits_deBruijn64tab = DataW.agg (Lib.deBruijn64tab.map fun (x : Nat) => (.lit (.int .u8 (x : Int)) : DataW Unit)) := by rfl
theorem tab_of_laid {W : World} (h : laidMetH Tryd.prog laidT W) : Tab W := by
  rw [MakeChecks.laidMetH_plain _ _ _ (by kernel_rfl)] at h
  obtain ⟨ps, ⟨g0, t0, cs0, f0, p0, q0, hg0, ht0, hv0, hd0, _⟩, _, _⟩ := h
  obtain rfl := Option.some.inj (gTab.symm.trans hg0)
  obtain rfl := Option.some.inj (tTab.symm.trans ht0)
  obtain ⟨xs, m1, rfl, hx1, hlen, hn, hel⟩ := DataW.trod_array Tryd.underlying75 hd0
  have hxs : xs.map (·.1) = Lib.deBruijn64tab.map fun (x : Nat) => (.lit (.int .u8 (x : Int)) : DataW Unit) := by
    have := congrArg Prod.fst hx1
    rw [show (Rows.laid_math_bits_deBruijn64tab : DataW Unit) = _ from litsT] at this
    injection this with this
    exact this.symm
  have hcell : ∀ j, j < 64 → W.cell? ⟨0, j, none⟩ = some (.int .u8 (Lib.deBruijn64tab.getD j 0)) := by
    intro j hj
    obtain ⟨y, hy⟩ : ∃ y, xs[j]? = some y := ⟨xs[j]'(by omega), List.getElem?_eq_getElem (by omega)⟩
    have h1 := hel j hj
    rw [hy, cells5, Nat.mul_one] at h1
    obtain ⟨n, e1, e2, _⟩ := DataW.trod_int Tryd.underlying5 h1
    have h2 : (xs.map (·.1))[j]? = some (.lit (.int .u8 n)) := by rw [List.getElem?_map, hy, e2]; rfl
    rw [hxs, List.getElem?_map] at h2
    obtain ⟨u, hu⟩ : ∃ u, Lib.deBruijn64tab[j]? = some u := ⟨Lib.deBruijn64tab[j]'(show j < 64 from hj), List.getElem?_eq_getElem (show j < 64 from hj)⟩
    rw [hu] at h2
    simp only [Option.map_some, Option.some.injEq, DataW.lit.injEq, Lit.int.injEq, true_and] at h2
    have h3 := World.var?_cell hg0 hv0 j
    have h4 : cs0.toList[j]? = some (.int .u8 n) := by
      have h5 : ((cs0.toList.drop j).take 1)[0]? = some (.int .u8 n) := by rw [e1]; rfl
      rw [List.getElem?_take, if_pos (by decide), List.getElem?_drop, Nat.add_zero] at h5
      exact h5
    rw [h3]
    have h6 : cs0[j]? = cs0.toList[j]? := by simp
    rw [h6, h4, ← h2]
    simp [List.getD, hu]
  exact ⟨fun j hj => hcell j hj, cell_lt (hcell 0 (by decide))⟩
end Go.Proofs.YtbifhcjkdfocaaaDoor
