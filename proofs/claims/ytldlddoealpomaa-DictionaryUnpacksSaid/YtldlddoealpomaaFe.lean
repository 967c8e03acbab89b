/- Backward over a row of places. -/
import Derived.Test.YtldlddoealpomaaFd
import Derived.RangeFuncNested
import Derived.RangeFuncBound
import Derived.RangeFuncCalls
import Derived.RangeFuncLeaves
import Derived.RangeFuncBox
import Derived.Shelf.Abstract
import Derived.Shelf.RegionOpen
import Derived.OwnWalkIn
import Derived.TacticsInMore
import Derived.LoopNIn
import Derived.LoopIn
import Derived.Shelf.AbstractIn
namespace Go.Proofs.Ytldlddoealpomaa
open Go.RowKit Go.Lib Go.Shelf Go.Maps Go.WideElems
attribute [local go_sem] Oper.semAt_some

set_option maxRecDepth 100000 in
/-- A look-up gives the places, in every world with this map. -/
theorem plc_look' {w : World} {bm a : Nat} {x κ : List Nat} (h : Plc w bm x a) (hk : B4 κ) : ∃ v, w.ownsRow (bm + 1) 3 1 v (PF x a κ).length (posV (PF x a κ)) ∧ ∀ w' : World, w'.heap[bm]? = w.heap[bm]? → (Instr.lookup 47 (.map (some bm)) (kv κ) false).run Try.prog w' = .ok v w' := by
  obtain ⟨es, clock, hb, hs, hn, hr, hall, hap⟩ := h
  obtain ⟨l, hl⟩ := key_of hk
  by_cases hex : ∃ e ∈ es.toList, e.key = kv κ
  · obtain ⟨e0, he0, hk0⟩ := hex
    obtain ⟨κ', q1, q2, q3, q4⟩ := hr e0 he0
    have e : κ' = κ := kv_inj (q2.symm.trans hk0)
    subst e
    refine ⟨e0.val, q4, fun w' hw' => ?_⟩
    rcases keyed95.find w' hl es.toList (plc_keys hr) with ⟨h1, h2⟩ | ⟨j, e1, h1, h2, h3⟩
    · exact absurd hk0 (h2 e0 he0)
    · obtain ⟨i, hi⟩ := List.mem_iff_getElem?.1 he0
      have : i = j := Classical.byContradiction fun hne => key_other hs.2.2 hi h2 hne (hk0.trans h3.symm)
      subst this
      rw [hi] at h2
      injection h2 with h2
      subst h2
      simp [Instr.lookup, run_underlying Try.underlying47, MapKept.run_getObj_map (hw'.trans hb), keyed95.check w' _ hl, h1, Result.andThen]
  · have h0 : PF x a κ = [] := by
      rcases List.eq_nil_or_concat (PF x a κ) with h | ⟨l, b, h⟩
      · exact h
      · obtain ⟨e, he, hek⟩ := hall κ hk (by rw [h]; simp)
        exact absurd ⟨e, he, hek⟩ hex
    refine ⟨.slice none 0 0, by rw [h0]; exact World.ownsRow_nil _ _ _ _, fun w' hw' => ?_⟩
    rcases keyed95.find w' hl es.toList (plc_keys hr) with ⟨h1, h2⟩ | ⟨j, e1, h1, h2, h3⟩
    · simp [Instr.lookup, run_underlying Try.underlying47, MapKept.run_getObj_map (hw'.trans hb), keyed95.check w' _ hl, h1, Result.andThen]
    · exact absurd ⟨e1, List.mem_of_getElem? h2, h3⟩ hex
/-- A row of places that can be read. -/
def Pos (w : World) (v : Value) (ps : List Nat) : Prop := ∃ A c, v = .slice A ps.length c ∧ ∀ (i y : Nat), ps[i]? = some y → ∃ b, A = some ⟨b, 0, none⟩ ∧ b < w.heap.size ∧ w.cell? ⟨b, i, none⟩ = some (.int .i64 (y : Int))
theorem pos_of {w : World} {B : Nat} {v : Value} {ps : List Nat} (h : w.ownsRow B 3 1 v ps.length (posV ps)) : Pos w v ps := by
  have h0 := h
  rcases h0.2 with ⟨rfl, h1⟩ | ⟨g, cap, cur, rfl, hB, hgb, _⟩
  · refine ⟨none, 0, by rw [h1], fun i y hi => ?_⟩
    have := (List.getElem?_eq_some_iff.1 hi).1
    omega
  · refine ⟨some ⟨g, 0, none⟩, cap, rfl, fun i y hi => ⟨g, rfl, box_lt hgb, ?_⟩⟩
    have hil := (List.getElem?_eq_some_iff.1 hi).1
    have h2 := h.cellAt i (by omega)
    rw [h2]
    unfold posV
    rw [List.getElem?_map, hi]; rfl
abbrev Ent (a : Nat) := {y : Nat × Nat // y.2 < a ∧ y.1 < 2000000000}
def ents {a : Nat} (ys : List (Ent a)) : List Nat := ys.map fun y => y.1.2
theorem ents_snoc {a : Nat} (ys : List (Ent a)) (y : Ent a) : ents (ys ++ [y]) = ents ys ++ [y.1.2] := by simp [ents]
/-- What the rounds keep. -/
def Kb (n₀ : Nat) (A B : World) : Prop := Below n₀ A B ∧ Keep 96 A B
theorem Kb.trans {n₀ : Nat} {A B C : World} (h : Kb n₀ A B) (k : Kb n₀ B C) : Kb n₀ A C := ⟨h.1.trans k.1, h.2.trans k.2⟩
def BackS (n : Nat) (lb : Array Value) (n₀ a : Nat) (ps : List Nat) (w : World) : Prop :=
  SeqStopsK Fence.wide n Try.prog 70 lb (fun x : Ent a => #[.int .i64 (x.1.1 : Int), .int .i64 (x.1.2 : Int)]) (Kb n₀) (fun ys => ents ys = ps.reverse) (fun pre => ents pre <+: ps.reverse) ps.length w
set_option maxHeartbeats 2000000 in
set_option maxRecDepth 100000 in
theorem back_streams (n Bs a : Nat) (ps : List Nat) (v : Value) (w0 w : World) (hn : 1 ≤ n) (hv : Pos w0 v ps) (hps : ∀ p ∈ ps, p < a) (hl : ps.length ≤ 1000000000) (hb0 : Below w0.heap.size w0 w) (hbox : w.heap[Bs]? = some (.cells #[v] 96)) :
    BackS n #[.pointer (some ⟨Bs, 0, none⟩)] w0.heap.size a ps w := by
  intro l0 J Jx W hW hJ hJx hY h0
  have hbW : Below w0.heap.size w0 W := hb0.trans (hW.mono hb0.size)
  have hBs := (hW.block Bs (box_lt hbox)).trans hbox
  obtain ⟨A, cap, rfl, hcell⟩ := hv
  obtain ⟨N, hN⟩ : ∃ N, ps.length = N := ⟨_, rfl⟩
  rw [hN] at hBs hl hY
  have HY := hid hY
  have HN := hid hN
  have HC := hid hcell
  have HPS := hid hps
  have HB0 := hid hBs
  have HBW := hid hbW
  have c1 : W.cell? ⟨Bs, 0, none⟩ = some (.slice A N cap) := cell_of_row _ _ 0 _ _ _ hBs
  clear hcell hY hJ hJx hb0 hW hbW hbox hN hBs hps
  refine callsIn_of_wp Try.func70 rfl trivial ?_ rfl
  simp only [Try.ntmps70, List.size_toArray, List.length_cons, List.length_nil, Nat.reduceAdd, Nat.reduceSub, Array.replicate_succ, Array.replicate_zero, List.push_toArray, List.append_toArray, List.nil_append, List.cons_append]
  have hw0 : IntKind.i64.wrap ((N : Int) - 1) = (N : Int) - 1 := by rw [IntKind.wrap_i64]; omega
  gi_wp2
  gi_loopw [3] (fun i wr => ∃ (j : Nat) (pre : List (Ent a)), j ≤ N ∧ i = .int .i64 ((j : Int) - 1) ∧ Hid (pre.length + j = N) ∧ Hid (ents pre = (ps.drop j).reverse) ∧ Hid (J pre wr) ∧ Hid (wr.heap[Bs]? = some (.cells #[.slice A N cap] 96)) ∧ Hid (Below w0.heap.size W wr)) (fun i _ => (Lib.intOf i + 1).toNat)
  case atStart => exact ⟨N, [], Nat.le_refl _, rfl, hid (by simp), hid (by rw [List.drop_eq_nil_of_le (by rw [HN.out]; exact Nat.le_refl _)]; rfl), hid h0, HB0, hid (Below.refl _ _)⟩
  case round =>
    clear h0 c1 hw0
    obtain ⟨j, pre, hj, rfl, HL, HE, HJ, HX, HB⟩ := hrel
    have c1 := cell_of_row _ _ 0 _ _ _ HX.out
    by_cases hj0 : j = 0
    · have d1 : decide ((1 : Int) ≤ (j : Int)) = false := decide_eq_false (by omega)
      have d2 : decide (1 ≤ j) = false := decide_eq_false (by omega)
      have hE0 : ents pre = ps.reverse := by rw [HE.out, hj0]; rfl
      have HE0 := hid hE0
      clear hE0 hj0
      gi_wp2
      go_end0
      exact ⟨⟨_, rfl⟩, .inl ⟨_, HE0.out, HJ.out⟩⟩
    · obtain ⟨i, rfl⟩ : ∃ i, j = i + 1 := ⟨j - 1, by omega⟩
      have hii : ((i + 1 : Nat) : Int) - 1 = (i : Int) := by omega
      have d1 : decide ((0 : Int) ≤ (i : Int)) = true := decide_eq_true (by omega)
      obtain ⟨y, hy⟩ : ∃ y, ps[i]? = some y := ⟨ps[i]'(by rw [HN.out]; omega), List.getElem?_eq_getElem _⟩
      obtain ⟨b, hA, hbl, hc⟩ := HC.out i y hy
      subst hA
      have hc2 : wr.cell? ⟨b, i, none⟩ = some (.int .i64 (y : Int)) := ((HBW.out.trans HB.out).cell (p := ⟨b, i, none⟩) hbl).trans hc
      have hiN : i < N := by omega
      have hiN' : (i : Int) < (N : Int) := by omega
      have hok : y < a ∧ i < 2000000000 := ⟨HPS.out y (List.mem_of_getElem? hy), by omega⟩
      have hdr : (ps.drop i).reverse = (ps.drop (i + 1)).reverse ++ [y] := by
        obtain ⟨h1, rfl⟩ := List.getElem?_eq_some_iff.1 hy
        rw [List.drop_eq_getElem_cons h1, List.reverse_cons]
      have HE2 : Hid (ents (pre ++ [⟨(i, y), hok⟩]) = (ps.drop i).reverse) := hid (by rw [ents_snoc, HE.out, hdr])
      have HPF : Hid (ents (pre ++ [⟨(i, y), hok⟩]) <+: ps.reverse) := hid (by
        rw [HE2.out]
        refine ⟨(ps.take i).reverse, ?_⟩
        rw [← List.reverse_append, List.take_append_drop])
      obtain ⟨fn, tmps, assign, body, hy2, hR⟩ := HY.out pre ⟨(i, y), hok⟩ wr HJ.out (by have := HL.out; omega)
      have HR := hid hR
      have hwi : IntKind.i64.wrap ((i : Int) - 1) = (i : Int) - 1 := by rw [IntKind.wrap_i64]; omega
      have hmx : i * 1 = i := Nat.mul_one i
      rw [hii]
      clear hR hy hc hdr
      dsimp only at hy2
      gi_wp2_with fail
      refine HR.out.mono ?_
      rintro e W3 (⟨rfl, hJ3, hk3⟩ | ⟨rfl, hJx3⟩)
      · have HJ3 := hid hJ3
        have HX3 := hid (hk3.2 _ _ HX.out)
        have HB3 := hid (HB.out.trans hk3.1)
        clear hJ3 hk3 HJ HB HX HR hy2 c1 hc2
        gi_wp2
        go_roundw
        case rel => exact ⟨i, _, by omega, rfl, hid (by have := HL.out; rw [List.length_append]; simp; omega), HE2, HJ3, HX3, HB3⟩
        case measure => simp [Lib.intOf]
      · gi_wp2
        refine bodyPost_ret (results_none rfl _ _ _) rfl ?_
        exact ⟨⟨_, rfl⟩, .inr ⟨_, HPF.out, hJx3⟩⟩
theorem backward_any (v : Value) (w : World) (A : Option Addr) (len cap : Nat) (hv : v = .slice A len cap) :
    Calls Try.prog 59 #[v] w fun e w' => e = .returned (.func (.func 70) #[] #[.pointer (some ⟨w.heap.size, 0, none⟩)]) ∧ w.alloc (.cells #[v] 96) = w' := by
  subst hv
  go_enter Try.func59, Try.ntmps59
  go_wp2
  go_ret
  exact ⟨rfl, rfl⟩
theorem enters70 : ∀ args w, (callFunc 70 args).run Try.prog w = .ok (.enter 70 args) w := enters_of Try.func70 (by kernel_rfl) rfl
end Go.Proofs.Ytldlddoealpomaa
