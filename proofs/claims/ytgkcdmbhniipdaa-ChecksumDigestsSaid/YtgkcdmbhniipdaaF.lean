/- The iterators over bytes: slices.Values and zeros. -/
import Derived.Test.YtgkcdmbhniipdaaE
import Derived.RangeFuncNested
import Derived.RangeFuncBound
import Derived.RangeFuncCalls
import Derived.RangeFuncLeaves
import Derived.RangeFuncBox
import Derived.Shelf.Abstract
import Derived.Shelf.RegionOpen
import Derived.OwnWalkIn
import Derived.TacticsInMore
import Derived.LoopNIn
import Derived.LoopIn
import Derived.Shelf.AbstractIn
namespace Go.Proofs.Ytgkcdmbhniipdaa
open Go.RowKit Go.Lib Go.Shelf
attribute [local go_sem] Oper.semAt_some

/-- What an iterator over the bytes l owes. -/
def Streams (n gf : Nat) (lb : Array Value) (n₀ : Nat) (l : List Nat) (w : World) : Prop :=
  SeqStopsK Fence.wide n Try.prog gf lb (fun x : Fin 256 => #[Value.int .u8 (x.val : Int)]) (Below n₀) (fun ys => ys.map (·.val) = l) (fun _ => True) l.length w

theorem take_map {l : List Nat} {k : Nat} {pre : List (Fin 256)} {x : Nat} (hx : x < 256) (h : pre.map (·.val) = l.take k) (hk : l[k]? = some x) : (pre ++ [(⟨x, hx⟩ : Fin 256)]).map (·.val) = l.take (k + 1) := by
  obtain ⟨hlt, rfl⟩ := List.getElem?_eq_some_iff.1 hk
  rw [List.map_append, h, List.take_succ_eq_append_getElem hlt]
  rfl
theorem pre_short {l : List Nat} {k : Nat} {pre : List (Fin 256)} (h : pre.map (·.val) = l.take k) (hk : k < l.length) : pre.length < l.length := by
  have := congrArg List.length h
  rw [List.length_map, List.length_take] at this
  omega

set_option maxHeartbeats 2000000 in
set_option maxRecDepth 100000 in
theorem values_streams (n Bs : Nat) (l : List Nat) (v : Value) (w0 w : World) (hn : 1 ≤ n) (hv : Byt w0 v l) (hb0 : Below w0.heap.size w0 w) (hlt : Bs < w.heap.size) (hc0 : w.cell? ⟨Bs, 0, none⟩ = some v) :
    Streams n 34 #[.pointer (some ⟨Bs, 0, none⟩)] w0.heap.size l w := by
  intro l0 J Jx W hW hJ hJx hY h0
  have hbW : Below w0.heap.size w0 W := hb0.trans (hW.mono hb0.size)
  have hBs := (hW.cell (p := ⟨Bs, 0, none⟩) hlt).trans hc0
  obtain ⟨h8, A, cap, rfl, hcap, hcm, b, off, hA, hc⟩ := hv
  unfold maxLen at hcm
  have HC := hid hc
  have H8 := hid h8
  have HY := hid hY
  have HBW := hid hbW
  clear hc h8 hY hJ hJx hb0 hW hbW hc0 hlt
  refine callsIn_of_wp Try.func34 rfl trivial ?_ rfl
  simp only [Try.ntmps34, List.size_toArray, List.length_cons, List.length_nil, Nat.reduceAdd, Nat.reduceSub, Array.replicate_succ, Array.replicate_zero, List.push_toArray, List.append_toArray, List.nil_append, List.cons_append]
  gi_wp2
  gi_loopw [7] (fun i wr => ∃ (k : Nat) (pre : List (Fin 256)), k ≤ l.length ∧ i = .int .i64 (k : Int) ∧ Hid (pre.map (·.val) = l.take k) ∧ Hid (J pre wr) ∧ Hid (Below w0.heap.size W wr)) (fun i _ => l.length - (intOf i).toNat)
  case atStart => exact ⟨0, [], Nat.zero_le _, rfl, hid rfl, hid h0, hid (Below.refl _ _)⟩
  case round =>
    clear h0 hBs
    obtain ⟨k, pre, hk, rfl, HP, HJ, HB⟩ := hrel
    by_cases hkl : k < l.length
    · obtain ⟨hA1, hb⟩ := hA (by omega)
      subst hA1
      obtain ⟨x, hx⟩ : ∃ x, l[k]? = some x := ⟨l[k], List.getElem?_eq_getElem hkl⟩
      have hxl := H8.out x (List.mem_of_getElem? hx)
      have hcl := (HB.out.cell (p := ⟨b, off + k, none⟩) hb).trans ((HBW.out.cell (p := ⟨b, off + k, none⟩) hb).trans (HC.out _ _ hx))
      have HP2 := hid (take_map hxl HP.out hx)
      clear hx
      obtain ⟨fn, tmps, assign, body, hy, hR⟩ := HY.out pre ⟨x, hxl⟩ wr HJ.out (pre_short HP.out hkl)
      dsimp only at hy
      have HR := hid hR
      clear hR
      gi_wp2
      refine HR.out.mono ?_
      rintro e W3 (⟨rfl, hJ3, hk3⟩ | ⟨rfl, hJx3⟩)
      · have HJ3 := hid hJ3
        have HB3 := hid (HB.out.trans hk3)
        clear hJ3 hk3
        gi_wp2
        go_roundw
        case rel => exact ⟨k + 1, _, by omega, by go_num, HP2, HJ3, HB3⟩
        case measure => simp [intOf]; omega
      · gi_wp2
        refine bodyPost_ret (results_none rfl _ _ _) rfl ?_
        exact ⟨⟨_, rfl⟩, .inr ⟨_, trivial, hJx3⟩⟩
    · obtain rfl : k = l.length := by omega
      gi_wp2
      go_end0
      exact ⟨⟨_, rfl⟩, .inl ⟨_, by rw [HP.out, List.take_of_length_le (Nat.le_refl _)], HJ.out⟩⟩
end Go.Proofs.Ytgkcdmbhniipdaa
