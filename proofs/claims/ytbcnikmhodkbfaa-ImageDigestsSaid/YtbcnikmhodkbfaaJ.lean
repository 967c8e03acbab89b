/- The sectors at which two volumes differ: the iterator over them. -/
import Derived.Test.YtbcnikmhodkbfaaI
import Derived.RangeFuncNested
import Derived.RangeFuncBound
import Derived.RangeFuncCalls
import Derived.RangeFuncLeaves
import Derived.RangeFuncBox
import Derived.Shelf.Abstract
import Derived.Shelf.RegionOpen
import Derived.OwnWalkIn
import Derived.TacticsInMore
import Derived.LoopNIn
import Derived.LoopIn
import Derived.Shelf.AbstractIn
import Derived.Sort.QuietIn
import Derived.Sort.BigQuietIn
import Derived.Stop.RegionWithIn
namespace Go.Proofs.Ytbcnikmhodkbfaa
open Go.RowKit Go.Lib Go.Shelf
attribute [local go_sem] Oper.semAt_some

def difN (a b : List Sect) (k : Nat) : List Nat := (List.range k).filter fun i => decide (a[i]? ≠ b[i]?)
def dif (a b : List Sect) : List Nat := difN a b a.length
theorem difN_succ (a b : List Sect) (k : Nat) : difN a b (k + 1) = difN a b k ++ (if a[k]? ≠ b[k]? then [k] else []) := by
  unfold difN
  rw [List.range_succ, List.filter_append]
  congr 1
  by_cases h : a[k]? = b[k]?
  · simp [h]
  · simp [h]
theorem difN_prefix (a b : List Sect) : ∀ {k m : Nat}, k ≤ m → ∃ r, difN a b m = difN a b k ++ r := by
  intro k m h
  induction m with
  | zero => obtain rfl : k = 0 := by omega
            exact ⟨[], by simp⟩
  | succ m ih =>
    rcases Nat.lt_or_ge m k with hk | hk
    · obtain rfl : k = m + 1 := by omega
      exact ⟨[], by simp⟩
    · obtain ⟨r, hr⟩ := ih hk
      exact ⟨r ++ _, by rw [difN_succ, hr, List.append_assoc]⟩
/-- What an iterator over the numbers l owes. -/
def StreamN (n gf : Nat) (lb : Array Value) (n₀ : Nat) (l : List Nat) (w : World) : Prop :=
  SeqStopsK Fence.wide n Try.prog gf lb (fun x : Nat => #[Value.int .i64 (x : Int)]) (Below n₀) (fun ys => ys = l) (fun _ => True) l.length w

theorem yes_no {J Jx : List Nat → World → Prop} {pre : List Nat} {n₀ : Nat} {W1 W' : World} {e : Ending} (h : (e = .returned (.bool true) ∧ J pre W' ∧ Below n₀ W1 W') ∨ (e = .returned (.bool false) ∧ Jx pre W')) :
    ∃ eb : Bool, e = .returned (.bool eb) ∧ (eb = true → J pre W' ∧ Below n₀ W1 W') ∧ (eb = false → Jx pre W') := by
  rcases h with ⟨rfl, h⟩ | ⟨rfl, h⟩
  · exact ⟨true, rfl, fun _ => h, fun h => by cases h⟩
  · exact ⟨false, rfl, fun h => by (cases h), fun _ => h⟩
set_option maxHeartbeats 4000000 in
set_option maxRecDepth 100000 in
theorem differing_streams (n Ba Bb : Nat) (a b : List Sect) (va vb : Value) (w0 w : World) (hn : 1 ≤ n) (ha : Sec w0 va a) (hb : Sec w0 vb b) (hlen : a.length = b.length) (hb0 : Below w0.heap.size w0 w)
    (hla : Ba < w.heap.size) (hlb : Bb < w.heap.size) (hca : w.cell? ⟨Ba, 0, none⟩ = some va) (hcb : w.cell? ⟨Bb, 0, none⟩ = some vb) :
    StreamN n 73 #[.pointer (some ⟨Ba, 0, none⟩), .pointer (some ⟨Bb, 0, none⟩)] w.heap.size (dif a b) w := by
  intro l0 J Jx W hW hJ hJx hY h0
  obtain ⟨A, ca, rfl⟩ := sec_form ha
  obtain ⟨B, cb, rfl⟩ := sec_form hb
  rw [← hlen] at hcb hb
  have HVa := hid ha
  have HVb := hid hb
  have HY := hid hY
  have HB0 := hid hb0
  have HWW := hid hW
  have HLEN := hid hlen
  have HJa := hid hJ
  obtain ⟨L, hL⟩ : ∃ L, a.length = L := ⟨_, rfl⟩
  have HL := hid hL
  have hLm : L ≤ 9223372036854775807 := by have := sec_len ha; omega
  rw [hL] at hca hcb HVa HVb
  have HKA := hid hca
  have HKB := hid hcb
  have HDL : Hid (dif a b = difN a b L) := hid (by unfold dif; rw [hL])
  clear ha hb hY hJ hJx hb0 hW hlen hL
  have hBa := (HWW.out.cell (p := ⟨Ba, 0, none⟩) hla).trans hca
  have hBb := (HWW.out.cell (p := ⟨Bb, 0, none⟩) hlb).trans hcb
  clear hca hcb
  refine callsIn_of_wp Try.func73 rfl trivial ?_ rfl
  simp only [Try.ntmps73, List.size_toArray, List.length_cons, List.length_nil, Nat.reduceAdd, Nat.reduceSub, Array.replicate_succ, Array.replicate_zero, List.push_toArray, List.append_toArray, List.nil_append, List.cons_append]
  gi_wp2
  gi_loopw [7] (fun i wr => ∃ (k : Nat) (pre : List Nat), k ≤ L ∧ i = .int .i64 (k : Int) ∧ Hid (pre = difN a b k) ∧ Hid (J pre wr) ∧ Hid (Below w.heap.size w wr)) (fun i _ => L - (Go.RowKit.intOf i).toNat)
  case atStart => exact ⟨0, [], Nat.zero_le _, rfl, hid rfl, hid h0, HWW⟩
  case round =>
    clear h0 hBa hBb
    obtain ⟨k, pre, hk, rfl, HP, HJ, HB⟩ := hrel
    by_cases hkl : k < L
    · obtain ⟨x, hx⟩ : ∃ x, a[k]? = some x := ⟨a[k]'(by rw [HL.out]; exact hkl), List.getElem?_eq_getElem _⟩
      obtain ⟨y, hy⟩ : ∃ y, b[k]? = some y := ⟨b[k]'(by rw [← HLEN.out, HL.out]; exact hkl), List.getElem?_eq_getElem _⟩
      have hxs := HVa.out.1 x (List.mem_of_getElem? hx)
      have hys := HVb.out.1 y (List.mem_of_getElem? hy)
      obtain ⟨ba, oa, hA, hla2, hc1⟩ := arr_at1 HVa.out.2 (by rw [List.length_map, HL.out]; omega)
      obtain ⟨bb, ob, hB, hlb2, hc2⟩ := arr_at1 HVb.out.2 (by rw [List.length_map, ← HLEN.out, HL.out]; omega)
      subst hA hB
      have HBr : Hid (Below w0.heap.size w0 wr) := hid (HB0.out.trans (HB.out.mono HB0.out.size))
      have hr1 : ∀ (j : Nat) (z : Value), (cSec x)[j]? = some z → wr.cell? ⟨ba, oa + k * 8 + j, none⟩ = some z := fun j z hz => (HBr.out.cell (p := ⟨ba, _, none⟩) hla2).trans (hc1 k _ (by rw [List.getElem?_map, hx]; rfl) j z hz)
      have hr2 : ∀ (j : Nat) (z : Value), (cSec y)[j]? = some z → wr.cell? ⟨bb, ob + k * 8 + j, none⟩ = some z := fun j z hz => (HBr.out.cell (p := ⟨bb, _, none⟩) hlb2).trans (hc2 k _ (by rw [List.getElem?_map, hy]; rfl) j z hz)
      have HSN : Hid (difN a b (k + 1) = difN a b k ++ if x = y then [] else [k]) := hid (by rw [difN_succ, hx, hy]; by_cases e : x = y <;> simp [e])
      obtain ⟨x0, x1, x2, x3, x4, x5, x6, x7, rfl⟩ := list8 hxs.1
      obtain ⟨y0, y1, y2, y3, y4, y5, y6, y7, rfl⟩ := list8 hys.1
      have heq := fun (W : World) => eql_sec [x0, x1, x2, x3, x4, x5, x6, x7] [y0, y1, y2, y3, y4, y5, y6, y7] rfl rfl hxs.2 hys.2 W
      have q0 : wr.cell? ⟨ba, oa + k * 8 + 0, none⟩ = some (.int .u8 (x0 : Int)) := hr1 0 _ rfl
      have p0 : wr.cell? ⟨bb, ob + k * 8 + 0, none⟩ = some (.int .u8 (y0 : Int)) := hr2 0 _ rfl
      have q1 : wr.cell? ⟨ba, oa + k * 8 + 1, none⟩ = some (.int .u8 (x1 : Int)) := hr1 1 _ rfl
      have p1 : wr.cell? ⟨bb, ob + k * 8 + 1, none⟩ = some (.int .u8 (y1 : Int)) := hr2 1 _ rfl
      have q2 : wr.cell? ⟨ba, oa + k * 8 + 2, none⟩ = some (.int .u8 (x2 : Int)) := hr1 2 _ rfl
      have p2 : wr.cell? ⟨bb, ob + k * 8 + 2, none⟩ = some (.int .u8 (y2 : Int)) := hr2 2 _ rfl
      have q3 : wr.cell? ⟨ba, oa + k * 8 + 3, none⟩ = some (.int .u8 (x3 : Int)) := hr1 3 _ rfl
      have p3 : wr.cell? ⟨bb, ob + k * 8 + 3, none⟩ = some (.int .u8 (y3 : Int)) := hr2 3 _ rfl
      have q4 : wr.cell? ⟨ba, oa + k * 8 + 4, none⟩ = some (.int .u8 (x4 : Int)) := hr1 4 _ rfl
      have p4 : wr.cell? ⟨bb, ob + k * 8 + 4, none⟩ = some (.int .u8 (y4 : Int)) := hr2 4 _ rfl
      have q5 : wr.cell? ⟨ba, oa + k * 8 + 5, none⟩ = some (.int .u8 (x5 : Int)) := hr1 5 _ rfl
      have p5 : wr.cell? ⟨bb, ob + k * 8 + 5, none⟩ = some (.int .u8 (y5 : Int)) := hr2 5 _ rfl
      have q6 : wr.cell? ⟨ba, oa + k * 8 + 6, none⟩ = some (.int .u8 (x6 : Int)) := hr1 6 _ rfl
      have p6 : wr.cell? ⟨bb, ob + k * 8 + 6, none⟩ = some (.int .u8 (y6 : Int)) := hr2 6 _ rfl
      have q7 : wr.cell? ⟨ba, oa + k * 8 + 7, none⟩ = some (.int .u8 (x7 : Int)) := hr1 7 _ rfl
      have p7 : wr.cell? ⟨bb, ob + k * 8 + 7, none⟩ = some (.int .u8 (y7 : Int)) := hr2 7 _ rfl
      rw [Nat.add_zero] at q0 p0
      obtain ⟨eq, heqb⟩ : ∃ eq, decide ([x0, x1, x2, x3, x4, x5, x6, x7] = [y0, y1, y2, y3, y4, y5, y6, y7]) = eq := ⟨_, rfl⟩
      rw [heqb] at heq
      have heq2 : ∀ W : World, (Op.equalIn 10000 58 (.agg #[.int .u8 (x0 : Int), .int .u8 (x1 : Int), .int .u8 (x2 : Int), .int .u8 (x3 : Int), .int .u8 (x4 : Int), .int .u8 (x5 : Int), .int .u8 (x6 : Int), .int .u8 (x7 : Int)]) (.agg #[.int .u8 (y0 : Int), .int .u8 (y1 : Int), .int .u8 (y2 : Int), .int .u8 (y3 : Int), .int .u8 (y4 : Int), .int .u8 (y5 : Int), .int .u8 (y6 : Int), .int .u8 (y7 : Int)])).run Try.prog W = .ok eq W := heq
      have ca0 := (HB.out.cell (p := ⟨Ba, 0, none⟩) hla).trans HKA.out
      have cb0 := (HB.out.cell (p := ⟨Bb, 0, none⟩) hlb).trans HKB.out
      have hkc : (k : Int) < (L : Int) := by omega
      clear heq hxs hys hc1 hc2 hr1 hr2 hx hy hla2 hlb2
      rcases eq with _ | _
      · have hne := of_decide_eq_false heqb
        have HSN2 : Hid (difN a b (k + 1) = difN a b k ++ [k]) := hid (by rw [HSN.out, if_neg hne])
        have hpl : pre.length < (dif a b).length := by
          obtain ⟨r, hr⟩ := difN_prefix a b (show k + 1 ≤ L by omega)
          rw [HDL.out, hr, HSN2.out, ← HP.out]
          simp
        have hgd : wr.grownBy wr.drew none := ⟨rfl, rfl, rfl, Nat.le_refl _, fun _ _ _ => rfl⟩
        obtain ⟨fn, tmps, assign, body, hy, hR⟩ := HY.out pre k wr.drew (HJa.out _ _ _ none HJ.out hgd (fun r e => by cases e)) hpl
        have HR := hid hR
        clear hR hne heqb hpl hgd
        gi_wp2_with fail
        gi_region_with (refine HR.out.mono ?_; rintro e W3 h3; obtain ⟨eb, rfl, h4, h5⟩ := yes_no h3; have H4 := hid h4; have H5 := hid h5; clear h3 h4 h5)
        all_goals
          clear ca0 cb0 q0 q1 q2 q3 q4 q5 q6 q7 p0 p1 p2 p3 p4 p5 p6 p7 heq2
          rcases eb with _ | _
          · have hJx3 := H5.out rfl
            gi_wp2
            refine bodyPost_ret (results_none rfl _ _ _) rfl ?_
            exact ⟨⟨_, rfl⟩, .inr ⟨_, hJx3⟩⟩
          · have HJ3 := hid (H4.out rfl).1
            have HB3 : Hid (Below w.heap.size w W3) := hid ((below_drew HB.out).trans ((H4.out rfl).2))
            have HP3 : Hid (pre ++ [k] = difN a b (k + 1)) := hid (by rw [HSN2.out, HP.out])
            clear H4 H5
            gi_wp2
            go_roundw
            case rel => exact ⟨k + 1, _, by omega, by go_num, HP3, HJ3, HB3⟩
            case measure => simp [Go.RowKit.intOf]; omega
      · have HSN2 : Hid (difN a b (k + 1) = difN a b k) := hid (by rw [HSN.out, if_pos (of_decide_eq_true heqb), List.append_nil])
        clear heqb
        gi_wp2_with fail
        refine wpIn_region_quiet_lit rfl (by kernel_rfl) (by kernel_rfl) ?_
        repeat (gi_big_quiet_step (fail))
        refine Go.BigFrame.wpQuietIn_skip (fun _ _ _ _ => trivial) (by rfl) ?_
        simp only [Act.put, List.setIfInBounds_toArray, List.set_cons_zero, List.set_cons_succ]
        repeat (gi_big_quiet_step (fail))
        refine wpQuietIn_nil ?_
        intro _ hw'
        obtain ⟨nq, hw''⟩ := hw'
        subst hw''
        have hgd : wr.grownBy (wr.drewN nq) none := ⟨rfl, rfl, rfl, Nat.le_refl _, fun _ _ _ => rfl⟩
        have HJ3 := hid (HJa.out _ _ _ none HJ.out hgd (fun r e => by cases e))
        have HB3 : Hid (Below w.heap.size w (wr.drewN nq)) := hid ⟨HB.out.os, HB.out.tape, HB.out.output, HB.out.size, HB.out.block⟩
        have HP3 : Hid (pre = difN a b (k + 1)) := hid (by rw [HSN2.out, HP.out])
        clear hgd ca0 cb0 q0 q1 q2 q3 q4 q5 q6 q7 p0 p1 p2 p3 p4 p5 p6 p7 heq2
        gi_wp2
        go_roundw
        case rel => exact ⟨k + 1, _, by omega, by go_num, HP3, HJ3, HB3⟩
        case measure => simp [Go.RowKit.intOf]; omega
    · obtain rfl : k = L := by omega
      gi_wp2
      go_end0
      exact ⟨⟨_, rfl⟩, .inl ⟨_, HP.out.trans HDL.out.symm, HJ.out⟩⟩
end Go.Proofs.Ytbcnikmhodkbfaa
