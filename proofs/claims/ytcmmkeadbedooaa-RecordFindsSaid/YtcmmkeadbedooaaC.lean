/- The checksum: the program's Sum and the reference's (carried over from checksum). -/
import Derived.Test.YtcmmkeadbedooaaB
import Derived.Laws.Rows
import Derived.Laws.Tables
import Derived.Deep.WholeRow
import Derived.RangeFuncNested
import Derived.RangeFuncBound
import Derived.RangeFuncCalls
import Derived.RangeFuncLeaves
import Derived.Shelf.Abstract
import Derived.Shelf.RegionOpen
import Derived.OwnWalkIn
import Derived.TacticsInMore
import Derived.LoopNIn
import Derived.LoopIn
import Derived.Shelf.AbstractIn
import Derived.Sort.QuietIn
namespace Go.Proofs.Ytcmmkeadbedooaa
open Go.RowKit Go.Lib Go.Shelf
theorem ret_int {k : IntKind} {a b : Int} (h : a = b) : Ending.returned (.int k a) = .returned (.int k b) := by rw [h]
theorem u32_eq {a b : Int} (h : a = b) : Value.int .u32 a = .int .u32 b := by rw [h]
theorem sh1_odd {r : Nat} (h : r % 2 = 1) : (r / 2) ^^^ 2197175160 = sh1 r := by unfold sh1; rw [if_pos h]; rfl
theorem sh1_even {r : Nat} (h : ¬ r % 2 = 1) : r / 2 = sh1 r := by unfold sh1; rw [if_neg h]
set_option maxHeartbeats 2000000 in
theorem register_any (r b : Nat) (w : World) (hr : r < 4294967296) (hb : b < 256) :
    Calls Try.prog 49 #[.int .u32 (r : Int), .int .u8 (b : Int)] w fun e w' => e = .returned (.int .u32 (stepC r b : Nat)) ∧ w = w' := by
  have hx := u32_xor_nat r b hr (by omega)
  obtain ⟨x, hxx⟩ : ∃ x, r ^^^ b = x := ⟨_, rfl⟩
  have hxl : x < 4294967296 := by rw [← hxx]; exact Nat.xor_lt_two_pow (n := 32) hr (show b < 2 ^ 32 by omega)
  have HS : Hid (stepC r b = shn 8 x) := hid (by unfold stepC; rw [hxx])
  rw [hxx] at hx
  clear hxx
  go_enter Try.func49, Try.ntmps49
  go_wp2
  go_loop [0, 5] (fun r' i => ∃ k y : Nat, k ≤ 8 ∧ i = .int .i64 (k : Int) ∧ r' = .int .u32 (y : Int) ∧ Hid (y < 4294967296 ∧ shn (8 - k) y = shn 8 x)) (fun _ i => 8 - (RowKit.intOf i).toNat)
  case atStart => exact ⟨0, x, by omega, rfl, rfl, hid ⟨hxl, rfl⟩⟩
  case round =>
    clear hx
    obtain ⟨k, y, hk, rfl, rfl, HY⟩ := hrel
    have hyl := HY.out.1
    by_cases hlt : k < 8
    · have HN : Hid (shn (8 - (k + 1)) (sh1 y) = shn 8 x) := hid (by
        have h := HY.out.2
        rw [show 8 - k = (8 - (k + 1)) + 1 by omega, shn] at h
        exact h)
      have h1l := sh1_lt hyl
      by_cases hodd : y % 2 = 1
      · have HO := hid (sh1_odd hodd)
        have hd : ((y : Int) % 2 == 1) = true := by simp; omega
        have hxr : bits .xor .u32 ((y : Int) / 2) 2197175160 = ((sh1 y : Nat) : Int) := by
          have h := u32_xor_nat (y / 2) 2197175160 (by omega) (by decide)
          rw [HO.out] at h
          exact h
        clear hodd
        go_wp2
        go_round
        case rel => exact ⟨k + 1, sh1 y, by omega, by go_num, rfl, hid ⟨h1l, HN.out⟩⟩
        case measure => simp [RowKit.intOf]; omega
      · have HO := hid (sh1_even hodd)
        have hd : ((y : Int) % 2 == 1) = false := by simp; omega
        clear hodd
        go_wp2
        go_round
        case rel => exact ⟨k + 1, sh1 y, by omega, by go_num, u32_eq (by rw [← HO.out]; omega), hid ⟨h1l, HN.out⟩⟩
        case measure => simp [RowKit.intOf]; omega
    · obtain rfl : k = 8 := by omega
      go_wp2
      go_ret
      exact ⟨by rw [HS.out, ← HY.out.2]; rfl, rfl⟩
theorem crc_take {l : List Nat} {k x : Nat} (r : Nat) (h : l[k]? = some x) : crc r (l.take (k + 1)) = stepC (crc r (l.take k)) x := by
  obtain ⟨hk, rfl⟩ := List.getElem?_eq_some_iff.1 h
  rw [List.take_succ_eq_append_getElem hk, crc_snoc]
theorem not_u32 (s : Nat) (h : s < 4294967296) : bits .xor .u32 IntKind.u32.max (s : Int) = ((comp s : Nat) : Int) := by
  have e : IntKind.u32.max = ((4294967295 : Nat) : Int) := by decide
  rw [e, u32_xor_nat _ _ (by decide) h, Nat.xor_comm]
  rfl
set_option maxHeartbeats 2000000 in
theorem rupdate_any (s : Nat) (l : List Nat) (v : Value) (w : World) (hv : Byt w v l) (hs : s < 4294967296) :
    Calls Try.prog 38 #[.int .u32 (s : Int), v] w fun e w' => e = .returned (.int .u32 (upd s l : Nat)) ∧ w = w' := by
  obtain ⟨h8, A, cap, rfl, hcap, hcm, b, off, hA, hc⟩ := hv
  unfold maxLen at hcm
  have HC := hid hc
  have H8 := hid h8
  have hcs := not_u32 s hs
  have hcl := comp_lt hs
  clear hc h8
  go_enter Try.func38, Try.ntmps38
  go_wp2
  go_loop [5, 6] (fun r i => ∃ k y : Nat, k ≤ l.length ∧ i = .int .i64 (k : Int) ∧ r = .int .u32 (y : Int) ∧ Hid (y = crc (comp s) (l.take k))) (fun _ i => l.length - (RowKit.intOf i).toNat)
  case atStart => exact ⟨0, comp s, by omega, rfl, rfl, hid rfl⟩
  case round =>
    obtain ⟨k, y, hk, rfl, rfl, HY⟩ := hrel
    have hyl : y < 4294967296 := by
      rw [HY.out]
      exact crc_lt hcl (fun x hx => H8.out x (List.mem_of_mem_take hx))
    clear hcs
    by_cases hlt : k < l.length
    · obtain ⟨hA1, hb⟩ := hA (by omega)
      subst hA1
      obtain ⟨x, hx⟩ : ∃ x, l[k]? = some x := ⟨l[k], List.getElem?_eq_getElem hlt⟩
      have hxl := H8.out x (List.mem_of_getElem? hx)
      have hcl := HC.out _ _ hx
      have HN := hid (crc_take (comp s) hx)
      clear hx
      go_wp2_with (go_at_call 49; refine (register_any y x _ hyl hxl).mono ?_; rintro e w' ⟨rfl, rfl⟩)
      go_round
      case rel => exact ⟨k + 1, stepC y x, by omega, by go_num, rfl, hid (by rw [HN.out, HY.out])⟩
      case measure => simp [RowKit.intOf]; omega
    · obtain rfl : k = l.length := by omega
      have hn := not_u32 y hyl
      go_wp2
      go_ret
      exact ⟨ret_int (by rw [HY.out, List.take_of_length_le (Nat.le_refl _)]; rfl), rfl⟩
theorem rsum_any (l : List Nat) (v : Value) (w : World) (hv : Byt w v l) :
    Calls Try.prog 31 #[v] w fun e w' => e = .returned (.int .u32 (sum0 l : Nat)) ∧ w = w' := by
  have HU := hid (rupdate_any 0 l v w hv (by decide))
  obtain ⟨h8, A, cap, rfl, hcap, hcm, b, off, hA, hc⟩ := hv
  clear hc h8 hA
  go_enter Try.func31, Try.ntmps31
  go_wp2_with (go_at_call 38; refine HU.out.mono ?_; rintro e w' ⟨rfl, rfl⟩)
  go_ret
  exact ⟨rfl, rfl⟩
def zero256 : Array Value := Array.replicate 256 (.int .u32 0)
theorem zero_info : (Try.prog.info? 90).map (fun i => (i.zero, i.size)) = some (some (.agg zero256), 256) := by kernel_rfl
theorem zero_run (w : World) : (zeroValue 90).run Try.prog w = .ok (.agg zero256) w := (zero_of_info zero_info).1 w
theorem size59 : (Try.prog.info? 90).map (·.size) = some 256 := (zero_of_info zero_info).2
theorem zero256_size : zero256.size = 256 := by unfold zero256; simp
/-- The array of the table. -/
def IsTab (A : Array Value) : Prop := A.size = 256 ∧ ∀ j : Nat, j < 256 → A[j]? = some (.int .u32 (shn 8 j : Nat))
theorem IsTab.one {A : Array Value} (h : IsTab A) : A.all (·.oneCell') = true := by
  rw [Array.all_eq_true]
  intro i hi
  have h1 := h.2 i (by have := h.1; omega)
  obtain ⟨_, h2⟩ := Array.getElem?_eq_some_iff.1 h1
  rw [h2]
  rfl
/-- What the walk of the table keeps after k places. -/
def Part (w wr : World) (Z A : Array Value) (k : Nat) : Prop :=
  wr.heap[w.heap.size]? = some (.cells Z 90 (0, 0)) ∧ wr.heap[w.heap.size + 1]? = some (.cells A 90 (0, 0)) ∧ A.size = 256 ∧ (∀ j : Nat, j < k → A[j]? = some (.int .u32 (shn 8 j : Nat))) ∧ Below w.heap.size w wr
theorem Part.start (w : World) (Z : Array Value) (h : Z.size = 256) : Part w ((w.alloc (.cells Z 90)).alloc (.cells Z 90)) Z Z 0 :=
  ⟨heap_alloc2_old w _ _, heap_alloc2_new w _ _, h, fun j hj => absurd hj (by omega), ((Below.refl _ w).alloc (Nat.le_refl _) _).alloc (by simp) _⟩
theorem Part.cell {w wr : World} {Z A : Array Value} {k : Nat} (h : Part w wr Z A k) (hk : k < 256) : ∃ u, wr.cell? ⟨w.heap.size + 1, k, none⟩ = some u := by
  rw [cell_of_row _ _ _ _ _ _ h.2.1]
  exact ⟨_, Array.getElem?_eq_getElem (by have := h.2.2.1; omega)⟩
theorem Part.step {w wr : World} {Z A : Array Value} {k : Nat} (h : Part w wr Z A k) (hk : k < 256) : Part w (wr.setCell ⟨w.heap.size + 1, k, none⟩ (.int .u32 (shn 8 k : Nat))) Z (A.setIfInBounds k (.int .u32 (shn 8 k : Nat))) (k + 1) := by
  obtain ⟨h0, h1, h2, h3, hb⟩ := h
  refine ⟨(heap_setCell_other wr _ _ _ (by simp)).trans h0, heap_setCell_same wr _ _ _ _ _ h1, by simp [h2], fun j hj => ?_, hb.setCell (p := ⟨w.heap.size + 1, k, none⟩) (by simp) _⟩
  by_cases hjk : j = k
  · subst hjk
    rw [Array.getElem?_setIfInBounds, if_pos rfl, if_pos (by omega)]
  · rw [Array.getElem?_setIfInBounds, if_neg (fun e => hjk e.symm)]
    exact h3 j (by omega)
theorem Part.done {w wr : World} {Z A : Array Value} (h : Part w wr Z A 256) : IsTab A := ⟨h.2.2.1, h.2.2.2.1⟩
theorem below_setRow {B : Nat} {a w : World} (h : Below B a w) {g : Nat} (hg : B ≤ g) (cs : Array Value) : Below B a (w.setRow g cs) :=
  ⟨h.os, h.tape, h.output, by have := h.size; simp [World.setRow]; exact this, fun k hk => (setRow_other w g k cs (by omega)).trans (h.block k hk)⟩
set_option maxHeartbeats 2000000 in
set_option maxRecDepth 100000 in
theorem singles_any (w : World) :
    Calls Try.prog 52 #[] w fun e w' => ∃ A : Array Value, e = .returned (.agg A) ∧ IsTab A ∧ Below w.heap.size w w' := by
  obtain ⟨Z, hz⟩ : ∃ Z, zero256 = Z := ⟨_, rfl⟩
  have hzr := zero_run
  have hzs := zero256_size
  rw [hz] at hzr hzs
  have HZS := hid hzs
  clear hz hzs
  go_enter Try.func52, Try.ntmps52
  go_wp2
  go_loopw [5] (fun i wr => ∃ (k : Nat) (A : Array Value), k ≤ 256 ∧ i = .int .i64 (k : Int) ∧ Hid (Part w wr Z A k)) (fun i _ => 256 - (RowKit.intOf i).toNat)
  case atStart => exact ⟨0, Z, by omega, rfl, hid (Part.start w Z HZS.out)⟩
  case round =>
    clear hzr
    obtain ⟨k, A, hk, rfl, HP⟩ := hrel
    by_cases hlt : k < 256
    · obtain ⟨u, hu⟩ := HP.out.cell hlt
      have hf := frozen_of_row _ _ k _ _ HP.out.2.1
      obtain ⟨wo, rfl⟩ : ∃ wo : World, wo = wr := ⟨_, rfl⟩
      go_wp2
      go_loop [3, 10] (fun r i => ∃ m y : Nat, m ≤ 8 ∧ i = .int .i64 (m : Int) ∧ r = .int .u32 (y : Int) ∧ Hid (y < 4294967296 ∧ shn (8 - m) y = shn 8 k)) (fun _ i => 8 - (RowKit.intOf i).toNat)
      case atStart => exact ⟨0, k, by omega, rfl, rfl, hid ⟨by omega, rfl⟩⟩
      case round =>
        clear hu hf
        obtain ⟨m, y, hm, rfl, rfl, HY⟩ := hrel
        have hyl := HY.out.1
        by_cases hlm : m < 8
        · have HN : Hid (shn (8 - (m + 1)) (sh1 y) = shn 8 k) := hid (by
            have h := HY.out.2
            rw [show 8 - m = (8 - (m + 1)) + 1 by omega, shn] at h
            exact h)
          have h1l := sh1_lt hyl
          have hand : bits .and .u32 (y : Int) 1 = ((y % 2 : Nat) : Int) := by
            have h := u32_and_nat y 1 hyl (by decide)
            rw [nat_mask1] at h
            exact h
          by_cases hodd : y % 2 = 1
          · have HO := hid (sh1_odd hodd)
            rw [hodd] at hand
            have hxr : bits .xor .u32 ((y : Int) / 2) 2197175160 = ((sh1 y : Nat) : Int) := by
              have h := u32_xor_nat (y / 2) 2197175160 (by omega) (by decide)
              rw [HO.out] at h
              exact h
            clear hodd
            go_wp2
            go_round
            case rel => exact ⟨m + 1, sh1 y, by omega, by go_num, rfl, hid ⟨h1l, HN.out⟩⟩
            case measure => simp [RowKit.intOf]; omega
          · have HO := hid (sh1_even hodd)
            rw [show y % 2 = 0 by omega] at hand
            clear hodd
            go_wp2
            go_round
            case rel => exact ⟨m + 1, sh1 y, by omega, by go_num, u32_eq (by rw [← HO.out]; omega), hid ⟨h1l, HN.out⟩⟩
            case measure => simp [RowKit.intOf]; omega
        · obtain rfl : m = 8 := by omega
          obtain ⟨u, hu⟩ := HP.out.cell hlt
          have hf := frozen_of_row _ _ k _ _ HP.out.2.1
          go_wp2
          go_roundw
          case rel => exact ⟨k + 1, A.setIfInBounds k (.int .u32 (shn 8 k : Nat)), by omega, by go_num, hid (by
            have e : y = shn 8 k := HY.out.2
            rw [e]
            exact HP.out.step hlt)⟩
          case measure => simp [RowKit.intOf]; omega
    · obtain rfl : k = 256 := by omega
      have HT := hid HP.out.done
      obtain ⟨HB0, HB1, _, _, hb⟩ := HP.out
      replace HB0 := hid HB0
      replace HB1 := hid HB1
      have HB := hid hb
      clear hb
      go_wp2_with (first | (refine wpList_load_row rfl 90 (.tmp 1) rfl (w.heap.size + 1) rfl 90 A (0, 0) _ HB1.out Try.underlying90 rfl (by rw [HT.out.1]; exact size59) ?_) | (refine wpList_store_row rfl 90 (.tmp 0) (.tmp 25) rfl w.heap.size A rfl rfl 90 Z HB0.out (by rw [HT.out.1]; exact size59) (by rw [HT.out.1]; exact HZS.out) HT.out.one ?_))
      refine bodyPost_ret (results_cell_row rfl _ _ w.heap.size 90 A (0, 0) _ rfl (setRow_heap wr _ Z A 90 (0, 0) HB0.out) Try.underlying90 rfl (by rw [HT.out.1]; exact size59)) rfl ?_
      exact ⟨A, rfl, HT.out, below_setRow HB.out (Nat.le_refl _) A⟩
section
attribute [local go_sem] Oper.semAt_some
variable {P : Program} {n : Nat}
/-- What an iterator over the bytes l owes. -/
def Streams (n gf : Nat) (lb : Array Value) (n₀ : Nat) (l : List Nat) (w : World) : Prop :=
  SeqStopsK Fence.wide n Try.prog gf lb (fun x : Fin 256 => #[Value.int .u8 (x.val : Int)]) (Below n₀) (fun ys => ys.map (·.val) = l) (fun _ => True) l.length w
theorem take_map {l : List Nat} {k : Nat} {pre : List (Fin 256)} {x : Nat} (hx : x < 256) (h : pre.map (·.val) = l.take k) (hk : l[k]? = some x) : (pre ++ [(⟨x, hx⟩ : Fin 256)]).map (·.val) = l.take (k + 1) := by
  obtain ⟨hlt, rfl⟩ := List.getElem?_eq_some_iff.1 hk
  rw [List.map_append, h, List.take_succ_eq_append_getElem hlt]
  rfl
theorem pre_short {l : List Nat} {k : Nat} {pre : List (Fin 256)} (h : pre.map (·.val) = l.take k) (hk : k < l.length) : pre.length < l.length := by
  have := congrArg List.length h
  rw [List.length_map, List.length_take] at this
  omega
set_option maxHeartbeats 2000000 in
set_option maxRecDepth 100000 in
theorem values_streams (n Bs : Nat) (l : List Nat) (v : Value) (w0 w : World) (hn : 1 ≤ n) (hv : Byt w0 v l) (hb0 : Below w0.heap.size w0 w) (hlt : Bs < w.heap.size) (hc0 : w.cell? ⟨Bs, 0, none⟩ = some v) :
    Streams n 53 #[.pointer (some ⟨Bs, 0, none⟩)] w0.heap.size l w := by
  intro l0 J Jx W hW hJ hJx hY h0
  have hbW : Below w0.heap.size w0 W := hb0.trans (hW.mono hb0.size)
  have hBs := (hW.cell (p := ⟨Bs, 0, none⟩) hlt).trans hc0
  obtain ⟨h8, A, cap, rfl, hcap, hcm, b, off, hA, hc⟩ := hv
  unfold maxLen at hcm
  have HC := hid hc
  have H8 := hid h8
  have HY := hid hY
  have HBW := hid hbW
  clear hc h8 hY hJ hJx hb0 hW hbW hc0 hlt
  refine callsIn_of_wp Try.func53 rfl trivial ?_ rfl
  simp only [Try.ntmps53, List.size_toArray, List.length_cons, List.length_nil, Nat.reduceAdd, Nat.reduceSub, Array.replicate_succ, Array.replicate_zero, List.push_toArray, List.append_toArray, List.nil_append, List.cons_append]
  gi_wp2
  gi_loopw [7] (fun i wr => ∃ (k : Nat) (pre : List (Fin 256)), k ≤ l.length ∧ i = .int .i64 (k : Int) ∧ Hid (pre.map (·.val) = l.take k) ∧ Hid (J pre wr) ∧ Hid (Below w0.heap.size W wr)) (fun i _ => l.length - (RowKit.intOf i).toNat)
  case atStart => exact ⟨0, [], Nat.zero_le _, rfl, hid rfl, hid h0, hid (Below.refl _ _)⟩
  case round =>
    clear h0 hBs
    obtain ⟨k, pre, hk, rfl, HP, HJ, HB⟩ := hrel
    by_cases hkl : k < l.length
    · obtain ⟨hA1, hb⟩ := hA (by omega)
      subst hA1
      obtain ⟨x, hx⟩ : ∃ x, l[k]? = some x := ⟨l[k], List.getElem?_eq_getElem hkl⟩
      have hxl := H8.out x (List.mem_of_getElem? hx)
      have hcl := (HB.out.cell (p := ⟨b, off + k, none⟩) hb).trans ((HBW.out.cell (p := ⟨b, off + k, none⟩) hb).trans (HC.out _ _ hx))
      have HP2 := hid (take_map hxl HP.out hx)
      clear hx
      obtain ⟨fn, tmps, assign, body, hy, hR⟩ := HY.out pre ⟨x, hxl⟩ wr HJ.out (pre_short HP.out hkl)
      dsimp only at hy
      have HR := hid hR
      clear hR
      gi_wp2
      refine HR.out.mono ?_
      rintro e W3 (⟨rfl, hJ3, hk3⟩ | ⟨rfl, hJx3⟩)
      · have HJ3 := hid hJ3
        have HB3 := hid (HB.out.trans hk3)
        clear hJ3 hk3
        gi_wp2
        go_roundw
        case rel => exact ⟨k + 1, _, by omega, by go_num, HP2, HJ3, HB3⟩
        case measure => simp [RowKit.intOf]; omega
      · gi_wp2
        refine bodyPost_ret (results_none rfl _ _ _) rfl ?_
        exact ⟨⟨_, rfl⟩, .inr ⟨_, trivial, hJx3⟩⟩
    · obtain rfl : k = l.length := by omega
      gi_wp2
      go_end0
      exact ⟨⟨_, rfl⟩, .inl ⟨_, by rw [HP.out, List.take_of_length_le (Nat.le_refl _)], HJ.out⟩⟩
end
section
attribute [local go_sem] Oper.semAt_some
variable {P : Program} {n : Nat}
theorem values_any (v : Value) (w : World) (a : Option Addr) (len cap : Nat) (hv : v = .slice a len cap) :
    Calls Try.prog 48 #[v] w fun e w' => e = .returned (.func (.func 53) #[] #[.pointer (some ⟨w.heap.size, 0, none⟩)]) ∧ w.alloc (.cells #[v] 25) = w' := by
  subst hv
  go_enter Try.func48, Try.ntmps48
  go_wp2
  go_ret
  exact ⟨rfl, rfl⟩
end
section
attribute [local go_sem] Oper.semAt_some
variable {P : Program} {n : Nat}
/-- None of the operations is a defer statement. -/
def calmOps (ops : Array Oper) : Bool := ops.all fun o => match o.op with | .defer _ => false | _ => true
theorem calm_of {ops : Array Oper} (h : calmOps ops = true) {i : Nat} {o : Oper} (ho : ops[i]? = some o) : ∀ c, o.op ≠ .defer c := by
  intro c hc
  unfold calmOps at h
  rw [Array.all_eq_true] at h
  obtain ⟨hi, he⟩ := Array.getElem?_eq_some_iff.1 ho
  have := h i hi
  rw [he, hc] at this
  cases this
theorem upon_round {o : Oper} {a : Act} {K : Act → World → Prop} {Q : Exit → Act → World → Prop} (l : Nat) : ∀ r : Result Next, o.upon P a K Q r → o.uponIn (Fence.wide.inRound l) n P a K Q r
  | .ok (.value _) _, h => h
  | .ok .skip _, h => h
  | .ok (.defer _) _, h => h
  | .ok (.enter _ _) _, h => ⟨fun hd => by simp [Fence.wide, Fence.inRound] at hd, CallsIn.inRound l (callsIn_wide.2 h)⟩
  | .ok (.row _ _) _, h => ⟨fun hd => by simp [Fence.wide, Fence.inRound] at hd, fun c cs _ => let ⟨v, w', r, s⟩ := h c cs; ⟨v, w', r, (stepsIn_wide.2 s)⟩⟩
  | .ok (.round ..) _, h => h.elim
  | .ok (.coroswitch ..) _, h => h.elim
  | .halt hl _, h => by cases hl <;> exact h
theorem op_round {o : Oper} {a : Act} {w : World} {K : Act → World → Prop} {Q : Exit → Act → World → Prop} (l : Nat) (ho : ∀ c, o.op ≠ .defer c) (h : o.wp P a w K Q) : o.wpIn (Fence.wide.inRound l) n P a w K Q :=
  ⟨fun _ _ => trivial, by
    show o.uponIn (Fence.wide.inRound l) n P a K Q ((o.semAt (some l) a.eval).run P w)
    rw [Oper.semAt_some l _ o ho]
    exact upon_round l _ h⟩
theorem opAt_round {ops : Array Oper} {i : Nat} {a : Act} {w : World} {K : Act → World → Prop} {Q : Exit → Act → World → Prop} (l : Nat) (hQ : ¬ LetsOut Q) (hc : calmOps ops = true) (h : wpOp P ops Q i K a w) : wpOpIn (Fence.wide.inRound l) n P ops Q i K a w := by
  unfold wpOp at h
  unfold wpOpIn
  split
  · rename_i ho; simp only [ho] at h; exact h
  · rename_i o ho
    simp only [ho] at h
    split
    · rename_i hw
      simp only [hw, if_true] at h
      exact op_round l (calm_of hc ho) (h.resolve_right fun h2 => hQ h2.2)
    · rename_i hw
      simp only [hw] at h
      exact ⟨fun _ _ => trivial, h⟩
theorem any_round {ops : Array Oper} {md : Region.Mode} {Q : Exit → Act → World → Prop} (l : Nat) (hQ : ¬ LetsOut Q) (hc : calmOps ops = true) : ∀ (fuel : Nat) (listed : Array Bool) (a : Act) (w : World),
    wpAny P md ops Q fuel listed a w → wpAnyIn (Fence.wide.inRound l) n P md ops Q fuel listed a w
  | 0, _, _, _, h => h
  | fuel + 1, _, _, _, h => ⟨h.1, fun i hi => wpOpIn_mono (fun a' w' h' => any_round l hQ hc fuel _ a' w' h') (opAt_round l hQ hc (h.2 i hi))⟩
/-- Reads in whatever order ahead of the operations from k on, within a round. -/
theorem round_still_tail {id l0 : Nat} {Q : Exit → Act → World → Prop} {a : Act} {w : World} {l : List Oper} (k : Nat) (hm : P.follows .mixedOrders = true) (hB : Region.lexTailB .any l.toArray k = true) (hQ : ¬ LetsOut Q) (hc : calmOps l.toArray = true)
    (h : wpStill P l.toArray { w with drawn := w.drawn + 1 } (fun a' => wpList P l.toArray Q (l.drop k) a' { w with drawn := w.drawn + 1 }) (l.take k) a) : (Code.region id l.toArray true).wpIn (Fence.wide.inRound l0) n P Q a w := by
  simp only [Region.lexTailB, Bool.and_eq_true, decide_eq_true_eq] at hB
  obtain ⟨⟨⟨⟨h1, h2⟩, h3⟩, h4⟩, h5⟩ := hB
  have hk : k < l.length := by simpa using h2
  have e1 : (l.take k).length = k := by simp; omega
  have e2 : (l.drop k).length = l.toArray.size - k := by simp
  have hin : HeadInv .any l.toArray k (Array.replicate l.toArray.size false) :=
    ⟨by simp, fun j oj _ hl => (by rw [getD_replicate_false] at hl; cases hl), fun t _ ht => getD_in (by simpa using ht) (getD_replicate_false _ _)⟩
  have hh := wpAnyL_lex (md := .any) (g := l.toArray.size - k) h1 h3 h4 h2 (l.take k) 0 _ a (fun j hj => by
    have hj' : j < k := by rw [e1] at hj; exact hj
    simp [hj']) (by simpa using e1) hin (by rw [e1]; exact h5) h
  have ht := wpAny_of_head (Q' := Q) (g := l.toArray.size - k) (fun listed a' hL => by
    have hs := wpAny_of_seq (md := .any) (Q' := Q) (l.drop k) k listed a' { w with drawn := w.drawn + 1 } (fun j => by simp [List.getElem?_drop]) (by rw [e2]; exact hL.1) hL.2
    rwa [e2] at hs) _ _ _ hh
  rw [e1, show k + (l.toArray.size - k) = l.toArray.size by omega] at ht
  exact wpIn_region_any hm (any_round l0 hQ hc _ _ _ _ ht)
end
section
attribute [local go_sem] Oper.semAt_some
variable {P : Program} {n : Nat}
theorem wpListIn_store_row {F : Fence} {n : Nat} {ops : Array Oper} {rest : List Oper} {o : Oper} {a : Act} {w : World} {Q : Exit → Act → World → Prop} (hgd : o.guard = none) (ty : TypeId) (x y : Operand) (ho : o.op = .store ty x y)
    (g : Nat) (cells : Array Value) (hx : a.eval x = .pointer (some ⟨g, 0, none⟩)) (hy : a.eval y = .agg cells)
    (t : TypeId) (old : Array Value) (hg : w.heap[g]? = some (.cells old t (0, 0))) (hi : (P.info? ty).map (·.size) = some cells.size)
    (hold : old.size = cells.size) (h1 : cells.all (·.oneCell') = true)
    (h : wpListIn F n P ops Q rest (a.put o.dst undef) (w.setRow g cells)) : wpListIn F n P ops Q (o :: rest) a w := by
  refine wpListIn_plain hgd fun K hK => ?_
  unfold Oper.wpIn
  refine ⟨by simp [Oper.about, ho], ?_⟩
  rw [Oper.semAt_plain F _ _ (by rw [ho]; intro c hc; cases hc)]
  simp only [execOp, ho, hx, hy, Instr.storeAt, Instr.sureAddr, Sem.run_bind, Sem.run_pure, Result.andThen_ok, run_storeVar_row w g t ty old cells hg hi hold h1]
  exact hK _ _ h
theorem fold_C (pre : List (Fin 256)) (x : Fin 256) (r : Nat) : crc r ((pre ++ [x]).map (·.val)) = stepC (crc r (pre.map (·.val))) x.val := by
  rw [List.map_append, List.map_cons, List.map_nil, crc_snoc]
theorem fins_B8 (l : List (Fin 256)) : B8 (l.map (·.val)) := fun x hx => by
  obtain ⟨y, _, rfl⟩ := List.mem_map.1 hx
  exact y.isLt
set_option maxRecDepth 100000 in
set_option maxHeartbeats 4000000 in
theorem advance_any (r gf : Nat) (lb : Array Value) (n₀ : Nat) (l : List Nat) (w : World) (hr : r < 4294967296) (hS : Streams 2 gf lb n₀ l w) (hn₀ : n₀ ≤ w.heap.size) (he : ∀ args w, (callFunc gf args).run Try.prog w = .ok (.enter gf args) w) :
    Calls Try.prog 47 #[.int .u32 (r : Int), .func (.func gf) #[] lb] w fun e W' => e = .returned (.int .u32 (crc r l : Nat)) ∧ Below w.heap.size w W' := by
  refine (callsIn_wide (n := 3)).1 ?_
  obtain ⟨Z, hz⟩ : ∃ Z, zero256 = Z := ⟨_, rfl⟩
  have hzr := zero_run
  have hzs := zero256_size
  rw [hz] at hzr hzs
  have HZS := hid hzs
  clear hz hzs
  refine callsIn_of_wp_marks Try.func47 rfl trivial ?_ rfl
  simp only [Try.ntmps47, List.size_toArray, List.length_cons, List.length_nil, Nat.reduceAdd, Nat.reduceSub, Array.replicate_succ, Array.replicate_zero, List.push_toArray, List.append_toArray, List.nil_append, List.cons_append]
  gi_wp2_with (first | (refine ⟨trivial, ?_⟩; gi_at_call 52; refine (callsIn_wide.2 (singles_any _)).mono ?_; rintro e w2 ⟨A, rfl, hA, hb2⟩; have HA := hid hA; have HB2 := hid hb2; clear hA hb2) | (refine wpListIn_store_row rfl 90 (.tmp 5) (.tmp 7) rfl w2.heap.size A rfl rfl 90 Z (heap_alloc_new _ _) (by rw [HA.out.1]; exact size59) (by rw [HA.out.1]; exact HZS.out) HA.out.one ?_))
  obtain ⟨W0, hW0⟩ : ∃ W0, (w2.alloc (.cells Z 90)).setRow w2.heap.size A = W0 := ⟨_, rfl⟩
  have hb2 := HB2.out
  have hsz2 : w.heap.size + 1 ≤ w2.heap.size := by have := hb2.size; simp at this; omega
  have hsz0 : W0.heap.size = w2.heap.size + 1 := by rw [← hW0]; simp [World.setRow]
  have hbox : Boxed w2 w.heap.size 56 (.int .u32 (r : Int)) := (hb2.block _ (by simp)).trans (Boxed.new w 56 (.int .u32 (r : Int)))
  have hbox0 : Boxed W0 w.heap.size 56 (.int .u32 (r : Int)) := by
    rw [← hW0]
    exact (setRow_other _ _ _ _ (by omega)).trans (hbox.alloc _)
  have hrow0 : W0.heap[w2.heap.size]? = some (.cells A 90 (0, 0)) := by
    rw [← hW0]
    exact setRow_heap _ _ Z A 90 (0, 0) (heap_alloc_new _ _)
  have hB0 : Below w.heap.size w W0 := by
    rw [← hW0]
    exact below_setRow ((((Below.refl _ w).alloc (Nat.le_refl _) _).trans (hb2.mono (by simp))).alloc (by omega) _) (by omega) A
  rw [hW0]
  clear hW0 hb2 HB2 hbox hzr HZS
  refine wpIn_rangeFunc_ownG rfl (by decide) (gf := gf) (lb := lb) rfl trivial he hS belowK_t (belowK_b (n₀ := n₀) (by omega)) hB0 (fun _ => rfl)
    (fun pre W => (W.cell? ⟨w.heap.size, 0, none⟩ = some (.int .u32 (crc r (pre.map (·.val)) : Nat)) ∧ W.frozen? ⟨w.heap.size, 0, none⟩ = false ∧ (∀ j : Nat, j < 256 → W.cell? ⟨w2.heap.size, j, none⟩ = some (.int .u32 (shn 8 j : Nat)))) ∧ Below w.heap.size w W)
    (fun _ _ _ => False)
    (OwnFrom.and (Own.from (fun s A B row hs hg hr => ⟨cell_kept hs.1 hg hr, (frozen_kept hs.1 hg hr).trans hs.2.1, fun j hj => cell_kept (hs.2.2 j hj) hg hr⟩) _) (ownFrom_below (Nat.le_refl _) (by omega)))
    (fun _ _ _ _ _ hs _ _ => hs)
    ⟨⟨hbox0.cell, hbox0.frozen, fun j hj => by rw [cell_of_row _ _ _ _ _ _ hrow0]; exact HA.out.2 j hj⟩, hB0⟩
    (fun x => { tmps := #[.int .u32 (r : Int), .func (.func gf) #[] lb, .pointer (some ⟨w.heap.size, 0, none⟩), undef, .int .u32 0, .pointer (some ⟨w2.heap.size, 0, none⟩), .int .u8 (x.val : Int), .agg A, .func (.func gf) #[] lb, .int .u8 (x.val : Int), undef, undef, undef, undef, undef, undef, undef, undef, undef, undef], defers := [] }) ?assign ?body ?done ?stop
  case assign =>
    intro l x W K hK
    gi_wp2
    exact hK
  case body =>
    rintro l pre x W ⟨⟨hc, hf, ht⟩, hB⟩ _
    have HF := hid (fold_C pre x r)
    have hyl := crc_lt hr (fins_B8 pre)
    obtain ⟨y, hy⟩ : ∃ y, crc r (pre.map (·.val)) = y := ⟨_, rfl⟩
    rw [hy] at hc hyl HF
    have hxl := x.isLt
    obtain ⟨j, hj⟩ : ∃ j, (y % 256) ^^^ x.val = j := ⟨_, rfl⟩
    have hjl : j < 256 := by rw [← hj]; exact Nat.xor_lt_two_pow (n := 8) (show y % 256 < 2 ^ 8 by omega) hxl
    have hx8 : bits .xor .u8 (IntKind.u8.wrap (y : Int)) (x.val : Int) = (j : Int) := by
      have h := u8_xor_nat (y % 256) x.val (by omega) hxl
      rw [hj] at h
      rw [IntKind.wrap_u8']
      exact h
    have hst : bits .xor .u32 ((shn 8 j : Nat) : Int) ((y : Int) / 256) = ((stepC y x.val : Nat) : Int) := by
      have h := u32_xor_nat (shn 8 j) (y / 256) (shn_lt (by omega)) (by omega)
      rw [← hj, ← step_table y x.val hxl, hj] at h
      exact h
    have htj := ht j hjl
    have HT := hid ht
    clear hy hj ht
    have hji : (j : Int) < 256 := by omega
    have hj0 : (0 : Int) ≤ (j : Int) := by omega
    gi_wp2
    refine round_still_tail 9 (by kernel_rfl) (by kernel_rfl) (by rintro ⟨_, _, h⟩; exact h) (by kernel_rfl) ?_
    simp only [List.take_succ_cons, List.take_zero, List.drop_succ_cons, List.drop_zero]
    repeat still_step
    refine wpStill_nil ?_
    obtain ⟨W4, hW4⟩ : ∃ W4 : World, ({ heap := W.heap, tape := W.tape, drawn := W.drawn + 1, os := W.os, output := W.output } : World) = W4 := ⟨_, rfl⟩
    have hc4 : W4.cell? ⟨w.heap.size, 0, none⟩ = some (.int .u32 (y : Int)) := by rw [← hW4]; exact hc
    have hf4 : W4.frozen? ⟨w.heap.size, 0, none⟩ = false := by rw [← hW4]; exact hf
    have HK : Hid (KeepsFrom W0.heap.size W W4 ∧ Below n₀ W W4 ∧ Below w.heap.size W W4) := by rw [← hW4]; exact hid ⟨⟨Nat.le_refl _, fun k o _ h _ => h⟩, ⟨rfl, rfl, rfl, Nat.le_refl _, fun _ _ => rfl⟩, ⟨rfl, rfl, rfl, Nat.le_refl _, fun _ _ => rfl⟩⟩
    have HT4 : Hid (∀ j : Nat, j < 256 → W4.cell? ⟨w2.heap.size, j, none⟩ = some (.int .u32 (shn 8 j : Nat))) := by rw [← hW4]; exact hid HT.out
    rw [hW4]
    clear hW4 hc hf htj HT hx8
    go_wp2
    obtain ⟨k1, k2, k3⟩ := HK.out
    exact ⟨k1.trans ((KeepsOthers.setCell _ _ _).from _), k2.trans ((Below.refl n₀ W4).setCell (p := ⟨w.heap.size, 0, none⟩) hn₀ _), ⟨by rw [HF.out]; exact World.cell?_setCell_same' _ _ _ (by rw [hc4]; rfl), by rw [World.frozen?_setCell]; exact hf4, fun i hi => (World.cell?_setCell_other W4 _ _ _ (by intro e; injection e with e _; omega)).trans (HT4.out i hi)⟩, (hB.trans k3).setCell (p := ⟨w.heap.size, 0, none⟩) (Nat.le_refl _) _⟩
  case done =>
    rintro D ys W hD hys ⟨⟨hc, _, _⟩, hB⟩ hK
    rw [hys] at hc
    gi_wp2
    refine ⟨by simp, .inl ⟨_, _, rfl, run_takeDeferred hK, ?_⟩⟩
    exact ⟨_, results_tmp rfl _ _ _, rfl, hB.trans (belowK_b (w := w) (Nat.le_refl _) W D _ _ (by omega) hK rfl rfl)⟩
  case stop =>
    rintro D c pre W _ _ h _
    exact h.elim
end
theorem enters53 : ∀ args w, (callFunc 53 args).run Try.prog w = .ok (.enter 53 args) w := enters_of Try.func53 (by kernel_rfl) rfl
theorem al_back {w W : World} {o : Obj} (h : Below (w.alloc o).heap.size (w.alloc o) W) : Below w.heap.size w W := (al1 w o).trans (h.mono (by simp))
theorem values_at {w : World} {v : Value} {l : List Nat} (hv : Byt w v l) : Streams 2 53 #[.pointer (some ⟨w.heap.size, 0, none⟩)] w.heap.size l (w.alloc (.cells #[v] 25)) :=
  values_streams 2 w.heap.size l v w _ (by decide) hv (al1 _ _) (by simp) (Boxed.new w 25 v).cell
set_option maxHeartbeats 2000000 in
theorem update_any (s : Nat) (l : List Nat) (v : Value) (w : World) (hv : Byt w v l) (hs : s < 4294967296) :
    Calls Try.prog 37 #[.int .u32 (s : Int), v] w fun e w' => e = .returned (.int .u32 (upd s l : Nat)) ∧ Below w.heap.size w w' := by
  have HS := hid (values_at hv)
  have hcs := not_u32 s hs
  have hcl := comp_lt hs
  have hyl := crc_lt hcl hv.1
  have HU : Hid (upd s l = comp (crc (comp s) l)) := hid rfl
  obtain ⟨A, cap, rfl⟩ := byt_form hv
  obtain ⟨y, hy⟩ : ∃ y, crc (comp s) l = y := ⟨_, rfl⟩
  have HY := hid hy
  rw [hy] at hyl HU
  have hn := not_u32 y hyl
  clear hv hy
  go_enter Try.func37, Try.ntmps37
  go_wp2_with (go_at_call 48; refine (values_any _ _ _ _ _ rfl).mono ?_; rintro e w1 ⟨rfl, rfl⟩)
  refine (advance_any (comp s) 53 _ w.heap.size l _ hcl HS.out (by simp) enters53).mono ?_
  rintro e w2 ⟨rfl, hb⟩
  have HB := hid (al_back hb)
  clear hb
  rw [HY.out]
  clear hcs
  go_wp2
  go_ret
  exact ⟨by rw [HU.out]; rfl, HB.out⟩
theorem sum_any (l : List Nat) (v : Value) (w : World) (hv : Byt w v l) :
    Calls Try.prog 24 #[v] w fun e w' => e = .returned (.int .u32 (sum0 l : Nat)) ∧ Below w.heap.size w w' := by
  have HU := hid (update_any 0 l v w hv (by decide))
  obtain ⟨A, cap, rfl⟩ := byt_form hv
  clear hv
  go_enter Try.func24, Try.ntmps24
  go_wp2_with (go_at_call 37; refine HU.out.mono ?_; rintro e w' ⟨rfl, hb⟩)
  go_ret
  exact ⟨rfl, hb⟩
end Go.Proofs.Ytcmmkeadbedooaa
