/- The stream: what is left of it; number, sum; the number of a sector. -/
import Derived.Test.YtcmmkeadbedooaaG
namespace Go.Proofs.Ytcmmkeadbedooaa
open Go.RowKit Go.Lib

theorem wrap64_nat {n : Nat} (h : n < 9223372036854775808) : IntKind.i64.wrap (n : Int) = (n : Int) := by
  have e : (n : Int) % 2 ^ 64 = n := Int.emod_eq_of_lt (by omega) (by omega)
  simp only [IntKind.wrap, IntKind.bits, IntKind.signed, e]
  rw [if_neg]
  simp
  omega
theorem i64_or_nat (a b : Nat) (ha : a < 9223372036854775808) (hb : b < 9223372036854775808) : bits .or .i64 (a : Int) (b : Int) = ((a ||| b : Nat) : Int) := by
  have hx : a ||| b < 2 ^ 63 := Nat.or_lt_two_pow (by omega) (by omega)
  show IntKind.i64.wrap ((BitVec.ofInt 64 (a : Int) ||| BitVec.ofInt 64 (b : Int)).toNat : Int) = _
  rw [BitVec.toNat_or, ofInt_u64 a (by omega), ofInt_u64 b (by omega)]
  exact wrap64_nat (by omega)
theorem sh_eq (x k : Nat) : ((x : Int) * 2 ^ (8 * k)) = ((x * 256 ^ k : Nat) : Int) := by
  have e : (2 ^ (8 * k) : Nat) = 256 ^ k := pow256 k
  have e2 : (2 : Int) ^ (8 * k) = ((2 ^ (8 * k) : Nat) : Int) := by simp
  rw [e2, e]
  simp
theorem acc_eq {x k m N : Nat} (hk : k < 4) (hm : m < 256 ^ k) (hx : x < 256) (hN : m + x * 256 ^ k = N) : bits .or .i64 (m : Int) (wrap64 ((x : Int) * 2 ^ (8 * k))) = (N : Int) := by
  have h1 := weigh_le (x := x) hm hx
  have h2 := pow_le4' hk
  have h3 := or_shift (x := x) hm
  rw [sh_eq]
  obtain ⟨P, hP⟩ : ∃ P, x * 256 ^ k = P := ⟨_, rfl⟩
  rw [hP] at h1 hN h3 ⊢
  rw [IntWalk.wrap64_in (P : Int) (by omega), i64_or_nat _ _ (by omega) (by omega), h3, hN]

/-- The box g of a stream: what is left of it reads as t in the world w0. -/
def Lf (w0 w : World) (g : Nat) (t : List Nat) (u : Value) : Prop := ∃ A cap, w.heap[g]? = some (.cells #[.slice A t.length cap, u] 62) ∧ Byt w0 (.slice A t.length cap) t
theorem Lf.lt {w0 w : World} {g : Nat} {t : List Nat} {u : Value} (h : Lf w0 w g t u) : g < w.heap.size := by
  obtain ⟨A, cap, hb, _⟩ := h
  exact box_lt hb
theorem next_lf (g k : Nat) (t : List Nat) (u : Value) (w0 w : World) (h : Lf w0 w g t u) (hk : k ≤ t.length) :
    Calls Try.prog 27 #[.pointer (some ⟨g, 0, none⟩), .int .i64 (k : Int)] w fun e w' => (∃ A cap, e = .returned (.slice A k cap) ∧ Byt w0 (.slice A k cap) (t.take k) ∧ (0 < cap → k ≤ cap)) ∧ Lf w0 w' g (t.drop k) u ∧ Upd g w w' := by
  obtain ⟨A, cap, hb, hv⟩ := h
  have hl := byt_cap hv
  refine (next_any g A t.length cap k u w hb hk hl).mono ?_
  rintro e w' ⟨rfl, rfl⟩
  have h1 := byt_upto hv k
  have h2 := byt_from hv hk
  have e1 : (t.take k).length = k := by rw [List.length_take]; omega
  have e2 : (t.drop k).length = t.length - k := List.length_drop
  rw [e1] at h1
  refine ⟨⟨A, cap, rfl, h1, fun _ => by omega⟩, ⟨fromA A cap k, cap - k, ?_, by rw [e2]; exact h2⟩, (Upd.refl g w).set 0 _⟩
  rw [e2]
  exact box_s0 hb _

set_option maxHeartbeats 2000000 in
set_option maxRecDepth 100000 in
theorem number_lf (g n : Nat) (t : List Nat) (u : Value) (w0 w : World) (h : Lf w0 w g t u) (hb0 : Below w0.heap.size w0 w) (hg : w0.heap.size ≤ g) (hn : n ≤ t.length) (hn4 : n ≤ 4) :
    Calls Try.prog 41 #[.pointer (some ⟨g, 0, none⟩), .int .i64 (n : Int)] w fun e w' => e = .returned (.int .i64 (ge (t.take n) : Nat)) ∧ Lf w0 w' g (t.drop n) u ∧ Upd g w w' := by
  have HN := hid (next_lf g n t u w0 w h hn)
  have HB0 := hid hb0
  have HG := hid hg
  clear h hb0
  go_enter Try.func41, Try.ntmps41
  go_wp2_with fail
  refine HN.out.mono ?_
  rintro e w1 ⟨⟨A, cap, rfl, hv, _⟩, hlf, hu⟩
  have HLF := hid hlf
  have HU := hid hu
  have hbw : Below w0.heap.size w0 w1 := HB0.out.trans (hu.below (by omega) HB0.out.size)
  have hl8 := hv.1
  obtain ⟨s, hs⟩ : ∃ s, t.take n = s := ⟨_, rfl⟩
  have hsl : s.length = n := by rw [← hs, List.length_take]; omega
  rw [hs] at hv hl8
  have HS := hid hs
  have HV := hid (hv.below hbw)
  have H8 := hid hl8
  clear hlf hu hv hs hbw hl8 hg
  go_wp2
  go_loopw [5, 12] (fun v i wr => ∃ (k m : Nat), k ≤ n ∧ m < 4294967296 ∧ i = .int .i64 (k : Int) ∧ v = .int .i64 (m : Int) ∧ Hid (m = ge (s.take k)) ∧ w1 = wr) (fun _ i _ => n - (RowKit.intOf i).toNat)
  case atStart => exact ⟨0, 0, by omega, by omega, rfl, rfl, hid (by rw [List.take_zero]; rfl), rfl⟩
  case round =>
    obtain ⟨k, m, hk, hm, rfl, rfl, HM, rfl⟩ := hrel
    by_cases hkn : k < n
    · obtain ⟨x, hx⟩ : ∃ x, s[k]? = some x := ⟨s[k], List.getElem?_eq_getElem (by omega)⟩
      have hx8 := H8.out x (List.mem_of_getElem? hx)
      obtain ⟨b, off, rfl, hblt, hcell⟩ := byt_at HV.out (by omega)
      have hc := hcell k x hx
      have hml : m < 256 ^ k := by
        have := ge_lt (b8_take H8.out k)
        rw [List.length_take, Nat.min_eq_left (by omega)] at this
        rw [HM.out]; exact this
      obtain ⟨N, hN⟩ : ∃ N, m + x * 256 ^ k = N := ⟨_, rfl⟩
      have hw := acc_eq (by omega) hml hx8 hN
      have hNl : N < 4294967296 := by
        have h1 := weigh_le (x := x) hml hx8
        have h2 := pow_le4' (k := k) (by omega)
        omega
      have HNN : Hid (N = ge (s.take (k + 1))) := hid (by rw [ge_take hx, ← HM.out, hN])
      clear hx hcell hml hN
      go_wp2
      go_roundw
      case rel => exact ⟨k + 1, N, by omega, hNl, by go_num, rfl, HNN, trivial⟩
      case measure => simp [RowKit.intOf]; omega
    · obtain rfl : k = n := by omega
      go_wp2
      go_ret
      exact ⟨ret_int (by rw [HS.out, HM.out, List.take_of_length_le (by omega)]), HLF.out, HU.out⟩

theorem byt_len {w : World} {v : Value} {l : List Nat} (h : Byt w v l) : l.length ≤ 9223372036854775807 := by
  obtain ⟨_, A, cap, e, h1, h2, _⟩ := h
  unfold maxLen at h2
  omega
theorem below_drew1 {B : Nat} {w w' : World} (h : Below B w.drew w') : Below B w w' := ⟨h.os, h.tape, h.output, h.size, h.block⟩
set_option maxHeartbeats 2000000 in
set_option maxRecDepth 100000 in
theorem sum_lf (g : Nat) (t l : List Nat) (B : Option Addr) (c : Nat) (w0 w : World) (h : Lf w0 w g t (.slice B l.length c)) (hb0 : Below w0.heap.size w0 w) (hv : Byt w0 (.slice B l.length c) l) (ht : t.length ≤ l.length) :
    Calls Try.prog 28 #[.pointer (some ⟨g, 0, none⟩)] w fun e w' => e = .returned (.int .u32 (sum0 (l.take (l.length - t.length)) : Nat)) ∧ Below w.heap.size w w' := by
  obtain ⟨A, cap, hb, _⟩ := h
  have c0 : w.cell? ⟨g, 0, none⟩ = some (.slice A t.length cap) := cell_of_row _ _ 0 _ _ _ hb
  have c1 : w.cell? ⟨g, 1, none⟩ = some (.slice B l.length c) := cell_of_row _ _ 1 _ _ _ hb
  have hcl := byt_cap hv
  have hu : Byt w (.slice B (l.take (l.length - t.length)).length c) (l.take (l.length - t.length)) := byt_upto (hv.below hb0) _
  have hul : (l.take (l.length - t.length)).length = l.length - t.length := by rw [List.length_take]; omega
  obtain ⟨s, hs⟩ : ∃ s, l.take (l.length - t.length) = s := ⟨_, rfl⟩
  rw [hs] at hu hul ⊢
  rw [hul] at hu
  have hz : (l.length : Int) - (t.length : Int) = ((l.length - t.length : Nat) : Int) := by omega
  have hr1 := run_slice_to B l.length c (l.length - t.length) (by omega)
  have HS := hid (fun W (h : Byt W (.slice B (l.length - t.length) c) s) => sum_any s _ W h)
  have HU : Hid (Byt w.drew (.slice B (l.length - t.length) c) s) := hid hu
  obtain ⟨d, hd⟩ : ∃ d, l.length - t.length = d := ⟨_, rfl⟩
  rw [hd] at hz hr1 HS HU
  have hwd : IntKind.i64.wrap (d : Int) = (d : Int) := wrap64_nat (by have := byt_len hv; omega)
  clear hb hv hs hu hul hd hb0
  go_enter Try.func28, Try.ntmps28
  go_wp2_with fail
  go_still_tail 17, (by kernel_rfl)
  change wpList _ _ _ _ _ w.drew
  go_wp2_with (go_at_call 24; refine (HS.out _ HU.out).mono ?_; rintro e w2 ⟨rfl, hb2⟩; have HB2 := hid hb2; clear hb2)
  go_ret
  exact ⟨rfl, below_drew1 HB2.out⟩

theorem acc32_eq {x k m N : Nat} (hk : k < 4) (hm : m < 256 ^ k) (hx : x < 256) (hN : m + x * 256 ^ k = N) : bits .or .u32 (m : Int) ((x : Int) * 2 ^ (8 * k) % 4294967296) = (N : Int) := by
  have h1 := weigh_le (x := x) hm hx
  have h2 := pow_le4' hk
  have h3 := or_shift (x := x) hm
  rw [sh_eq]
  obtain ⟨P, hP⟩ : ∃ P, x * 256 ^ k = P := ⟨_, rfl⟩
  rw [hP] at h1 hN h3 ⊢
  have hw : (P : Int) % 4294967296 = (P : Int) := by omega
  rw [hw, u32_or_nat _ _ (by omega) (by omega), h3, hN]
set_option maxHeartbeats 2000000 in
set_option maxRecDepth 100000 in
theorem num_any (s : Sect) (w : World) (hs : s.length = 8) (h8 : B8 s) :
    Calls Try.prog 39 #[.agg (cSec s).toArray] w fun e w' => e = .returned (.int .u32 (num s : Nat)) ∧ Below w.heap.size w w' := by
  obtain ⟨w1, hw1⟩ : ∃ w1, w.alloc (.cells (cSec s).toArray 52) = w1 := ⟨_, rfl⟩
  have hbx : w1.heap[w.heap.size]? = some (.cells (cSec s).toArray 52 (0, 0)) := by rw [← hw1]; exact heap_alloc_new _ _
  have HC : Hid (∀ (k x : Nat), s[k]? = some x → w1.cell? ⟨w.heap.size, k, none⟩ = some (.int .u8 (x : Int))) := hid (fun k x h => by
    rw [cell_of_row _ _ _ _ _ _ hbx]
    simp [cSec, h, byteV])
  have HB : Hid (Below w.heap.size w w1) := by rw [← hw1]; exact hid (al1 _ _)
  have H8 := hid h8
  have HW1 := hid hw1
  clear hbx hw1
  go_enter Try.func39, Try.ntmps39
  go_wp2
  rw [HW1.out]
  go_loopw [3, 5] (fun v i wr => ∃ (k m : Nat), k ≤ 4 ∧ m < 4294967296 ∧ i = .int .i64 (k : Int) ∧ v = .int .u32 (m : Int) ∧ Hid (m = ge (s.take k)) ∧ w1 = wr) (fun _ i _ => 4 - (RowKit.intOf i).toNat)
  case atStart => exact ⟨0, 0, by omega, by omega, rfl, rfl, hid (by rw [List.take_zero]; rfl), rfl⟩
  case round =>
    clear HW1
    obtain ⟨k, m, hk, hm, rfl, rfl, HM, rfl⟩ := hrel
    by_cases hkn : k < 4
    · obtain ⟨x, hx⟩ : ∃ x, s[k]? = some x := ⟨s[k], List.getElem?_eq_getElem (by omega)⟩
      have hx8 := H8.out x (List.mem_of_getElem? hx)
      have hc := HC.out k x hx
      have hml : m < 256 ^ k := by
        have := ge_lt (b8_take H8.out k)
        rw [List.length_take, Nat.min_eq_left (by omega)] at this
        rw [HM.out]; exact this
      obtain ⟨N, hN⟩ : ∃ N, m + x * 256 ^ k = N := ⟨_, rfl⟩
      have hw := acc32_eq hkn hml hx8 hN
      have hNl : N < 4294967296 := by
        have h1 := weigh_le (x := x) hml hx8
        have h2 := pow_le4' (k := k) (by omega)
        omega
      have HNN : Hid (N = ge (s.take (k + 1))) := hid (by rw [ge_take hx, ← HM.out, hN])
      clear hx hml hN
      go_wp2
      go_roundw
      case rel => exact ⟨k + 1, N, by omega, hNl, by go_num, rfl, HNN, trivial⟩
      case measure => simp [RowKit.intOf]; omega
    · obtain rfl : k = 4 := by omega
      go_wp2
      go_ret
      exact ⟨ret_int (by rw [HM.out]; rfl), HB.out⟩
end Go.Proofs.Ytcmmkeadbedooaa
