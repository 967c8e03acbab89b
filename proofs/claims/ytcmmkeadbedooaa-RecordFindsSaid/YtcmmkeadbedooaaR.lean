/- The reference's put, get, Number. -/
import Derived.Test.YtcmmkeadbedooaaX
namespace Go.Proofs.Ytcmmkeadbedooaa
open Go.RowKit Go.Lib

set_option maxHeartbeats 2000000 in
set_option maxRecDepth 100000 in
theorem rput_any (x n base : Nat) (l : List Nat) (v : Value) (w : World) (ho : w.ownsRow base 5 1 v l.length (l.map byteV)) (hbs : base ≤ w.heap.size) (_hx : x < 9223372036854775808) (hn : n ≤ 4) (hl : l.length ≤ 1000000) :
    Calls Try.prog 30 #[v, .int .i64 (x : Int), .int .i64 (n : Int)] w fun e w' => ∃ A c, e = .returned (.slice A (l.length + n) c) ∧ w'.ownsRow base 5 1 (.slice A (l.length + n) c) (l.length + n) ((l ++ le n x).map byteV) ∧ Below base w w' := by
  obtain ⟨A, c, rfl⟩ := own_form ho
  obtain ⟨L, hL⟩ : ∃ L, l.length = L := ⟨_, rfl⟩
  have HO := hid ho
  have HLL := hid hL
  rw [hL] at HO hl ⊢
  clear ho hL
  go_enter Try.func30, Try.ntmps30
  go_wp2_with fail
  go_loopw [0, 7] (fun v i wr => ∃ (k : Nat) (A : Option Addr) (c : Nat), k ≤ n ∧ i = .int .i64 (k : Int) ∧ v = .slice A (L + k) c ∧ Hid (wr.ownsRow base 5 1 (.slice A (L + k) c) (L + k) ((l ++ (le n x).take k).map byteV)) ∧ Hid (Below base w wr)) (fun _ i _ => n - (RowKit.intOf i).toNat)
  case atStart => exact ⟨0, A, c, by omega, rfl, rfl, hid (by rw [List.take_zero, List.append_nil]; exact HO.out), hid (Below.refl _ _)⟩
  case round =>
    clear HO
    obtain ⟨k, A, c, hk, rfl, rfl, HO, HB⟩ := hrel
    by_cases hkn : k < n
    · obtain ⟨b, hbb⟩ : ∃ b, x / 256 ^ k % 256 = b := ⟨_, rfl⟩
      have hg := le_get n x k hkn
      rw [hbb] at hg
      have hb8 : b < 256 := by omega
      have HV : Hid ((x : Int) / 2 ^ (8 * k) % 256 = (b : Int)) := hid (by
        have e1 : ((2 : Int) ^ (8 * k)) = ((256 ^ k : Nat) : Int) := by rw [← pow256]; simp
        rw [e1, ← Int.natCast_ediv]
        omega)
      have HT := hid (take_succ' hg)
      have hz := HB.out.size
      have hBs : base ≤ wr.heap.size := by omega
      have hzl : base ≤ (wr.alloc (.cells #[.int .u8 ((x : Int) / 2 ^ (8 * k) % 256)] 5)).heap.size := by simp; omega
      clear hg hbb
      go_wp2_with (at_builtin; refine append_byt rfl (.tmp 13) (.tmp 19) rfl base (.slice A (L + k) c) (L + k) _ rfl (HO.out.alloc _) [b] _ rfl (byt_one_at wr b _ HV.out hb8) (nilOk_some _ _ _) (by simp; omega) hzl ?_; intro v3 w3 ho3 hg3; have HB3 := hid (below_own (HB.out.alloc hBs _) (HO.out.alloc _) hg3 hzl (Nat.le_refl _)); obtain ⟨a3, c3, rfl⟩ := own_form ho3; have HO3 := hid ho3; clear ho3 hg3)
      go_roundw
      case rel => exact ⟨k + 1, a3, c3, by omega, by go_num, rfl, hid (by rw [HT.out, ← List.append_assoc, List.map_append]; exact HO3.out), HB3⟩
      case measure => simp [RowKit.intOf]; omega
    · obtain rfl : k = n := by omega
      go_wp2
      go_ret
      have ho := HO.out
      rw [List.take_of_length_le (by rw [le_length]; exact Nat.le_refl _)] at ho
      exact ⟨A, c, rfl, ho, HB.out⟩

theorem ge_cons (b : Nat) (l : List Nat) : ge (b :: l) = b + 256 * ge l := by first | rfl | (rw [ge]; omega)
theorem pow7 {k : Nat} (h : k ≤ 7) : 256 ^ k ≤ 72057594037927936 := by
  have : 256 ^ k ≤ 256 ^ 7 := Nat.pow_le_pow_right (by omega) h
  simpa using this
set_option maxHeartbeats 2000000 in
set_option maxRecDepth 100000 in
theorem rget_any (l : List Nat) (v : Value) (w : World) (hv : Byt w v l) (hl : l.length ≤ 7) :
    Calls Try.prog 36 #[v] w fun e w' => e = .returned (.int .i64 (ge l : Nat)) ∧ w = w' := by
  obtain ⟨A, c, rfl⟩ := byt_form hv
  obtain ⟨L, hL⟩ : ∃ L, l.length = L := ⟨_, rfl⟩
  have HV := hid hv
  have H8 := hid hv.1
  have HLL := hid hL
  rw [hL] at HV hl ⊢
  clear hv hL
  go_enter Try.func36, Try.ntmps36
  go_wp2_with fail
  go_loopw [3, 4] (fun m i wr => ∃ (r mm : Nat) (z : Int), r ≤ L ∧ z = (r : Int) - 1 ∧ i = .int .i64 z ∧ m = .int .i64 (mm : Int) ∧ Hid (mm = ge (l.drop r)) ∧ w = wr) (fun _ i _ => (RowKit.intOf i + 1).toNat)
  case atStart => exact ⟨L, 0, _, Nat.le_refl _, rfl, rfl, rfl, hid (by rw [List.drop_of_length_le (by rw [HLL.out]; exact Nat.le_refl _)]; rfl), rfl⟩
  case round =>
    obtain ⟨r, mm, z, hr, hz, rfl, rfl, HM, rfl⟩ := hrel
    rcases r with _ | k
    · obtain rfl : z = -1 := by omega
      have d0 : decide ((0 : Int) ≤ -1) = false := by decide
      clear hz
      go_wp2
      go_ret
      exact ⟨ret_int (by rw [HM.out]; rfl), rfl⟩
    · obtain rfl : z = (k : Int) := by omega
      obtain ⟨x, hx⟩ : ∃ x, l[k]? = some x := ⟨l[k]'(by rw [HLL.out]; omega), List.getElem?_eq_getElem _⟩
      have hx8 := H8.out x (List.mem_of_getElem? hx)
      obtain ⟨b, off, rfl, _, hcell⟩ := byt_at HV.out (by rw [HLL.out]; omega)
      have hc := hcell k x hx
      have hdr : l.drop k = x :: l.drop (k + 1) := by
        obtain ⟨h1, h2⟩ := List.getElem?_eq_some_iff.1 hx
        rw [List.drop_eq_getElem_cons h1, h2]
      have hml : mm < 256 ^ (L - (k + 1)) := by
        have h := ge_lt (b8_drop H8.out (k + 1))
        rw [List.length_drop, HLL.out] at h
        rw [HM.out]; exact h
      have hp := pow7 (k := L - (k + 1)) (by omega)
      have hp6 : 256 ^ (L - (k + 1)) ≤ 281474976710656 := by
        have : 256 ^ (L - (k + 1)) ≤ 256 ^ 6 := Nat.pow_le_pow_right (by omega) (by omega)
        simpa using this
      obtain ⟨N, hN⟩ : ∃ N, x + 256 * mm = N := ⟨_, rfl⟩
      have HNN : Hid (N = ge (l.drop k)) := hid (by rw [hdr, ge_cons, ← HM.out, hN])
      have hw1 : IntKind.i64.wrap (256 * (mm : Int)) = 256 * (mm : Int) := by rw [IntKind.wrap_i64]; omega
      have hw2 : IntKind.i64.wrap (256 * (mm : Int) + (x : Int)) = (N : Int) := by rw [IntKind.wrap_i64]; omega
      have hw3 : IntKind.i64.wrap (x : Int) = (x : Int) := wrap64_nat (by omega)
      have hnn : 256 * (mm : Int) + (x : Int) = (N : Int) := by omega
      have hkL : (k : Int) < (L : Int) := by omega
      have hNl : N < 9223372036854775808 := by omega
      clear hx hcell hdr hml hN hp hp6 hz
      go_wp2_with fail
      go_roundw
      case rel => exact ⟨k, N, (k : Int) - 1, by omega, by omega, by go_num, (by first | rfl | go_num | simp [hnn]), HNN, trivial⟩
      case measure => simp [RowKit.intOf]

set_option maxHeartbeats 2000000 in
set_option maxRecDepth 100000 in
theorem rnum_any (s : Sect) (w : World) (hs : s.length = 8) (h8 : B8 s) :
    Calls Try.prog 35 #[.agg (cSec s).toArray] w fun e w' => e = .returned (.int .i64 (num s : Nat)) ∧ Below w.heap.size w w' := by
  obtain ⟨W, hW⟩ : ∃ W, w.alloc (.cells (cSec s).toArray 52) = W := ⟨_, rfl⟩
  have hbx : W.heap[w.heap.size]? = some (.cells (cSec s).toArray 52) := by rw [← hW]; exact heap_alloc_new _ _
  have hb : Below w.heap.size w W := by rw [← hW]; exact al1 _ _
  have htl : (s.take 4).length = 4 := by rw [List.length_take, hs]; rfl
  have hv : Byt W (.slice (some ⟨w.heap.size, 0, none⟩) 4 8) (s.take 4) := by
    refine ⟨b8_take h8 4, some ⟨w.heap.size, 0, none⟩, 8, by rw [htl], by rw [htl]; omega, by unfold maxLen; omega, w.heap.size, 0, fun _ => ⟨rfl, box_lt hbx⟩, fun i x hx => ?_⟩
    rw [cell_of_row _ _ _ _ _ _ hbx]
    rw [List.getElem?_take] at hx
    split at hx
    · simp [cSec, hx, byteV]
    · cases hx
  have HG := hid (rget_any (s.take 4) _ W hv (by rw [htl]; omega))
  have HB := hid hb
  have HW := hid hW
  clear hbx hb hW hv
  go_enter Try.func35, Try.ntmps35
  go_wp2_with fail
  rw [HW.out]
  refine HG.out.mono ?_
  rintro e w' ⟨rfl, rfl⟩
  go_wp2
  go_ret
  exact ⟨rfl, HB.out⟩
end Go.Proofs.Ytcmmkeadbedooaa
