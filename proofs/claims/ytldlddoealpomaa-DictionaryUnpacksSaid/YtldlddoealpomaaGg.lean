/- bytesOf, packed. -/
import Derived.Test.YtldlddoealpomaaGf
namespace Go.Proofs.Ytldlddoealpomaa
open Go.RowKit Go.Lib
open Rl (Sect Sec Secs Sc sec_form sec_at list8 cSec byt_cells flat_len)

theorem make0 (W : World) (n : Nat) (hn : n ≤ 1000000) : (Instr.makeSlice 22 (.int .i64 0) (.int .i64 (n : Int))).run Try.prog W = .ok (.slice (some ⟨W.heap.size, 0, none⟩) 0 n) (W.alloc (.cells (madeCells #[.int .u8 0] n) 5)) := by
  obtain ⟨i0, hi, hz0, hz1, hz2⟩ := info_parts info5
  have h := run_make (P := Try.prog) W 22 5 i0 (.int .u8 0) Try.underlying22 hi hz0 .i64 .i64 0 n (by omega) (by omega) (by rw [hz2]; omega) (by omega)
  rw [hz1] at h
  simp only [Int.toNat_natCast, Nat.mul_one] at h
  exact h
theorem own_made0 (W : World) (n : Nat) (hn : n ≤ maxLen) : (W.alloc (.cells (madeCells #[.int .u8 0] n) 5)).ownsRow W.heap.size 5 1 (.slice (some ⟨W.heap.size, 0, none⟩) 0 n) 0 [] :=
  ⟨rfl, .inr ⟨_, n, _, rfl, Nat.le_refl _, heap_alloc_new _ _, Nat.zero_le _, hn, by rw [size_madeCells]; simp, rfl⟩⟩
set_option maxHeartbeats 4000000 in
set_option maxRecDepth 100000 in
theorem bytesOf_any (l : List Sect) (v : Value) (w : World) (hv : Sec w v l) (hl : l.length ≤ 100000) :
    Calls Try.prog 32 #[v] w (MadeO w l.flatten) := by
  obtain ⟨A, cap, rfl⟩ := sec_form hv
  have HV := hid hv
  obtain ⟨n, hn⟩ : ∃ n, l.length = n := ⟨_, rfl⟩
  have HN := hid hn
  rw [hn] at HV hl ⊢
  have hmul : IntKind.i64.wrap (8 * (n : Int)) = ((8 * n : Nat) : Int) := by rw [IntKind.wrap_i64]; omega
  have hmk : ∀ W : World, (Instr.makeSlice 22 (.int .i64 0) (.int .i64 (8 * (n : Int)))).run Try.prog W = .ok (.slice (some ⟨W.heap.size, 0, none⟩) 0 (8 * n)) (W.alloc (.cells (madeCells #[.int .u8 0] (8 * n)) 5)) := fun W => by
    have h := make0 W (8 * n) (by omega)
    rw [show ((8 * n : Nat) : Int) = 8 * (n : Int) by omega] at h
    exact h
  obtain ⟨W1, hW1⟩ : ∃ W, w.alloc (.cells (madeCells #[.int .u8 0] (8 * n)) 5) = W := ⟨_, rfl⟩
  have HO1 : Hid (W1.ownsRow w.heap.size 5 1 (.slice (some ⟨w.heap.size, 0, none⟩) 0 (8 * n)) 0 []) := hid (by rw [← hW1]; exact own_made0 w _ (by unfold maxLen; omega))
  have HB1 : Hid (Below w.heap.size w W1) := hid (by rw [← hW1]; exact al1 _ _)
  have HW1 := hid hW1
  clear hv hn hW1
  go_enter Try.func32, Try.ntmps32
  go_wp2_with fail
  rw [HW1.out]
  go_loopw [3, 12] (fun u j wr => ∃ k : Nat, k ≤ n ∧ j = .int .i64 (k : Int) ∧ Hid (wr.ownsRow w.heap.size 5 1 u (8 * k) ((l.take k).flatten.map byteV)) ∧ Hid (Below w.heap.size w wr)) (fun _ j _ => n - (Go.RowKit.intOf j).toNat)
  case atStart => exact ⟨0, Nat.zero_le _, rfl, HO1, HB1⟩
  case round =>
    clear HO1 HB1
    obtain ⟨k, hk, rfl, HO, HB⟩ := hrel
    obtain ⟨uA, uc, rfl⟩ := own_form HO.out
    by_cases hkn : k < n
    · have hne : l ≠ [] := fun e => by have := HN.out; rw [e] at this; simp at this; omega
      obtain ⟨b, off, cap', e, hcc, hcm, hbl, hsc⟩ := sec_at HV.out hne
      injection e with e1 e2 e3
      subst e1 e3
      obtain ⟨s, hs⟩ : ∃ s, l[k]? = some s := ⟨l[k]'(by rw [HN.out]; exact hkn), List.getElem?_eq_getElem _⟩
      have hso := HV.out.1 s (List.mem_of_getElem? hs)
      have s1 := (hsc k s hs).below hbl HB.out
      have HTK : Hid ((l.take (k + 1)).flatten = (l.take k).flatten ++ s) := hid (by
        obtain ⟨hlt, rfl⟩ := List.getElem?_eq_some_iff.1 hs
        rw [List.take_succ_eq_append_getElem hlt, List.flatten_append]
        simp)
      have hs8 := hso.1
      have HB8x := hid hso.2
      clear hsc hs e2 hne
      obtain ⟨x0, x1, x2, x3, x4, x5, x6, x7, rfl⟩ := list8 hso.1
      obtain ⟨p0, p1, p2, p3, p4, p5, p6, p7⟩ := s1.facts
      clear s1 hso
      have hkc : (k : Int) < (n : Int) := by omega
      have HD0 := hid (byt_cells HB8x.out hs8 (heap_alloc_new wr (.cells (cSec [x0, x1, x2, x3, x4, x5, x6, x7]).toArray 44)))
      obtain ⟨W7, hW7⟩ : ∃ W7, wr.alloc (.cells #[.int .u8 (x0 : Int), .int .u8 (x1 : Int), .int .u8 (x2 : Int), .int .u8 (x3 : Int), .int .u8 (x4 : Int), .int .u8 (x5 : Int), .int .u8 (x6 : Int), .int .u8 (x7 : Int)] 44) = W7 := ⟨_, rfl⟩
      have hW7' : wr.alloc (.cells (cSec [x0, x1, x2, x3, x4, x5, x6, x7]).toArray 44) = W7 := hW7
      rw [hW7'] at HD0
      have hb7 : Below wr.heap.size wr W7 := by rw [← hW7]; exact al1 _ _
      have HO7 := hid (own_keep HO.out (keep_below hb7))
      have HB7 := hid (HB.out.trans (hb7.mono HB.out.size))
      have hs7 := HB7.out.size
      have HW7 := hid hW7
      clear hW7 hW7' hb7 HO HB
      go_wp2_with (at_builtin; rw [HW7.out]; refine append_byt rfl (.tmp 16) (.tmp 17) rfl w.heap.size (.slice uA (8 * k) uc) (8 * k) _ rfl HO7.out [x0, x1, x2, x3, x4, x5, x6, x7] _ rfl HD0.out (nilOk_some _ _ _) (by simp; omega) hs7 ?_; intro v3 w3 ho3 hg3; have HB3 := hid (below_own HB7.out HO7.out hg3 hs7 (Nat.le_refl _)); have HO3 := hid ho3; clear ho3 hg3)
      go_roundw
      case rel => exact ⟨k + 1, by omega, by go_num, hid (by rw [HTK.out, List.map_append]; exact HO3.out), HB3⟩
      case measure => simp [Go.RowKit.intOf]; omega
    · obtain rfl : k = n := by omega
      go_wp2_with fail
      go_ret
      refine ⟨_, rfl, ?_, HB.out⟩
      have h := HO.out
      rw [List.take_of_length_le (by rw [HN.out]; omega)] at h
      have e : l.flatten.length = 8 * k := by rw [flat_len HV.out.1, HN.out]
      rw [e]; exact h
set_option maxHeartbeats 4000000 in
set_option maxRecDepth 100000 in
theorem packed_any (m : Nat) (l : List Nat) (v : Value) (w : World) (hv : Byt w v l) (hn : NilOk v) (hl : l.length ≤ 900000000000) :
    Calls Try.prog 33 #[.int .u8 (m : Int), v] w (MadeO w (m :: l)) := by
  obtain ⟨A, c, rfl⟩ := byt_form hv
  have HV := hid hv
  have HVN := hid hn
  have hal := al1 w (.cells #[.int .u8 (m : Int)] 5)
  have HA := hid hal
  have HVA := hid (hv.below hal)
  have HO : Hid ((w.alloc (.cells #[.int .u8 (m : Int)] 5)).ownsRow w.heap.size 5 1 (.slice (some ⟨w.heap.size, 0, none⟩) 1 1) 1 [.int .u8 (m : Int)]) := hid ⟨rfl, .inr ⟨_, 1, _, rfl, Nat.le_refl _, heap_alloc_new _ _, Nat.le_refl _, by unfold maxLen; omega, rfl, rfl⟩⟩
  obtain ⟨W1, hW1⟩ : ∃ W, w.alloc (.cells #[.int .u8 (m : Int)] 5) = W := ⟨_, rfl⟩
  rw [hW1] at HO HA HVA
  have HW1 := hid hW1
  have hs1 := HA.out.size
  clear hv hn hal hW1
  go_enter Try.func33, Try.ntmps33
  go_wp2_with (at_builtin; rw [HW1.out]; refine append_byt rfl (.tmp 6) (.tmp 7) rfl w.heap.size (.slice (some ⟨w.heap.size, 0, none⟩) 1 1) 1 _ rfl HO.out l _ rfl HVA.out HVN.out (by omega) hs1 ?_; intro v3 w3 ho3 hg3; have HB3 := hid (below_own HA.out HO.out hg3 hs1 (Nat.le_refl _)); have HO3 := hid ho3; clear ho3 hg3)
  go_ret
  refine ⟨_, rfl, ?_, HB3.out⟩
  have h := HO3.out
  rw [Nat.add_comm] at h
  exact h
end Go.Proofs.Ytldlddoealpomaa
