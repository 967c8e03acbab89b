/- Superblock: the number of a sector, on both sides. -/
import Derived.Test.YtnocgfhcamnjdaaAa
namespace Go.Proofs.Ytnocgfhcamnjdaa
open Go.RowKit Go.Lib

/-- The number that the first four bytes are. -/
def num4 (s : Sect) : Nat := s.getD 0 0 + s.getD 1 0 * 256 + s.getD 2 0 * 65536 + s.getD 3 0 * 16777216
theorem bits_or32 (a b : Nat) (ha : a < 4294967296) (hb : b < 4294967296) : bits .or .u32 (a : Int) (b : Int) = ((a ||| b : Nat) : Int) := by
  have hx : a ||| b < 2 ^ 32 := Nat.or_lt_two_pow (by omega) (by omega)
  have h1 : (BitVec.ofInt 32 (a : Int)).toNat = a := by
    rw [BitVec.ofInt_natCast, BitVec.toNat_ofNat]; exact Nat.mod_eq_of_lt (by omega)
  have h2 : (BitVec.ofInt 32 (b : Int)).toNat = b := by
    rw [BitVec.ofInt_natCast, BitVec.toNat_ofNat]; exact Nat.mod_eq_of_lt (by omega)
  show IntKind.u32.wrap ((BitVec.ofInt 32 (a : Int) ||| BitVec.ofInt 32 (b : Int)).toNat : Int) = _
  rw [BitVec.toNat_or, h1, h2]
  have e : IntKind.u32.wrap ((a ||| b : Nat) : Int) = ((a ||| b : Nat) : Int) := by
    first
      | (rw [IntKind.wrap_u32]; omega)
      | (simp [IntKind.wrap, IntKind.bits]; omega)
  exact e
theorem or_at {a b m : Nat} (k : Nat) (hm : m = 2 ^ k) (h : a < m) (hb : b * m + a < 4294967296) : bits .or .u32 (a : Int) ((b : Int) * (m : Int)) = ((a + b * m : Nat) : Int) := by
  rw [show (b : Int) * (m : Int) = ((b * m : Nat) : Int) by simp, bits_or32 _ _ (by omega) (by omega), Nat.or_comm, hm, Nat.mul_comm b, ← Nat.two_pow_add_eq_or_of_lt (by omega), Nat.add_comm]
/-- The number of the first bytes. -/
def numK (s : Sect) : Nat → Nat
  | 0 => 0
  | k + 1 => numK s k + s.getD k 0 * 256 ^ k
theorem num4_K (s : Sect) : numK s 4 = num4 s := by simp [numK, num4]
theorem getD_lt {s : Sect} (h : B8 s) (k : Nat) : s.getD k 0 < 256 := by
  rw [List.getD_eq_getElem?_getD]
  rcases Nat.lt_or_ge k s.length with hi | hi
  · rw [List.getElem?_eq_getElem hi]; exact h _ (List.getElem_mem hi)
  · rw [List.getElem?_eq_none hi]; decide
set_option maxHeartbeats 2000000 in
set_option maxRecDepth 100000 in
theorem refGeneration_any (s0 s1 s2 s3 s4 s5 s6 s7 : Nat) (h8 : B8 [s0, s1, s2, s3, s4, s5, s6, s7]) (w : World) :
    Calls Try.prog 38 #[.agg #[.int .u8 (s0 : Int), .int .u8 (s1 : Int), .int .u8 (s2 : Int), .int .u8 (s3 : Int), .int .u8 (s4 : Int), .int .u8 (s5 : Int), .int .u8 (s6 : Int), .int .u8 (s7 : Int)]] w fun e w' => e = .returned (.int .u32 (num4 [s0, s1, s2, s3, s4, s5, s6, s7] : Int)) ∧ Below w.heap.size w w' := by
  have b0 : s0 < 256 := h8 s0 (by simp)
  have b1 : s1 < 256 := h8 s1 (by simp)
  have b2 : s2 < 256 := h8 s2 (by simp)
  have b3 : s3 < 256 := h8 s3 (by simp)
  have e1 : bits .or .u32 (s0 : Int) ((s1 : Int) * 256) = ((s0 + s1 * 256 : Nat) : Int) := or_at (m := 256) 8 rfl b0 (by omega)
  have e2 : bits .or .u32 ((s0 + s1 * 256 : Nat) : Int) ((s2 : Int) * 65536) = ((s0 + s1 * 256 + s2 * 65536 : Nat) : Int) := or_at (m := 65536) 16 rfl (by omega) (by omega)
  have e3 : bits .or .u32 ((s0 + s1 * 256 + s2 * 65536 : Nat) : Int) ((s3 : Int) * 16777216) = ((s0 + s1 * 256 + s2 * 65536 + s3 * 16777216 : Nat) : Int) := or_at (m := 16777216) 24 rfl (by omega) (by omega)
  have HE := hid (show bits .or .u32 (bits .or .u32 (bits .or .u32 (s0 : Int) ((s1 : Int) * 256)) ((s2 : Int) * 65536)) ((s3 : Int) * 16777216) = (num4 [s0, s1, s2, s3, s4, s5, s6, s7] : Int) from by rw [e1, e2, e3]; rfl)
  clear h8 e1 e2 e3
  go_enter Try.func38, Try.ntmps38
  go_wp2_with fail
  go_ret
  exact ⟨congrArg (fun z => Ending.returned (Value.int .u32 z)) HE.out, al1 _ _⟩
set_option maxHeartbeats 2000000 in
set_option maxRecDepth 100000 in
theorem number_any (s0 s1 s2 s3 s4 s5 s6 s7 : Nat) (h8 : B8 [s0, s1, s2, s3, s4, s5, s6, s7]) (w : World) :
    Calls Try.prog 46 #[.agg #[.int .u8 (s0 : Int), .int .u8 (s1 : Int), .int .u8 (s2 : Int), .int .u8 (s3 : Int), .int .u8 (s4 : Int), .int .u8 (s5 : Int), .int .u8 (s6 : Int), .int .u8 (s7 : Int)]] w fun e w' => e = .returned (.int .u32 (num4 [s0, s1, s2, s3, s4, s5, s6, s7] : Int)) ∧ Below w.heap.size w w' := by
  obtain ⟨g, hg⟩ : ∃ g, w.heap.size = g := ⟨_, rfl⟩
  obtain ⟨W1, hW1⟩ : ∃ X, w.alloc (.cells #[.int .u8 (s0 : Int), .int .u8 (s1 : Int), .int .u8 (s2 : Int), .int .u8 (s3 : Int), .int .u8 (s4 : Int), .int .u8 (s5 : Int), .int .u8 (s6 : Int), .int .u8 (s7 : Int)] 57) = X := ⟨_, rfl⟩
  have hb1 : Below w.heap.size w W1 := by rw [← hW1]; exact al1 _ _
  have hx1 : W1.heap[g]? = some (.cells #[.int .u8 (s0 : Int), .int .u8 (s1 : Int), .int .u8 (s2 : Int), .int .u8 (s3 : Int), .int .u8 (s4 : Int), .int .u8 (s5 : Int), .int .u8 (s6 : Int), .int .u8 (s7 : Int)] 57) := by rw [← hW1, ← hg]; exact heap_alloc_new _ _
  have HB1 := hid hb1
  have HX1 := hid hx1
  have HW1 := hid hW1
  have HG := hid hg
  have H8 := hid h8
  clear hb1 hx1 hW1 hg h8
  go_enter Try.func46, Try.ntmps46
  go_upto_region 3 with fail
  rw [HW1.out, HG.out]
  go_loopw [5, 3] (fun iv nv wr => ∃ k : Nat, k ≤ 4 ∧ iv = .int .i64 (k : Int) ∧ nv = .int .u32 (numK [s0, s1, s2, s3, s4, s5, s6, s7] k : Int) ∧ wr = W1) (fun iv _ _ => 4 - (Go.RowKit.intOf iv).toNat)
  case atStart => exact ⟨0, Nat.zero_le _, rfl, rfl, rfl⟩
  case round =>
    obtain ⟨k, hk, rfl, rfl, rfl⟩ := hrel
    by_cases hk4 : k < 4
    · have d0 : decide ((k : Int) < 4) = true := decide_eq_true (by omega)
      have b0 : s0 < 256 := H8.out s0 (by simp)
      have b1 : s1 < 256 := H8.out s1 (by simp)
      have b2 : s2 < 256 := H8.out s2 (by simp)
      have b3 : s3 < 256 := H8.out s3 (by simp)
      have c0 := cell_of_row _ _ 0 _ _ _ HX1.out
      have c1 := cell_of_row _ _ 1 _ _ _ HX1.out
      have c2 := cell_of_row _ _ 2 _ _ _ HX1.out
      have c3 := cell_of_row _ _ 3 _ _ _ HX1.out
      have f0 : numK [s0, s1, s2, s3, s4, s5, s6, s7] 0 = 0 := rfl
      have f1 : numK [s0, s1, s2, s3, s4, s5, s6, s7] 1 = s0 := by simp [numK]
      have f2 : numK [s0, s1, s2, s3, s4, s5, s6, s7] 2 = s0 + s1 * 256 := by simp [numK]
      have f3 : numK [s0, s1, s2, s3, s4, s5, s6, s7] 3 = s0 + s1 * 256 + s2 * 65536 := by simp [numK]
      have f4 : numK [s0, s1, s2, s3, s4, s5, s6, s7] 4 = s0 + s1 * 256 + s2 * 65536 + s3 * 16777216 := by simp [numK]
      have HF := hid (And.intro f1 (And.intro f2 (And.intro f3 f4)))
      obtain rfl | rfl | rfl | rfl : k = 0 ∨ k = 1 ∨ k = 2 ∨ k = 3 := by omega
      · have HE := hid (show bits .or .u32 0 (s0 : Int) = (s0 : Int) from by
          have h := bits_or32 0 s0 (by omega) (by omega)
          simpa using h)
        rw [f0]
        clear f0 f1 f2 f3 f4
        go_wp2_with fail
        go_roundw
        case rel => exact ⟨1, by omega, by go_num, by rw [HF.out.1]; exact congrArg (Value.int .u32) HE.out, trivial⟩
        case measure => simp [Go.RowKit.intOf]
      · have HE := hid (show bits .or .u32 (s0 : Int) ((s1 : Int) * 256) = ((s0 + s1 * 256 : Nat) : Int) from or_at (m := 256) 8 rfl b0 (by omega))
        rw [f1]
        clear f0 f1 f2 f3 f4
        go_wp2_with fail
        go_roundw
        case rel => exact ⟨2, by omega, by go_num, by rw [HF.out.2.1]; exact congrArg (Value.int .u32) HE.out, trivial⟩
        case measure => simp [Go.RowKit.intOf]
      · obtain ⟨z, hz⟩ : ∃ z, s0 + s1 * 256 = z := ⟨_, rfl⟩
        have HE := hid (show bits .or .u32 (z : Int) ((s2 : Int) * 65536) = ((z + s2 * 65536 : Nat) : Int) from or_at (m := 65536) 16 rfl (by omega) (by omega))
        rw [f2, hz]
        have HZ := hid hz
        clear f0 f1 f2 f3 f4 hz
        go_wp2_with fail
        go_roundw
        case rel => exact ⟨3, by omega, by go_num, by rw [HF.out.2.2.1, HZ.out]; exact congrArg (Value.int .u32) HE.out, trivial⟩
        case measure => simp [Go.RowKit.intOf]
      · obtain ⟨z, hz⟩ : ∃ z, s0 + s1 * 256 + s2 * 65536 = z := ⟨_, rfl⟩
        have HE := hid (show bits .or .u32 (z : Int) ((s3 : Int) * 16777216) = ((z + s3 * 16777216 : Nat) : Int) from or_at (m := 16777216) 24 rfl (by omega) (by omega))
        rw [f3, hz]
        have HZ := hid hz
        clear f0 f1 f2 f3 f4 hz
        go_wp2_with fail
        go_roundw
        case rel => exact ⟨4, by omega, by go_num, by rw [HF.out.2.2.2, HZ.out]; exact congrArg (Value.int .u32) HE.out, trivial⟩
        case measure => simp [Go.RowKit.intOf]
    · obtain rfl : k = 4 := by omega
      have d0 : decide ((4 : Int) < 4) = false := by decide
      have HN := hid (num4_K [s0, s1, s2, s3, s4, s5, s6, s7])
      go_wp2_with fail
      go_ret
      exact ⟨congrArg (fun z : Nat => Ending.returned (Value.int .u32 (z : Int))) HN.out, HB1.out⟩
end Go.Proofs.Ytnocgfhcamnjdaa
