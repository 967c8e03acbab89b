/- Slices of bytes; the reference's Update, Sum and Combine. -/
import Derived.Test.YtgkcdmbhniipdaaC
import Derived.Outline
namespace Go.Proofs.Ytgkcdmbhniipdaa
open Go.RowKit Go.Lib

/-- The slice value v reads as the bytes l. -/
def Byt (w : World) (v : Value) (l : List Nat) : Prop :=
  B8 l ∧ ∃ A cap, v = .slice A l.length cap ∧ l.length ≤ cap ∧ cap ≤ maxLen ∧ ∃ b off, (0 < l.length → A = some ⟨b, off, none⟩ ∧ b < w.heap.size) ∧ ∀ (i x : Nat), l[i]? = some x → w.cell? ⟨b, off + i, none⟩ = some (.int .u8 (x : Int))
theorem byt_nil (w : World) : Byt w (.slice none 0 0) [] := ⟨(fun x h => by cases h), none, 0, rfl, Nat.le_refl _, by unfold maxLen; omega, 0, 0, fun h => absurd h (by simp), fun i x h => by simp at h⟩
theorem Byt.below {w w' : World} {v : Value} {l : List Nat} (h : Byt w v l) (hb : Below w.heap.size w w') : Byt w' v l := by
  obtain ⟨h8, A, cap, e, h1, h2, b, off, hA, hc⟩ := h
  refine ⟨h8, A, cap, e, h1, h2, b, off, fun h => ⟨(hA h).1, Nat.lt_of_lt_of_le (hA h).2 hb.size⟩, fun i x hx => ?_⟩
  have hl : 0 < l.length := by have := (List.getElem?_eq_some_iff.1 hx).1; omega
  exact (hb.cell (p := ⟨b, off + i, none⟩) (hA hl).2).trans (hc i x hx)
theorem crc_take {l : List Nat} {k x : Nat} (r : Nat) (h : l[k]? = some x) : crc r (l.take (k + 1)) = stepC (crc r (l.take k)) x := by
  obtain ⟨hk, rfl⟩ := List.getElem?_eq_some_iff.1 h
  rw [List.take_succ_eq_append_getElem hk, crc_snoc]

theorem not_u32 (s : Nat) (h : s < 4294967296) : bits .xor .u32 IntKind.u32.max (s : Int) = ((comp s : Nat) : Int) := by
  have e : IntKind.u32.max = ((4294967295 : Nat) : Int) := by decide
  rw [e, u32_xor_nat _ _ (by decide) h, Nat.xor_comm]
  rfl

set_option maxHeartbeats 2000000 in
theorem rupdate_any (s : Nat) (l : List Nat) (v : Value) (w : World) (hv : Byt w v l) (hs : s < 4294967296) :
    Calls Try.prog 16 #[.int .u32 (s : Int), v] w fun e w' => e = .returned (.int .u32 (upd s l : Nat)) ∧ w = w' := by
  obtain ⟨h8, A, cap, rfl, hcap, hcm, b, off, hA, hc⟩ := hv
  unfold maxLen at hcm
  have HC := hid hc
  have H8 := hid h8
  have hcs := not_u32 s hs
  have hcl := comp_lt hs
  clear hc h8
  go_enter Try.func16, Try.ntmps16
  go_wp2
  go_loop [5, 6] (fun r i => ∃ k y : Nat, k ≤ l.length ∧ i = .int .i64 (k : Int) ∧ r = .int .u32 (y : Int) ∧ Hid (y = crc (comp s) (l.take k))) (fun _ i => l.length - (intOf i).toNat)
  case atStart => exact ⟨0, comp s, by omega, rfl, rfl, hid rfl⟩
  case round =>
    obtain ⟨k, y, hk, rfl, rfl, HY⟩ := hrel
    have hyl : y < 4294967296 := by
      rw [HY.out]
      exact crc_lt hcl (fun x hx => H8.out x (List.mem_of_mem_take hx))
    clear hcs
    by_cases hlt : k < l.length
    · obtain ⟨hA1, hb⟩ := hA (by omega)
      subst hA1
      obtain ⟨x, hx⟩ : ∃ x, l[k]? = some x := ⟨l[k], List.getElem?_eq_getElem hlt⟩
      have hxl := H8.out x (List.mem_of_getElem? hx)
      have hcl := HC.out _ _ hx
      have HN := hid (crc_take (comp s) hx)
      clear hx
      go_wp2_with (go_at_call 27; refine (register_any y x _ hyl hxl).mono ?_; rintro e w' ⟨rfl, rfl⟩)
      go_round
      case rel => exact ⟨k + 1, stepC y x, by omega, by go_num, rfl, hid (by rw [HN.out, HY.out])⟩
      case measure => simp [intOf]; omega
    · obtain rfl : k = l.length := by omega
      have hn := not_u32 y hyl
      go_wp2
      go_ret
      exact ⟨ret_int (by rw [HY.out, List.take_of_length_le (Nat.le_refl _)]; rfl), rfl⟩

theorem rsum_any (l : List Nat) (v : Value) (w : World) (hv : Byt w v l) :
    Calls Try.prog 14 #[v] w fun e w' => e = .returned (.int .u32 (sum0 l : Nat)) ∧ w = w' := by
  have HU := hid (rupdate_any 0 l v w hv (by decide))
  obtain ⟨h8, A, cap, rfl, hcap, hcm, b, off, hA, hc⟩ := hv
  clear hc h8 hA
  go_enter Try.func14, Try.ntmps14
  go_wp2_with (go_at_call 16; refine HU.out.mono ?_; rintro e w' ⟨rfl, rfl⟩)
  go_ret
  exact ⟨rfl, rfl⟩

/-- What Combine answers. -/
def combS (a b : Nat) (n : Int) : Nat := if 0 ≤ n ∧ n ≤ 65536 then comb a b n.toNat else 0
theorem comb_lt {a b n : Nat} (ha : a < 4294967296) (hb : b < 4294967296) : comb a b n < 4294967296 :=
  Nat.xor_lt_two_pow (n := 32) (crc_lt ha (fun x hx => by rw [List.eq_of_mem_replicate hx]; decide)) hb
theorem crc_rep (r k : Nat) : crc r (List.replicate (k + 1) 0) = stepC (crc r (List.replicate k 0)) 0 := by rw [List.replicate_succ', crc_snoc]

set_option maxHeartbeats 2000000 in
theorem rcombine_any (a b : Nat) (n : Int) (w : World) (ha : a < 4294967296) (hb : b < 4294967296) (hn0 : -9223372036854775808 ≤ n) (hn1 : n ≤ 9223372036854775807) :
    Calls Try.prog 18 #[.int .u32 (a : Int), .int .u32 (b : Int), .int .i64 n] w fun e w' => e = .returned (.int .u32 (combS a b n : Nat)) ∧ w = w' := by
  by_cases h0 : n < 0
  · have HC : Hid (combS a b n = 0) := hid (by unfold combS; rw [if_neg (by omega)])
    go_enter Try.func18, Try.ntmps18
    go_wp2
    go_ret
    exact ⟨by rw [HC.out]; rfl, rfl⟩
  · by_cases h1 : n ≤ 65536
    · obtain ⟨m, rfl⟩ := Int.eq_ofNat_of_zero_le (show 0 ≤ n by omega)
      have HC : Hid (combS a b (m : Int) = crc a (List.replicate m 0) ^^^ b) := hid (by unfold combS; rw [if_pos (by omega)]; rfl)
      have hm : m ≤ 65536 := by omega
      clear h0 h1 hn0 hn1
      go_enter Try.func18, Try.ntmps18
      go_wp2
      go_loop [0, 7] (fun r i => ∃ k y : Nat, k ≤ m ∧ i = .int .i64 (k : Int) ∧ r = .int .u32 (y : Int) ∧ Hid (y = crc a (List.replicate k 0))) (fun _ i => m - (intOf i).toNat)
      case atStart => exact ⟨0, a, by omega, rfl, rfl, hid rfl⟩
      case round =>
        obtain ⟨k, y, hk, rfl, rfl, HY⟩ := hrel
        have hyl : y < 4294967296 := by
          rw [HY.out]
          exact crc_lt ha (fun x hx => by rw [List.eq_of_mem_replicate hx]; decide)
        by_cases hlt : k < m
        · go_wp2_with (go_at_call 27; refine (register_any y 0 _ hyl (by decide)).mono ?_; rintro e w' ⟨rfl, rfl⟩)
          go_round
          case rel => exact ⟨k + 1, stepC y 0, by omega, by go_num, rfl, hid (by rw [crc_rep, HY.out])⟩
          case measure => simp [intOf]; omega
        · obtain rfl : k = m := by omega
          have hx := u32_xor_nat y b hyl hb
          go_wp2
          go_ret
          exact ⟨ret_int (by rw [HC.out, HY.out]), rfl⟩
    · have HC : Hid (combS a b n = 0) := hid (by unfold combS; rw [if_neg (by omega)])
      go_enter Try.func18, Try.ntmps18
      go_wp2
      go_ret
      exact ⟨by rw [HC.out]; rfl, rfl⟩
end Go.Proofs.Ytgkcdmbhniipdaa
