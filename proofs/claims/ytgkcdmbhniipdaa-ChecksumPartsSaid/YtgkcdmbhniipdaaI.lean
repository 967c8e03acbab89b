/- Update, Sum, Combine, Digest; the reference's Digest. -/
import Derived.Test.YtgkcdmbhniipdaaH
namespace Go.Proofs.Ytgkcdmbhniipdaa
open Go.RowKit Go.Lib Go.Shelf

theorem byt_form {w : World} {v : Value} {l : List Nat} (h : Byt w v l) : ∃ A cap, v = .slice A l.length cap := by
  obtain ⟨_, A, cap, e, _⟩ := h
  exact ⟨A, cap, e⟩
theorem byt_len {w : World} {v : Value} {l : List Nat} (h : Byt w v l) : l.length ≤ 9223372036854775807 := by
  obtain ⟨_, A, cap, e, h1, h2, _⟩ := h
  unfold maxLen at h2
  omega
theorem enters34 : ∀ args w, (callFunc 34 args).run Try.prog w = .ok (.enter 34 args) w := enters_of Try.func34 (by kernel_rfl) rfl
theorem enters35 : ∀ args w, (callFunc 35 args).run Try.prog w = .ok (.enter 35 args) w := enters_of Try.func35 (by kernel_rfl) rfl
theorem al1 (w : World) (o : Obj) : Below w.heap.size w (w.alloc o) := (Below.refl _ w).alloc (Nat.le_refl _) _
theorem al_back {w W : World} {o : Obj} (h : Below (w.alloc o).heap.size (w.alloc o) W) : Below w.heap.size w W := (al1 w o).trans (h.mono (by simp))
theorem below_both {w w1 w2 : World} (h1 : Below w.heap.size w w1) (h2 : Below w1.heap.size w1 w2) : Below w.heap.size w w2 := h1.trans (h2.mono h1.size)
theorem values_at {w : World} {v : Value} {l : List Nat} (hv : Byt w v l) : Streams 2 34 #[.pointer (some ⟨w.heap.size, 0, none⟩)] w.heap.size l (w.alloc (.cells #[v] 22)) :=
  values_streams 2 w.heap.size l v w _ (by decide) hv (al1 _ _) (by simp) (Boxed.new w 22 v).cell

set_option maxHeartbeats 2000000 in
theorem update_any (s : Nat) (l : List Nat) (v : Value) (w : World) (hv : Byt w v l) (hs : s < 4294967296) :
    Calls Try.prog 15 #[.int .u32 (s : Int), v] w fun e w' => e = .returned (.int .u32 (upd s l : Nat)) ∧ Below w.heap.size w w' := by
  have HS := hid (values_at hv)
  have hcs := not_u32 s hs
  have hcl := comp_lt hs
  have hyl := crc_lt hcl hv.1
  have HU : Hid (upd s l = comp (crc (comp s) l)) := hid rfl
  obtain ⟨A, cap, rfl⟩ := byt_form hv
  obtain ⟨y, hy⟩ : ∃ y, crc (comp s) l = y := ⟨_, rfl⟩
  have HY := hid hy
  rw [hy] at hyl HU
  have hn := not_u32 y hyl
  clear hv hy
  go_enter Try.func15, Try.ntmps15
  go_wp2_with (go_at_call 26; refine (values_any _ _ _ _ _ rfl).mono ?_; rintro e w1 ⟨rfl, rfl⟩)
  refine (advance_any (comp s) 34 _ w.heap.size l _ hcl HS.out (by simp) enters34).mono ?_
  rintro e w2 ⟨rfl, hb⟩
  have HB := hid (al_back hb)
  clear hb
  rw [HY.out]
  clear hcs
  go_wp2
  go_ret
  exact ⟨by rw [HU.out]; rfl, HB.out⟩

theorem sum_any (l : List Nat) (v : Value) (w : World) (hv : Byt w v l) :
    Calls Try.prog 13 #[v] w fun e w' => e = .returned (.int .u32 (sum0 l : Nat)) ∧ Below w.heap.size w w' := by
  have HU := hid (update_any 0 l v w hv (by decide))
  obtain ⟨A, cap, rfl⟩ := byt_form hv
  clear hv
  go_enter Try.func13, Try.ntmps13
  go_wp2_with (go_at_call 15; refine HU.out.mono ?_; rintro e w' ⟨rfl, hb⟩)
  go_ret
  exact ⟨rfl, hb⟩

set_option maxHeartbeats 2000000 in
theorem combine_any (a b : Nat) (n : Int) (w : World) (ha : a < 4294967296) (hb : b < 4294967296) (hn0 : -9223372036854775808 ≤ n) (hn1 : n ≤ 9223372036854775807) :
    Calls Try.prog 17 #[.int .u32 (a : Int), .int .u32 (b : Int), .int .i64 n] w fun e w' => e = .returned (.int .u32 (combS a b n : Nat)) ∧ Below w.heap.size w w' := by
  by_cases h0 : n < 0
  · have HC : Hid (combS a b n = 0) := hid (by unfold combS; rw [if_neg (by omega)])
    go_enter Try.func17, Try.ntmps17
    go_wp2
    go_ret
    exact ⟨by rw [HC.out]; rfl, Below.refl _ _⟩
  · by_cases h1 : n ≤ 65536
    · obtain ⟨m, rfl⟩ := Int.eq_ofNat_of_zero_le (show 0 ≤ n by omega)
      obtain ⟨y, hy⟩ : ∃ y, crc a (List.replicate m 0) = y := ⟨_, rfl⟩
      have hyl : y < 4294967296 := by
        rw [← hy]
        exact crc_lt ha (fun x hx => by rw [List.eq_of_mem_replicate hx]; decide)
      have HC : Hid (combS a b (m : Int) = y ^^^ b) := hid (by unfold combS; rw [if_pos (by omega), ← hy]; rfl)
      have HY := hid hy
      have hm : m ≤ 65536 := by omega
      have hx := u32_xor_nat y b hyl hb
      have HS := hid (zeros_streams 2 w.heap.size m (w.alloc (.cells #[.int .i64 (m : Int)] 3)).heap.size (w.alloc (.cells #[.int .i64 (m : Int)] 3)) (by decide) hm (by simp) (Nat.le_refl _) (Boxed.new w 3 (.int .i64 (m : Int))).cell)
      clear h0 h1 hn0 hn1 hy
      go_enter Try.func17, Try.ntmps17
      go_wp2_with (go_at_call 28; refine (zeros_any _ _).mono ?_; rintro e w1 ⟨rfl, rfl⟩)
      refine (advance_any a 35 _ _ _ _ ha HS.out (Nat.le_refl _) enters35).mono ?_
      rintro e w2 ⟨rfl, hb⟩
      have HB := hid (al_back hb)
      clear hb
      rw [HY.out]
      go_wp2
      go_ret
      exact ⟨by rw [HC.out]; rfl, HB.out⟩
    · have HC : Hid (combS a b n = 0) := hid (by unfold combS; rw [if_neg (by omega)])
      go_enter Try.func17, Try.ntmps17
      go_wp2
      go_ret
      exact ⟨by rw [HC.out]; rfl, Below.refl _ _⟩

set_option maxHeartbeats 2000000 in
theorem digestB_any (l : List Nat) (v : Value) (w : World) (hv : Byt w v l) :
    Calls Try.prog 19 #[v] w fun e w' => e = .returned (.int .u64 (dig l : Nat)) ∧ Below w.heap.size w w' := by
  have HS := hid (values_at hv)
  obtain ⟨A, cap, rfl⟩ := byt_form hv
  clear hv
  go_enter Try.func19, Try.ntmps19
  go_wp2_with (go_at_call 26; refine (values_any _ _ _ _ _ rfl).mono ?_; rintro e w1 ⟨rfl, rfl⟩)
  refine (digest_any 34 _ w.heap.size l _ HS.out (by simp) enters34).mono ?_
  rintro e w2 ⟨rfl, hb⟩
  have HB := hid (al_back hb)
  clear hb
  go_wp2
  go_ret
  exact ⟨rfl, HB.out⟩

theorem dig_take {l : List Nat} {k x : Nat} (h0 : Nat) (h : l[k]? = some x) : dig0 h0 (l.take (k + 1)) = stepD (dig0 h0 (l.take k)) x := by
  obtain ⟨hk, rfl⟩ := List.getElem?_eq_some_iff.1 h
  rw [List.take_succ_eq_append_getElem hk, dig0_snoc]
theorem u64_eq {a b : Int} (h : a = b) : Value.int .u64 a = .int .u64 b := by rw [h]

set_option maxHeartbeats 2000000 in
theorem rdigest_any (l : List Nat) (v : Value) (w : World) (hv : Byt w v l) :
    Calls Try.prog 20 #[v] w fun e w' => e = .returned (.int .u64 (dig l : Nat)) ∧ w = w' := by
  obtain ⟨h8, A, cap, rfl, hcap, hcm, b, off, hA, hc⟩ := hv
  unfold maxLen at hcm
  have HC := hid hc
  have H8 := hid h8
  clear hc h8
  go_enter Try.func20, Try.ntmps20
  go_wp2
  obtain ⟨s0, hs0⟩ : ∃ s0 : Nat, 14695981039346656037 = s0 := ⟨_, rfl⟩
  have hsl : s0 < M64 := by rw [← hs0]; exact start_lt
  have hse : (14695981039346656037 : Int) = (s0 : Int) := by rw [← hs0]; rfl
  have HD : Hid (dig l = fin (dig0 s0 l)) := hid (by unfold dig; rw [hs0])
  rw [hse]
  clear hs0 hse
  go_loop [3, 4] (fun r i => ∃ k y : Nat, k ≤ l.length ∧ i = .int .i64 (k : Int) ∧ r = .int .u64 (y : Int) ∧ Hid (y = dig0 s0 (l.take k))) (fun _ i => l.length - (intOf i).toNat)
  case atStart => exact ⟨0, s0, by omega, rfl, rfl, hid (by rw [List.take_zero, dig0_nil])⟩
  case round =>
    obtain ⟨k, y, hk, rfl, rfl, HY⟩ := hrel
    have hyl : y < M64 := by rw [HY.out]; exact dig0_lt hsl
    by_cases hlt : k < l.length
    · obtain ⟨hA1, hb⟩ := hA (by omega)
      subst hA1
      obtain ⟨x, hx⟩ : ∃ x, l[k]? = some x := ⟨l[k], List.getElem?_eq_getElem hlt⟩
      have hxl := H8.out x (List.mem_of_getElem? hx)
      have hcl := HC.out _ _ hx
      have HN := hid (dig_take s0 hx)
      have hxo := u64_xor_nat y x hyl (by omega)
      have hsw := step_wrap y x
      clear hx
      go_wp2
      go_round
      case rel => exact ⟨k + 1, stepD y x, by omega, by go_num, by first | rfl | exact u64_eq hsw, hid (by rw [HN.out, HY.out])⟩
      case measure => simp [intOf]; omega
    · obtain rfl : k = l.length := by omega
      have hxo : bits .xor .u64 (y : Int) ((y : Int) / 4294967296) = ((fin y : Nat) : Int) := u64_xor_nat y (y / 4294967296) hyl (Nat.lt_of_le_of_lt (Nat.div_le_self _ _) hyl)
      go_wp2
      go_ret
      exact ⟨ret_int (by rw [HD.out, HY.out, List.take_of_length_le (Nat.le_refl _)]), rfl⟩
end Go.Proofs.Ytgkcdmbhniipdaa
