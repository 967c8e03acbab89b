/- The elements of one word: the least bit, and what is left without it. -/
import Derived.Test.YtbifhcjkdfocaaaDoorI
import Derived.Test.YtbifhcjkdfocaaaDoorS
namespace Go.Proofs.YtbifhcjkdfocaaaDoor
open Go.RowKit

theorem low_bit {x : Nat} (h0 : x ≠ 0) (hx : x < 18446744073709551616) : Lib.ctz 64 x < 64 ∧ x.testBit (Lib.ctz 64 x) = true ∧ (∀ j, j < Lib.ctz 64 x → x.testBit j = false) ∧ (∀ j, (x &&& (x - 1)).testBit j = (x.testBit j && decide (j ≠ Lib.ctz 64 x))) := by
  obtain ⟨m, hm, hk⟩ := Lib.ctzFrom_spec 64 x (by omega) hx
  have e : Lib.ctz 64 x = Lib.ctzFrom 64 x := by simp [Lib.ctz, h0]
  rw [e]
  obtain ⟨k, hkk⟩ : ∃ k, Lib.ctzFrom 64 x = k := ⟨_, rfl⟩
  rw [hkk] at hm hk ⊢
  have hp := Nat.two_pow_pos k
  have h1 : ∀ j, x.testBit j = (decide (k ≤ j) && (2 * m + 1).testBit (j - k)) := fun j => by rw [hm, Nat.testBit_two_pow_mul]
  have hx1 : x - 1 = 2 ^ k * (2 * m) + (2 ^ k - 1) := by
    rw [hm, Nat.mul_add, Nat.mul_one]
    omega
  have h2 : ∀ j, (x - 1).testBit j = if j < k then (2 ^ k - 1).testBit j else (2 * m).testBit (j - k) := fun j => by
    rw [hx1, Nat.testBit_two_pow_mul_add _ (by omega)]
  refine ⟨hk, ?_, ?_, ?_⟩
  · rw [h1]; simp
  · intro j hj
    rw [h1, decide_eq_false (by omega), Bool.false_and]
  · intro j
    rw [Nat.testBit_and, h2, h1]
    by_cases hj : j < k
    · rw [decide_eq_false (by omega)]; simp
    · rw [if_neg hj, decide_eq_true (by omega), Bool.true_and]
      by_cases hjk : j = k
      · subst hjk
        simp
      · rw [decide_eq_true hjk, Bool.and_true]
        obtain ⟨d, hd⟩ : ∃ d, j - k = d + 1 := ⟨j - k - 1, by omega⟩
        rw [hd, Nat.testBit_succ, Nat.testBit_succ]
        have a1 : (2 * m + 1) / 2 = m := by omega
        have a2 : 2 * m / 2 = m := by omega
        rw [a1, a2, Bool.and_self]
theorem less_bit {x : Nat} (h0 : x ≠ 0) : x &&& (x - 1) < x := Nat.lt_of_le_of_lt Nat.and_le_right (by omega)

/-- The elements of the word i, as the word x says them. -/
def wordL (i x : Nat) : List Nat := elsL (fun j => x.testBit (j % 64)) (64 * i) 64
theorem wordL_zero (i : Nat) : wordL i 0 = [] := elsL_none (fun j _ _ => by simp)
theorem wordL_next {i x : Nat} (h0 : x ≠ 0) (hx : x < 18446744073709551616) : wordL i x = (64 * i + Lib.ctz 64 x) :: wordL i (x &&& (x - 1)) := by
  obtain ⟨h1, h2, h3, h4⟩ := low_bit h0 hx
  obtain ⟨k, hk⟩ : ∃ k, Lib.ctz 64 x = k := ⟨_, rfl⟩
  rw [hk] at h1 h2 h3 h4 ⊢
  have e : ∀ j, 64 * i ≤ j → j < 64 * i + 64 → j % 64 = j - 64 * i := fun j a b => by omega
  unfold wordL
  rw [elsL_first (k := 64 * i + k) (by omega) (by omega) (fun j a b => by rw [e j a (by omega)]; exact h3 _ (by omega)) (by rw [e _ (by omega) (by omega), Nat.add_sub_cancel_left]; exact h2)]
  congr 1
  have hs : (k + 1) + (63 - k) = 64 := by omega
  have h := elsL_add (fun j => (x &&& (x - 1)).testBit (j % 64)) (64 * i) (k + 1) (63 - k)
  rw [hs] at h
  rw [h, elsL_none (n := k + 1) (fun j a b => by
    rw [h4, e j a (by omega)]
    by_cases hj : j - 64 * i = k
    · simp [hj]
    · rw [h3 _ (by omega), Bool.false_and]), List.nil_append]
  have e1 : 64 * i + k + 1 = 64 * i + (k + 1) := by omega
  have e2 : 64 * i + 64 - (64 * i + k) - 1 = 63 - k := by omega
  rw [e1, e2]
  refine elsL_congr fun j a b => ?_
  rw [h4, e j (by omega) (by omega), decide_eq_true (by omega), Bool.and_true]

/-- What is left of the set from the word i on. -/
def rem (ws : List Nat) (q i : Nat) : List Nat := elsL (bit ws) (max q (64 * i)) (64 * ws.length - max q (64 * i))
theorem rem_start (ws : List Nat) (q : Nat) : rem ws q (q / 64) = elsL (bit ws) q (64 * ws.length - q) := by
  unfold rem
  have : max q (64 * (q / 64)) = q := by omega
  rw [this]
theorem rem_end {ws : List Nat} {q i : Nat} (h : ws.length ≤ i) : rem ws q i = [] := by
  unfold rem
  have : 64 * ws.length - max q (64 * i) = 0 := by omega
  rw [this]; rfl
theorem rem_word {ws : List Nat} {q i x y : Nat} (hi : q / 64 ≤ i) (hx : ws[i]? = some x) (hy : ∀ j, j < 64 → y.testBit j = (x.testBit j && decide (q ≤ 64 * i + j))) : rem ws q i = wordL i y ++ rem ws q (i + 1) := by
  have hlt := (List.getElem?_eq_some_iff.1 hx).1
  have hb : ∀ j, 64 * i ≤ j → j < 64 * i + 64 → bit ws j = x.testBit (j % 64) := fun j a b => by
    unfold bit
    have : j / 64 = i := by omega
    rw [this]
    simp [List.getD, hx]
  obtain ⟨a, ha⟩ : ∃ a, max q (64 * i) = a := ⟨_, rfl⟩
  have ha1 : 64 * i ≤ a := by omega
  have ha2 : a ≤ 64 * i + 63 := by omega
  have ha3 : max q (64 * (i + 1)) = 64 * i + 64 := by omega
  unfold rem wordL
  rw [ha, ha3]
  have e1 : 64 * ws.length - a = (64 * i + 64 - a) + (64 * ws.length - (64 * i + 64)) := by omega
  have e2 : (64 : Nat) = (a - 64 * i) + (64 * i + 64 - a) := by omega
  have e3 : a + (64 * i + 64 - a) = 64 * i + 64 := by omega
  have e4 : 64 * i + (a - 64 * i) = a := by omega
  have hw : elsL (fun j => y.testBit (j % 64)) (64 * i) 64 = elsL (bit ws) a (64 * i + 64 - a) := by
    have h := elsL_add (fun j => y.testBit (j % 64)) (64 * i) (a - 64 * i) (64 * i + 64 - a)
    rw [← e2, e4] at h
    rw [h, elsL_none (fun j b c => by
      rw [hy _ (by omega)]
      have : decide (q ≤ 64 * i + j % 64) = false := by simp; omega
      rw [this, Bool.and_false]), List.nil_append]
    refine elsL_congr fun j b c => ?_
    rw [hb j (by omega) (by omega), hy _ (by omega)]
    have : decide (q ≤ 64 * i + j % 64) = true := by simp; omega
    rw [this, Bool.and_true]
  rw [e1, elsL_add, e3, hw]
theorem mask_bits {x m : Nat} (j : Nat) : (x / 2 ^ m * 2 ^ m).testBit j = (x.testBit j && decide (m ≤ j)) := by
  rw [Nat.mul_comm, Nat.testBit_two_pow_mul]
  by_cases h : m ≤ j
  · rw [decide_eq_true h, Bool.true_and, Bool.and_true, Nat.testBit_div_two_pow]
    congr 1
    omega
  · rw [decide_eq_false h, Bool.false_and, Bool.and_false]
noncomputable def elems (s : Int) (ws : List Nat) (q : Nat) : List Nat := if chk s ws = 0 then elsL (bit ws) q (64 * ws.length - q) else []

/-- The library's table lies in its variable. -/
def Tab (w : World) : Prop := TabAt 0 Lib.deBruijn64tab w ∧ 0 < w.heap.size
theorem Tab.below {w w' : World} (h : Tab w) (hb : Below w.heap.size w w') : Tab w' := ⟨fun j hj => (hb.cell (p := ⟨0, j, none⟩) h.2).trans (h.1 j hj), Nat.lt_of_lt_of_le h.2 hb.size⟩
theorem Tab.of_block {w w' : World} (h : Tab w) (hb : w'.heap[0]? = w.heap[0]?) (hs : 0 < w'.heap.size) : Tab w' := ⟨fun j hj => (World.cell?_of_block (a := ⟨0, j, none⟩) hb).trans (h.1 j hj), hs⟩
theorem tz_any (x : Nat) (w : World) (hx : x < 18446744073709551616) (hT : Tab w) : Calls Tryd.prog 54 #[.int .u64 x] w fun e w' => e = .returned (.int .i64 (Lib.ctz 64 x)) ∧ w' = w :=
  Any7.bits_TrailingZeros64 Tryd.tz x hx w (fun _ => hT.1)
end Go.Proofs.YtbifhcjkdfocaaaDoor
