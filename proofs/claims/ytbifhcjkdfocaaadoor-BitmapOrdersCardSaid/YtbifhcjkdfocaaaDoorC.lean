/- Bitmaps as lists of words: the model. -/
import Derived.Test.YtbifhcjkdfocaaaDoorB
namespace Go.Proofs.YtbifhcjkdfocaaaDoor
open Go.RowKit

def R64 (x : Int) : Prop := -9223372036854775808 ≤ x ∧ x ≤ 9223372036854775807
/-- The bit i of the words. -/
def bit (ws : List Nat) (i : Nat) : Bool := (ws.getD (i / 64) 0).testBit (i % 64)
def Wide (ws : List Nat) : Prop := ∀ x ∈ ws, x < 18446744073709551616
/-- A well-formed bitmap. -/
structure Good (s : Int) (ws : List Nat) : Prop where
  low : 0 ≤ s
  high : s ≤ 4096
  len : (ws.length : Int) = (s + 63) / 64
  clean : ∀ i : Nat, s ≤ i → bit ws i = false

theorem bit_out {ws : List Nat} {i : Nat} (h : 64 * ws.length ≤ i) : bit ws i = false := by
  unfold bit
  have : ws[i / 64]? = none := List.getElem?_eq_none (by omega)
  simp [List.getD, this]
theorem word_ext {x y : Nat} (hx : x < 18446744073709551616) (hy : y < 18446744073709551616) (h : ∀ j, j < 64 → x.testBit j = y.testBit j) : x = y := by
  apply Nat.eq_of_testBit_eq
  intro j
  by_cases hj : j < 64
  · exact h j hj
  · have e : (18446744073709551616 : Nat) = 2 ^ 64 := by decide
    have hp : 2 ^ 64 ≤ 2 ^ j := Nat.pow_le_pow_right (by decide) (by omega)
    rw [Nat.testBit_lt_two_pow (Nat.lt_of_lt_of_le (e ▸ hx) hp), Nat.testBit_lt_two_pow (Nat.lt_of_lt_of_le (e ▸ hy) hp)]
theorem words_ext {a b : List Nat} (hl : a.length = b.length) (ha : Wide a) (hb : Wide b) (h : ∀ i, i < 64 * a.length → bit a i = bit b i) : a = b := by
  apply List.ext_getElem hl
  intro k h1 h2
  refine word_ext (ha _ (List.getElem_mem h1)) (hb _ (List.getElem_mem h2)) fun j hj => ?_
  have := h (64 * k + j) (by omega)
  unfold bit at this
  have e1 : (64 * k + j) / 64 = k := by omega
  have e2 : (64 * k + j) % 64 = j := by omega
  rw [e1, e2] at this
  simpa [List.getD, List.getElem?_eq_getElem h1, List.getElem?_eq_getElem h2] using this
theorem good_ext {s : Int} {a b : List Nat} (ga : Good s a) (gb : Good s b) (ha : Wide a) (hb : Wide b) (h : ∀ i : Nat, (i : Int) < s → bit a i = bit b i) : a = b := by
  have hl : a.length = b.length := by have := ga.len; have := gb.len; omega
  refine words_ext hl ha hb fun i _ => ?_
  by_cases hi : (i : Int) < s
  · exact h i hi
  · rw [ga.clean i (by omega), gb.clean i (by omega)]

/-- The value v reads as the bitmap of the size s with the words ws. -/
def Bm (w : World) (v : Value) (s : Int) (ws : List Nat) : Prop :=
  R64 s ∧ Wide ws ∧ ∃ A cap, v = .agg #[.int .i64 s, .slice A ws.length cap] ∧ ws.length ≤ cap ∧ cap ≤ maxLen ∧
    ∃ b off, (0 < ws.length → A = some ⟨b, off, none⟩ ∧ b < w.heap.size) ∧ ∀ (i x : Nat), ws[i]? = some x → w.cell? ⟨b, off + i, none⟩ = some (.int .u64 x)
theorem Bm.below {w w' : World} {v : Value} {s : Int} {ws : List Nat} (h : Bm w v s ws) (hb : Below w.heap.size w w') : Bm w' v s ws := by
  obtain ⟨hs, hr, A, cap, hv, h1, h2, b, off, hA, hc⟩ := h
  refine ⟨hs, hr, A, cap, hv, h1, h2, b, off, fun h0 => ⟨(hA h0).1, Nat.lt_of_lt_of_le (hA h0).2 hb.size⟩, fun i x hi => ?_⟩
  have hlt : b < w.heap.size := (hA (Nat.lt_of_le_of_lt (Nat.zero_le _) (List.getElem?_eq_some_iff.1 hi).1)).2
  exact (hb.cell (p := ⟨b, _, none⟩) hlt).trans (hc i x hi)
theorem Bm.form {w : World} {v : Value} {s : Int} {ws : List Nat} (h : Bm w v s ws) : ∃ A cap, v = .agg #[.int .i64 s, .slice A ws.length cap] := by
  obtain ⟨_, _, A, cap, h, _⟩ := h
  exact ⟨A, cap, h⟩
theorem bm_nil (w : World) : Bm w (.agg #[.int .i64 0, .slice none 0 0]) 0 [] :=
  ⟨⟨by omega, by omega⟩, (fun x h => by cases h), none, 0, rfl, Nat.le_refl _, by unfold maxLen; omega, 0, 0, fun h => absurd h (by simp), fun i x h => by simp at h⟩

open Classical in
/-- The error of a bitmap. -/
noncomputable def chk (s : Int) (ws : List Nat) : Int := if Good s ws then 0 else 3
theorem chk_good {s : Int} {ws : List Nat} (h : Good s ws) : chk s ws = 0 := by unfold chk; rw [if_pos h]
theorem chk_bad {s : Int} {ws : List Nat} (h : ¬ Good s ws) : chk s ws = 3 := by unfold chk; rw [if_neg h]
theorem chk_cases (s : Int) (ws : List Nat) : chk s ws = 0 ∨ chk s ws = 3 := by
  by_cases h : Good s ws
  · exact .inl (chk_good h)
  · exact .inr (chk_bad h)
theorem chk_zero {s : Int} {ws : List Nat} (h : chk s ws = 0) : Good s ws := Classical.byContradiction fun hn => by rw [chk_bad hn] at h; omega

theorem box_cell {W w1 : World} {t : TypeId} {cs : Array Value} (hb : Below (W.alloc (.cells cs t)).heap.size (W.alloc (.cells cs t)) w1) (i : Nat) : w1.cell? ⟨W.heap.size, i, none⟩ = cs[i]? := by
  rw [hb.cell (p := ⟨W.heap.size, i, none⟩) (by simp)]
  exact cell_of_row _ _ _ cs t (0, 0) (heap_alloc_new W _)
theorem below_more {B : Nat} {W w1 : World} {o : Obj} (hb : Below (W.alloc o).heap.size (W.alloc o) w1) (h : B ≤ W.heap.size) : Below B W w1 :=
  (((Below.refl B W).alloc h o).trans (hb.mono (by simp; omega)))
theorem below_both {w w1 w2 : World} (h : Below w.heap.size w w1) (k : Below w1.heap.size w1 w2) : Below w.heap.size w w2 := h.trans (k.mono h.size)
theorem ret_int {a b : Int} (h : a = b) : Ending.returned (.int .i64 a) = .returned (.int .i64 b) := by rw [h]
theorem ret_bool {a b : Bool} (h : a = b) : Ending.returned (.bool a) = .returned (.bool b) := by rw [h]

theorem testBit_shr (x k : Nat) : (x / 2 ^ k % 2 = 1) ↔ x.testBit k = true := by
  rw [Nat.testBit_eq_decide_div_mod_eq]
  simp
/-- A word without bits from k on. -/
theorem shr_zero {x k : Nat} (hx : x < 18446744073709551616) : x / 2 ^ k = 0 ↔ ∀ j, k ≤ j → j < 64 → x.testBit j = false := by
  constructor
  · intro h j hj _
    have : x < 2 ^ k := by
      rcases Nat.lt_or_ge x (2 ^ k) with h1 | h1
      · exact h1
      · have := Nat.div_pos h1 (Nat.two_pow_pos k); omega
    exact Nat.testBit_lt_two_pow (Nat.lt_of_lt_of_le this (Nat.pow_le_pow_right (by decide) hj))
  · intro h
    apply Nat.div_eq_of_lt
    apply Nat.lt_pow_two_of_testBit
    intro j hj
    by_cases h64 : j < 64
    · exact h j hj h64
    · exact Nat.testBit_lt_two_pow (Nat.lt_of_lt_of_le hx (Nat.le_trans (by decide : 18446744073709551616 ≤ 2 ^ 64) (Nat.pow_le_pow_right (by decide) (by omega))))
end Go.Proofs.YtbifhcjkdfocaaaDoor
