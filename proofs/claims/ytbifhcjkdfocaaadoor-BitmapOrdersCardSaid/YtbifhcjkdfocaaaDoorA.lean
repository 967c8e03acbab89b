/- Words of 64 bits: the count of the bits that are set, as the library counts them. -/
import Derived.Test.YtbifhcjkdfocaaaDoorRows
import Derived.WalkKit
import Derived.Laws.BitsAllLaws
import Derived.Laws.Shifts
namespace Go.Proofs.YtbifhcjkdfocaaaDoor

/-- How many of the lowest n bits of x are set. -/
def pop : Nat → Nat → Nat
  | 0, _ => 0
  | n + 1, x => x % 2 + pop n (x / 2)

theorem pop_le (n x : Nat) : pop n x ≤ n := by
  induction n generalizing x with
  | zero => exact Nat.le_refl 0
  | succ n ih => have := ih (x / 2); unfold pop; omega
theorem pop_add (n m x y : Nat) (hx : x < 2 ^ n) : pop (n + m) (x + 2 ^ n * y) = pop n x + pop m y := by
  induction n generalizing x with
  | zero =>
    have : x = 0 := by simp at hx; exact hx
    subst this
    simp [pop]
  | succ n ih =>
    have h1 : n + 1 + m = (n + m) + 1 := by omega
    have h2 : 2 ^ (n + 1) * y = 2 * (2 ^ n * y) := by rw [Nat.pow_succ, Nat.mul_comm (2 ^ n) 2, Nat.mul_assoc]
    rw [h1, h2]
    show (x + 2 * (2 ^ n * y)) % 2 + pop (n + m) ((x + 2 * (2 ^ n * y)) / 2) = (x % 2 + pop n (x / 2)) + pop m y
    have h3 : (x + 2 * (2 ^ n * y)) / 2 = x / 2 + 2 ^ n * y := by omega
    rw [h3, ih (x / 2) (by rw [Nat.pow_succ] at hx; omega)]
    omega

/-- A byte's share of the masked sums. -/
theorem and_split (a b c d : Nat) (ha : a < 256) (hb : b < 256) : (a + 256 * c) &&& (b + 256 * d) = (a &&& b) + 256 * (c &&& d) := by
  have e1 : ∀ u v : Nat, u + 256 * v = 2 ^ 8 * v + u := fun u v => by omega
  have hab : a &&& b < 2 ^ 8 := Nat.lt_of_le_of_lt Nat.and_le_left ha
  rw [e1 a c, e1 b d, e1 (a &&& b)]
  apply Nat.eq_of_testBit_eq
  intro i
  rw [Nat.testBit_and, Nat.testBit_two_pow_mul_add _ ha, Nat.testBit_two_pow_mul_add _ hb, Nat.testBit_two_pow_mul_add _ hab]
  by_cases h : i < 8
  · simp only [if_pos h, Nat.testBit_and]
  · simp only [if_neg h, Nat.testBit_and]

def cat : List Nat → Nat
  | [] => 0
  | b :: l => b + 256 * cat l
def rep (m : Nat) : Nat → Nat
  | 0 => 0
  | n + 1 => m + 256 * rep m n
theorem s1_byte : ∀ b : Fin 256, ∀ y : Fin 2, ((b.val / 2 + 128 * y.val) &&& 85) = ((b.val / 2) &&& 85) := by decide +kernel
theorem s2_byte : ∀ b : Fin 256, ∀ y : Fin 4, ((b.val / 4 + 64 * y.val) &&& 51) = ((b.val / 4) &&& 51) := by decide +kernel
def f1 (b : Nat) : Nat := (b / 2 &&& 85) + (b &&& 85)
def f2 (b : Nat) : Nat := (b / 4 &&& 51) + (b &&& 51)
def f3 (b : Nat) : Nat := (b / 16 + b) &&& 15
def allB (l : List Nat) : Prop := ∀ b ∈ l, b < 256
theorem s1_cat : ∀ (l : List Nat), allB l → (cat l / 2 &&& rep 85 l.length) + (cat l &&& rep 85 l.length) = cat (l.map f1)
  | [], _ => by simp [cat, rep]
  | b :: l, h => by
    have hb : b < 256 := h b (List.mem_cons_self ..)
    have ih := s1_cat l (fun x hx => h x (List.mem_cons_of_mem _ hx))
    have hq := Nat.mod_lt (cat l) (show 2 > 0 by decide)
    have e : (b + 256 * cat l) / 2 = (b / 2 + 128 * (cat l % 2)) + 256 * (cat l / 2) := by omega
    show ((b + 256 * cat l) / 2 &&& (85 + 256 * rep 85 l.length)) + ((b + 256 * cat l) &&& (85 + 256 * rep 85 l.length)) = f1 b + 256 * cat (l.map f1)
    rw [e, and_split _ _ _ _ (by omega) (by decide), and_split _ _ _ _ hb (by decide), ← ih]
    have := s1_byte ⟨b, hb⟩ ⟨cat l % 2, hq⟩
    simp only at this
    rw [this]
    unfold f1
    omega
theorem s2_cat : ∀ (l : List Nat), allB l → (cat l / 4 &&& rep 51 l.length) + (cat l &&& rep 51 l.length) = cat (l.map f2)
  | [], _ => by simp [cat, rep]
  | b :: l, h => by
    have hb : b < 256 := h b (List.mem_cons_self ..)
    have ih := s2_cat l (fun x hx => h x (List.mem_cons_of_mem _ hx))
    have hq := Nat.mod_lt (cat l) (show 4 > 0 by decide)
    have e : (b + 256 * cat l) / 4 = (b / 4 + 64 * (cat l % 4)) + 256 * (cat l / 4) := by omega
    show ((b + 256 * cat l) / 4 &&& (51 + 256 * rep 51 l.length)) + ((b + 256 * cat l) &&& (51 + 256 * rep 51 l.length)) = f2 b + 256 * cat (l.map f2)
    rw [e, and_split _ _ _ _ (by omega) (by decide), and_split _ _ _ _ hb (by decide), ← ih]
    have := s2_byte ⟨b, hb⟩ ⟨cat l % 4, hq⟩
    simp only at this
    rw [this]
    unfold f2
    omega
/-- Bytes whose halves are at most 4. -/
def allN (l : List Nat) : Prop := ∀ b ∈ l, b / 16 ≤ 4 ∧ b % 16 ≤ 4
theorem s3_byte : ∀ b : Fin 69, ∀ y : Fin 5, (b.val % 16 ≤ 4 → ((b.val / 16 + b.val + 16 * y.val) &&& 15) = f3 b.val) := by decide +kernel
theorem s3_cat : ∀ (l : List Nat), allN l → ((cat l / 16 + cat l) &&& rep 15 l.length) = cat (l.map f3)
  | [], _ => by simp [cat, rep]
  | b :: l, h => by
    obtain ⟨h1, h2⟩ := h b (List.mem_cons_self ..)
    have hl : allN l := fun x hx => h x (List.mem_cons_of_mem _ hx)
    have ih := s3_cat l hl
    have hm : cat l % 16 ≤ 4 := by
      cases l with
      | nil => simp [cat]
      | cons c r => have := (hl c (List.mem_cons_self ..)).2; show (c + 256 * cat r) % 16 ≤ 4; omega
    have e : (b + 256 * cat l) / 16 + (b + 256 * cat l) = (b / 16 + b + 16 * (cat l % 16)) + 256 * (cat l / 16 + cat l) := by omega
    show (((b + 256 * cat l) / 16 + (b + 256 * cat l)) &&& (15 + 256 * rep 15 l.length)) = f3 b + 256 * cat (l.map f3)
    rw [e, and_split _ _ _ _ (by omega) (by decide), ih]
    have := s3_byte ⟨b, by omega⟩ ⟨cat l % 16, by omega⟩ h2
    simp only at this
    rw [this]
theorem f_byte : ∀ b : Fin 256, f1 b.val < 256 ∧ f2 (f1 b.val) / 16 ≤ 4 ∧ f2 (f1 b.val) % 16 ≤ 4 ∧ f3 (f2 (f1 b.val)) = pop 8 b.val := by decide +kernel

def bytes8 (x : Nat) : List Nat := [x % 256, x / 256 % 256, x / 65536 % 256, x / 16777216 % 256, x / 4294967296 % 256, x / 1099511627776 % 256, x / 281474976710656 % 256, x / 72057594037927936 % 256]
theorem cat_bytes8 (x : Nat) (hx : x < 18446744073709551616) : cat (bytes8 x) = x := by
  simp only [bytes8, cat]
  omega
theorem bytes8_all (x : Nat) : allB (bytes8 x) := by
  intro b hb
  simp only [bytes8, List.mem_cons, List.not_mem_nil, or_false] at hb
  omega
theorem bytes8_pop (x : Nat) (hx : x < 18446744073709551616) : ((bytes8 x).map (pop 8)).sum = pop 64 x := by
  have h : ∀ (n : Nat) (l : List Nat), l.length = n → allB l → (l.map (pop 8)).sum = pop (8 * n) (cat l) := by
    intro n
    induction n with
    | zero =>
      intro l hl _
      have : l = [] := List.length_eq_zero_iff.1 hl
      subst this
      rfl
    | succ n ih =>
      intro l hl ha
      cases l with
      | nil => cases hl
      | cons b l =>
        have e : 8 * (n + 1) = 8 + 8 * n := by omega
        simp only [List.map_cons, List.sum_cons]
        rw [ih l (by simpa using hl) (fun x hx => ha x (List.mem_cons_of_mem _ hx)), e]
        exact (pop_add 8 (8 * n) b (cat l) (ha b (List.mem_cons_self ..))).symm
  have := h 8 (bytes8 x) rfl (bytes8_all x)
  rw [cat_bytes8 x hx] at this
  exact this

def swar1 (x : Nat) : Nat := (x / 2 &&& 6148914691236517205) + (x &&& 6148914691236517205)
def swar2 (x : Nat) : Nat := (x / 4 &&& 3689348814741910323) + (x &&& 3689348814741910323)
def swar3 (x : Nat) : Nat := (x / 16 + x) &&& 1085102592571150095
theorem rep85 : rep 85 8 = 6148914691236517205 := by decide +kernel
theorem rep51 : rep 51 8 = 3689348814741910323 := by decide +kernel
theorem rep15 : rep 15 8 = 1085102592571150095 := by decide +kernel
theorem swar_cat (x : Nat) (hx : x < 18446744073709551616) : swar3 (swar2 (swar1 x)) = cat ((bytes8 x).map (pop 8)) ∧ swar1 x < 18446744073709551616 ∧ swar2 (swar1 x) ≤ 4919131752989213764 := by
  have hb := bytes8_all x
  have l8 : (bytes8 x).length = 8 := rfl
  have e1 : swar1 x = cat ((bytes8 x).map f1) := by
    have := s1_cat (bytes8 x) hb
    rw [cat_bytes8 x hx, l8, rep85] at this
    exact this
  have hb1 : allB ((bytes8 x).map f1) := fun c hc => by
    obtain ⟨b, hbm, rfl⟩ := List.mem_map.1 hc
    exact (f_byte ⟨b, hb b hbm⟩).1
  have e2 : swar2 (swar1 x) = cat (((bytes8 x).map f1).map f2) := by
    have := s2_cat _ hb1
    rw [List.length_map, l8, rep51, ← e1] at this
    exact this
  have hb2 : allN (((bytes8 x).map f1).map f2) := fun c hc => by
    obtain ⟨d, hd, rfl⟩ := List.mem_map.1 hc
    obtain ⟨b, hbm, rfl⟩ := List.mem_map.1 hd
    exact ⟨(f_byte ⟨b, hb b hbm⟩).2.1, (f_byte ⟨b, hb b hbm⟩).2.2.1⟩
  have e3 : swar3 (swar2 (swar1 x)) = cat ((((bytes8 x).map f1).map f2).map f3) := by
    have := s3_cat _ hb2
    rw [List.length_map, List.length_map, l8, rep15, ← e2] at this
    exact this
  refine ⟨?_, ?_, ?_⟩
  · rw [e3, List.map_map, List.map_map]
    congr 1
    apply List.map_congr_left
    intro b hbm
    exact (f_byte ⟨b, hb b hbm⟩).2.2.2
  · rw [e1]
    have : ∀ (n : Nat) (l : List Nat), l.length = n → allB l → cat l < 256 ^ n := by
      intro n
      induction n with
      | zero => intro l hl _; have : l = [] := List.length_eq_zero_iff.1 hl; subst this; decide
      | succ n ih =>
        intro l hl ha
        cases l with
        | nil => cases hl
        | cons b l =>
          have h1 := ih l (by simpa using hl) (fun x hx => ha x (List.mem_cons_of_mem _ hx))
          have h2 := ha b (List.mem_cons_self ..)
          show b + 256 * cat l < 256 ^ (n + 1)
          rw [Nat.pow_succ]
          omega
    have := this 8 _ (by simp [bytes8]) hb1
    exact this
  · rw [e2]
    have h0 := fun b hbm => hb2 b hbm
    have : ∀ (n : Nat) (l : List Nat), l.length = n → allN l → cat l ≤ rep 68 n := by
      intro n
      induction n with
      | zero => intro l hl _; have : l = [] := List.length_eq_zero_iff.1 hl; subst this; decide
      | succ n ih =>
        intro l hl ha
        cases l with
        | nil => cases hl
        | cons b l =>
          have h1 := ih l (by simpa using hl) (fun x hx => ha x (List.mem_cons_of_mem _ hx))
          have h2 := ha b (List.mem_cons_self ..)
          show b + 256 * cat l ≤ 68 + 256 * rep 68 n
          omega
    have := this 8 _ (by simp [bytes8]) hb2
    have e : rep 68 8 ≤ 4919131752989213764 := by decide +kernel
    omega
theorem fold_sum (c0 c1 c2 c3 c4 c5 c6 c7 : Nat) (h0 : c0 ≤ 8) (h1 : c1 ≤ 8) (h2 : c2 ≤ 8) (h3 : c3 ≤ 8) (h4 : c4 ≤ 8) (h5 : c5 ≤ 8) (h6 : c6 ≤ 8) (h7 : c7 ≤ 8) (x y z : Nat)
    (hx : x = cat [c0, c1, c2, c3, c4, c5, c6, c7]) (hy : y = x + x / 256) (hz : z = y + y / 65536) : (z + z / 4294967296) % 128 = c0 + c1 + c2 + c3 + c4 + c5 + c6 + c7 ∧ x < 18446744073709551616 ∧ y < 18446744073709551616 ∧ z < 18446744073709551616 ∧ z + z / 4294967296 < 9223372036854775808 := by
  simp only [cat] at hx
  have e1 : y = (c0 + c1) + 256 * ((c1 + c2) + 256 * ((c2 + c3) + 256 * ((c3 + c4) + 256 * ((c4 + c5) + 256 * ((c5 + c6) + 256 * ((c6 + c7) + 256 * c7)))))) := by omega
  clear hy
  have e2 : z = (c0 + c1 + c2 + c3) + 256 * ((c1 + c2 + c3 + c4) + 256 * ((c2 + c3 + c4 + c5) + 256 * ((c3 + c4 + c5 + c6) + 256 * ((c4 + c5 + c6 + c7) + 256 * ((c5 + c6 + c7) + 256 * ((c6 + c7) + 256 * c7)))))) := by omega
  have hxl : x < 18446744073709551616 := by omega
  have hyl : y < 18446744073709551616 := by omega
  clear hz e1 hx
  have e3 : z / 4294967296 = (c4 + c5 + c6 + c7) + 256 * ((c5 + c6 + c7) + 256 * ((c6 + c7) + 256 * c7)) := by omega
  refine ⟨?_, hxl, hyl, by omega, by omega⟩
  rw [e3, e2]
  omega
end Go.Proofs.YtbifhcjkdfocaaaDoor
