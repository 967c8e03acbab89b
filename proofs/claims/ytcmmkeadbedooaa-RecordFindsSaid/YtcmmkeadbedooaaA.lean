/- CRC-32C as a function on numbers (carried over from checksum). -/
import Derived.Test.YtcmmkeadbedooaaRows
namespace Go.Proofs.Ytcmmkeadbedooaa
def poly : Nat := 0x82F63B78
/-- One shift of the register. -/
def sh1 (r : Nat) : Nat := if r % 2 = 1 then (r / 2) ^^^ poly else r / 2
def shn : Nat → Nat → Nat
  | 0, r => r
  | k + 1, r => shn k (sh1 r)
theorem shn_succ (k r : Nat) : shn (k + 1) r = sh1 (shn k r) := by
  induction k generalizing r with
  | zero => rfl
  | succ k ih => rw [shn, ih (sh1 r)]; rfl
/-- The register behind a byte. -/
def stepC (r b : Nat) : Nat := shn 8 (r ^^^ b)
def crc (r : Nat) (l : List Nat) : Nat := l.foldl stepC r
theorem crc_nil (r : Nat) : crc r [] = r := rfl
theorem crc_cons (r b : Nat) (l : List Nat) : crc r (b :: l) = crc (stepC r b) l := rfl
theorem crc_append (r : Nat) (l m : List Nat) : crc r (l ++ m) = crc (crc r l) m := by unfold crc; rw [List.foldl_append]
theorem crc_snoc (r b : Nat) (l : List Nat) : crc r (l ++ [b]) = stepC (crc r l) b := by rw [crc_append]; rfl
theorem sh1_bit (r j : Nat) : (sh1 r).testBit j = ((r.testBit (j + 1)) ^^ (r.testBit 0 && poly.testBit j)) := by
  unfold sh1
  rw [Nat.testBit_succ, Nat.testBit_zero]
  by_cases h : r % 2 = 1
  · rw [if_pos h, Nat.testBit_xor, decide_eq_true h, Bool.true_and]
  · rw [if_neg h, decide_eq_false h, Bool.false_and, Bool.xor_false]
theorem sh1_xor (a b : Nat) : sh1 (a ^^^ b) = sh1 a ^^^ sh1 b := by
  apply Nat.eq_of_testBit_eq
  intro j
  rw [Nat.testBit_xor, sh1_bit, sh1_bit, sh1_bit, Nat.testBit_xor, Nat.testBit_xor]
  cases a.testBit (j + 1) <;> cases b.testBit (j + 1) <;> cases a.testBit 0 <;> cases b.testBit 0 <;> cases poly.testBit j <;> rfl
theorem sh1_lt {r : Nat} (h : r < 4294967296) : sh1 r < 4294967296 := by
  unfold sh1
  split
  · exact Nat.xor_lt_two_pow (n := 32) (show r / 2 < 2 ^ 32 by omega) (by decide)
  · omega
theorem poly31 : poly.testBit 31 = true := by decide
/-- A result without the highest bit was just moved. -/
theorem sh1_low {r : Nat} (h : r < 4294967296) (hs : sh1 r < 2147483648) : r = 2 * sh1 r := by
  have h31 : (sh1 r).testBit 31 = false := Nat.testBit_lt_two_pow (show sh1 r < 2 ^ 31 from hs)
  have h32 : r.testBit 32 = false := Nat.testBit_lt_two_pow (show r < 2 ^ 32 from h)
  rw [sh1_bit, h32, poly31, Bool.and_true, Bool.false_xor, Nat.testBit_zero] at h31
  have hm : ¬ r % 2 = 1 := of_decide_eq_false h31
  unfold sh1
  rw [if_neg hm]
  omega
theorem shn_xor (k a b : Nat) : shn k (a ^^^ b) = shn k a ^^^ shn k b := by
  induction k generalizing a b with
  | zero => rfl
  | succ k ih => rw [shn, sh1_xor, ih]; rfl
theorem shn_lt {k r : Nat} (h : r < 4294967296) : shn k r < 4294967296 := by
  induction k generalizing r with
  | zero => exact h
  | succ k ih => exact ih (sh1_lt h)
theorem shn_low {k r : Nat} (hk : k ≤ 31) (h : r < 4294967296) (hs : shn k r < 2 ^ (32 - k)) : r = 2 ^ k * shn k r := by
  induction k with
  | zero => simp [shn]
  | succ k ih =>
    rw [shn_succ] at hs ⊢
    have hl := shn_lt (k := k) h
    have hp : 2 ^ (32 - (k + 1)) ≤ 2 ^ 31 := Nat.pow_le_pow_right (by decide) (by omega)
    have e := sh1_low hl (Nat.lt_of_lt_of_le hs hp)
    have hs2 : shn k r < 2 ^ (32 - k) := by
      have e2 : 32 - k = (32 - (k + 1)) + 1 := by omega
      rw [e2, Nat.pow_succ]
      omega
    have := ih (by omega) hs2
    rw [Nat.pow_succ, Nat.mul_assoc, ← e]
    exact this
theorem shn_zero (k : Nat) : shn k 0 = 0 := by
  induction k with
  | zero => rfl
  | succ k ih => exact ih
theorem shn_of_zero {k r : Nat} (hk : k ≤ 31) (h : r < 4294967296) (hs : shn k r = 0) : r = 0 := by
  have := shn_low hk h (by rw [hs]; exact Nat.two_pow_pos _)
  rw [hs] at this
  omega
theorem shn_high (k q : Nat) : shn k (2 ^ k * q) = q := by
  induction k with
  | zero => simp [shn]
  | succ k ih =>
    rw [shn]
    have : sh1 (2 ^ (k + 1) * q) = 2 ^ k * q := by
      unfold sh1
      have e : 2 ^ (k + 1) * q = 2 * (2 ^ k * q) := by rw [Nat.pow_succ, Nat.mul_comm (2 ^ k) 2, Nat.mul_assoc]
      rw [e, if_neg (by omega)]
      omega
    rw [this]
    exact ih
theorem low_xor_high (r k : Nat) : r = (r % 2 ^ k) ^^^ (2 ^ k * (r / 2 ^ k)) := by
  apply Nat.eq_of_testBit_eq
  intro j
  rw [Nat.testBit_xor, Nat.testBit_mod_two_pow, Nat.testBit_two_pow_mul, Nat.testBit_div_two_pow]
  by_cases h : j < k
  · rw [decide_eq_true h, decide_eq_false (by omega)]; simp
  · rw [decide_eq_false h, decide_eq_true (show k ≤ j by omega)]
    have : j - k + k = j := by omega
    simp [this]
theorem shn8 (r : Nat) : shn 8 r = shn 8 (r % 256) ^^^ (r / 256) := by
  conv => lhs; rw [low_xor_high r 8]
  rw [shn_xor, shn_high]
theorem step_table (r b : Nat) (hb : b < 256) : stepC r b = shn 8 ((r % 256) ^^^ b) ^^^ (r / 256) := by
  unfold stepC
  rw [shn8]
  have e1 : (r ^^^ b) % 256 = (r % 256) ^^^ b := by
    apply Nat.eq_of_testBit_eq
    intro j
    rw [show (256 : Nat) = 2 ^ 8 from rfl, Nat.testBit_mod_two_pow, Nat.testBit_xor, Nat.testBit_xor, Nat.testBit_mod_two_pow]
    by_cases h : j < 8
    · rw [decide_eq_true h]; simp
    · rw [decide_eq_false h]
      have : b.testBit j = false := Nat.testBit_lt_two_pow (Nat.lt_of_lt_of_le hb (Nat.le_trans (by decide : 256 ≤ 2 ^ 8) (Nat.pow_le_pow_right (by decide) (by omega))))
      simp [this]
  have e2 : (r ^^^ b) / 256 = r / 256 := by
    apply Nat.eq_of_testBit_eq
    intro j
    rw [show (256 : Nat) = 2 ^ 8 from rfl, Nat.testBit_div_two_pow, Nat.testBit_div_two_pow, Nat.testBit_xor]
    have : b.testBit (j + 8) = false := Nat.testBit_lt_two_pow (Nat.lt_of_lt_of_le hb (Nat.le_trans (by decide : 256 ≤ 2 ^ 8) (Nat.pow_le_pow_right (by decide) (by omega))))
    rw [this, Bool.xor_false]
  rw [e1, e2]
def B8 (l : List Nat) : Prop := ∀ b ∈ l, b < 256
theorem step_lt {r b : Nat} (hr : r < 4294967296) (hb : b < 256) : stepC r b < 4294967296 :=
  shn_lt (Nat.xor_lt_two_pow (n := 32) hr (show b < 2 ^ 32 by omega))
theorem crc_lt {l : List Nat} : ∀ {r : Nat}, r < 4294967296 → B8 l → crc r l < 4294967296 := by
  induction l with
  | nil => intro r h _; exact h
  | cons b l ih => intro r h hb; exact ih (step_lt h (hb b (List.mem_cons_self ..))) (fun x hx => hb x (List.mem_cons_of_mem _ hx))
theorem xor4 (a b c d : Nat) : (a ^^^ b) ^^^ (c ^^^ d) = (a ^^^ c) ^^^ (b ^^^ d) := by
  apply Nat.eq_of_testBit_eq
  intro j
  simp only [Nat.testBit_xor]
  cases a.testBit j <;> cases b.testBit j <;> cases c.testBit j <;> cases d.testBit j <;> rfl
theorem crc_xor {l : List Nat} : ∀ {m : List Nat} (a b : Nat), l.length = m.length → crc (a ^^^ b) (List.zipWith (fun x y => x ^^^ y) l m) = crc a l ^^^ crc b m := by
  induction l with
  | nil => intro m a b h; cases m with
    | nil => rfl
    | cons y m => simp at h
  | cons x l ih => intro m a b h; cases m with
    | nil => simp at h
    | cons y m =>
      rw [List.zipWith_cons_cons, crc_cons, crc_cons, crc_cons, ← ih _ _ (by simpa using h)]
      congr 1
      unfold stepC
      rw [xor4, shn_xor]
theorem crc_zeros (n : Nat) : crc 0 (List.replicate n 0) = 0 := by
  induction n with
  | zero => rfl
  | succ n ih => rw [List.replicate_succ, crc_cons]; unfold stepC; rw [Nat.xor_self, shn_zero]; exact ih
theorem crc_zeros_inj {n : Nat} : ∀ {r : Nat}, r < 4294967296 → crc r (List.replicate n 0) = 0 → r = 0 := by
  induction n with
  | zero => intro r _ h; exact h
  | succ n ih =>
    intro r hr h
    rw [List.replicate_succ, crc_cons] at h
    have := ih (step_lt hr (by decide)) h
    unfold stepC at this
    rw [Nat.xor_zero] at this
    exact shn_of_zero (by decide) hr this
/-- Four bytes that leave nothing in an empty register are zero. -/
theorem xor_low {r b : Nat} (hb : b < 256) {q : Nat} (h : r ^^^ b = 256 * q) : r = 256 * q + b := by
  have e : r = (r ^^^ b) ^^^ b := by rw [Nat.xor_assoc, Nat.xor_self, Nat.xor_zero]
  rw [h] at e
  rw [e]
  have := Nat.two_pow_add_eq_or_of_lt (i := 8) (b := b) (by omega) q
  rw [show (2 : Nat) ^ 8 = 256 from rfl] at this
  rw [this]
  apply Nat.eq_of_testBit_eq
  intro j
  rw [Nat.testBit_xor, Nat.testBit_or, show (256 : Nat) * q = 2 ^ 8 * q from rfl, Nat.testBit_two_pow_mul]
  by_cases hj : j < 8
  · rw [decide_eq_false (by omega)]; simp
  · have : b.testBit j = false := Nat.testBit_lt_two_pow (Nat.lt_of_lt_of_le hb (Nat.le_trans (by decide : 256 ≤ 2 ^ 8) (Nat.pow_le_pow_right (by decide) (by omega))))
    rw [this]; simp
theorem step_back {r b : Nat} (hr : r < 4294967296) (hb : b < 256) (hs : stepC r b < 16777216) : r = 256 * stepC r b + b := by
  have := shn_low (k := 8) (by decide) (Nat.xor_lt_two_pow (n := 32) hr (show b < 2 ^ 32 by omega)) (show shn 8 (r ^^^ b) < 2 ^ 24 from hs)
  exact xor_low hb this
theorem four_bytes {a b c d : Nat} (ha : a < 256) (hb : b < 256) (hc : c < 256) (hd : d < 256) (h : crc 0 [a, b, c, d] = 0) : a = 0 ∧ b = 0 ∧ c = 0 ∧ d = 0 := by
  rw [crc_cons, crc_cons, crc_cons, crc_cons, crc_nil] at h
  have l1 : stepC 0 a < 4294967296 := step_lt (by decide) ha
  have l2 : stepC (stepC 0 a) b < 4294967296 := step_lt l1 hb
  have l3 : stepC (stepC (stepC 0 a) b) c < 4294967296 := step_lt l2 hc
  have e4 := step_back l3 hd (by omega)
  have e3 := step_back l2 hc (by omega)
  have e2 := step_back l1 hb (by omega)
  have e1 := step_back (r := 0) (by decide) ha (by omega)
  omega
/-- The complement of a register. -/
def comp (r : Nat) : Nat := r ^^^ 4294967295
theorem comp_comp (r : Nat) : comp (comp r) = r := by unfold comp; rw [Nat.xor_assoc, Nat.xor_self, Nat.xor_zero]
theorem comp_lt {r : Nat} (h : r < 4294967296) : comp r < 4294967296 := Nat.xor_lt_two_pow (n := 32) h (by decide)
def upd (s : Nat) (l : List Nat) : Nat := comp (crc (comp s) l)
def sum0 (l : List Nat) : Nat := upd 0 l
/-- What two strings differ by. -/
def diffs (x y : List Nat) : List Nat := List.zipWith (fun a b => a ^^^ b) x y
theorem sum_differs {x y : List Nat} {i m a b c d : Nat} (hlen : x.length = y.length) (hd : diffs x y = List.replicate i 0 ++ ([a, b, c, d] ++ List.replicate m 0)) (ha : a < 256) (hb : b < 256) (hc : c < 256) (hd' : d < 256) (hne : ¬ (a = 0 ∧ b = 0 ∧ c = 0 ∧ d = 0)) : sum0 x ≠ sum0 y := by
  intro h
  have h1 := crc_xor (l := x) (m := y) (comp 0) (comp 0) hlen
  have e : crc (comp 0) x = crc (comp 0) y := by
    unfold sum0 upd at h
    have := congrArg comp h
    rw [comp_comp, comp_comp] at this
    exact this
  rw [e, Nat.xor_self, Nat.xor_self] at h1
  have hd2 : List.zipWith (fun x y => x ^^^ y) x y = List.replicate i 0 ++ ([a, b, c, d] ++ List.replicate m 0) := hd
  rw [hd2, crc_append, crc_zeros, crc_append] at h1
  have hB : B8 [a, b, c, d] := fun u hu => by
    simp only [List.mem_cons, List.not_mem_nil, or_false] at hu
    omega
  exact hne (four_bytes ha hb hc hd' (crc_zeros_inj (crc_lt (by decide) hB) h1))
end Go.Proofs.Ytcmmkeadbedooaa
