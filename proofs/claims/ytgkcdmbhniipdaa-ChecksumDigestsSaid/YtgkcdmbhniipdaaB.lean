/- The digest as a function on numbers: each step is one to one. -/
import Derived.Test.YtgkcdmbhniipdaaA
namespace Go.Proofs.Ytgkcdmbhniipdaa

theorem xor_inj {a b c : Nat} (h : a ^^^ c = b ^^^ c) : a = b := by
  have := congrArg (fun x => x ^^^ c) h
  simp only [Nat.xor_assoc, Nat.xor_self, Nat.xor_zero] at this
  exact this
theorem xor_inj' {a b c : Nat} (h : c ^^^ a = c ^^^ b) : a = b := by rw [Nat.xor_comm c, Nat.xor_comm c] at h; exact xor_inj h
theorem mul_back {p q M k z : Nat} (h : p * q = M * k + 1) (hz : z < M) : (z * p % M * q) % M = z := by
  rw [Nat.mod_mul_mod, Nat.mul_assoc, h, Nat.mul_add, Nat.mul_one, Nat.mul_left_comm, Nat.mul_add_mod, Nat.mod_eq_of_lt hz]
theorem mul_inj {p q M k x y : Nat} (h : p * q = M * k + 1) (hx : x < M) (hy : y < M) (e : x * p % M = y * p % M) : x = y := by
  rw [← mul_back h hx, e, mul_back h hy]
/-- The modulus and the prime, behind names. -/
def M64 : Nat := 18446744073709551616
def prime : Nat := 1099511628211
theorem M64_pow : M64 = 2 ^ 64 := by decide +kernel
theorem prime_inv : prime * 14886173955864302971 = M64 * 887285111055 + 1 := by decide +kernel
def stepD (h b : Nat) : Nat := ((h ^^^ b) * prime) % M64
def dig0 (h : Nat) (l : List Nat) : Nat := l.foldl stepD h
def fin (h : Nat) : Nat := h ^^^ (h / 4294967296)
def dig (l : List Nat) : Nat := fin (dig0 14695981039346656037 l)
theorem dig0_nil (h : Nat) : dig0 h [] = h := by unfold dig0; rw [List.foldl_nil]
theorem dig0_cons (h b : Nat) (l : List Nat) : dig0 h (b :: l) = dig0 (stepD h b) l := by unfold dig0; rw [List.foldl_cons]
theorem dig0_snoc (h b : Nat) (l : List Nat) : dig0 h (l ++ [b]) = stepD (dig0 h l) b := by unfold dig0; rw [List.foldl_append, List.foldl_cons, List.foldl_nil]
theorem dig0_append (h : Nat) (l m : List Nat) : dig0 h (l ++ m) = dig0 (dig0 h l) m := by unfold dig0; rw [List.foldl_append]
theorem M64_pos : 0 < M64 := by decide +kernel
theorem stepD_lt (h b : Nat) : stepD h b < M64 := by unfold stepD; exact Nat.mod_lt _ M64_pos
theorem dig0_lt {l : List Nat} : ∀ {h : Nat}, h < M64 → dig0 h l < M64 := by
  induction l with
  | nil => intro h hh; rw [dig0_nil]; exact hh
  | cons b l ih => intro h _; rw [dig0_cons]; exact ih (stepD_lt h b)
theorem start_lt : 14695981039346656037 < M64 := by decide +kernel
theorem byte_lt {b : Nat} (hb : b < 256) : b < 2 ^ 64 := Nat.lt_of_lt_of_le hb (by decide +kernel)
theorem xor_lt {h b : Nat} (hh : h < M64) (hb : b < 256) : h ^^^ b < M64 := by
  rw [M64_pow] at hh ⊢
  exact Nat.xor_lt_two_pow hh (byte_lt hb)
theorem stepD_inj {h k b : Nat} (hh : h < M64) (hk : k < M64) (hb : b < 256) (e : stepD h b = stepD k b) : h = k := by
  unfold stepD at e
  exact xor_inj (mul_inj prime_inv (xor_lt hh hb) (xor_lt hk hb) e)
theorem stepD_inj' {h b c : Nat} (hh : h < M64) (hb : b < 256) (hc : c < 256) (e : stepD h b = stepD h c) : b = c := by
  unfold stepD at e
  exact xor_inj' (mul_inj prime_inv (xor_lt hh hb) (xor_lt hh hc) e)
theorem dig0_inj {l : List Nat} : ∀ {h k : Nat}, h < M64 → k < M64 → B8 l → dig0 h l = dig0 k l → h = k := by
  induction l with
  | nil => intro h k _ _ _ e; rw [dig0_nil, dig0_nil] at e; exact e
  | cons b l ih =>
    intro h k hh hk hb e
    rw [dig0_cons, dig0_cons] at e
    exact stepD_inj hh hk (hb b (List.mem_cons_self ..)) (ih (stepD_lt h b) (stepD_lt k b) (fun x hx => hb x (List.mem_cons_of_mem _ hx)) e)
theorem high_bit {x j : Nat} (hx : x < M64) (hj : 64 ≤ j) : x.testBit j = false := by
  rw [M64_pow] at hx
  exact Nat.testBit_lt_two_pow (Nat.lt_of_lt_of_le hx (Nat.pow_le_pow_right (by decide) hj))
theorem fin_bit (x j : Nat) : (fin x).testBit j = (x.testBit j ^^ x.testBit (j + 32)) := by
  unfold fin
  rw [Nat.testBit_xor, show (4294967296 : Nat) = 2 ^ 32 from by decide +kernel, Nat.testBit_div_two_pow]
theorem fin_inj {h k : Nat} (hh : h < M64) (hk : k < M64) (e : fin h = fin k) : h = k := by
  have key : ∀ j, 32 ≤ j → h.testBit j = k.testBit j := by
    intro j hj
    have h1 : (fin h).testBit j = (fin k).testBit j := by rw [e]
    rw [fin_bit, fin_bit, high_bit (j := j + 32) hh (by omega), high_bit (j := j + 32) hk (by omega), Bool.xor_false, Bool.xor_false] at h1
    exact h1
  apply Nat.eq_of_testBit_eq
  intro j
  by_cases hj : 32 ≤ j
  · exact key j hj
  · have h1 : (fin h).testBit j = (fin k).testBit j := by rw [e]
    rw [fin_bit, fin_bit, key (j + 32) (by omega)] at h1
    revert h1
    cases h.testBit j <;> cases k.testBit j <;> cases k.testBit (j + 32) <;> decide
theorem fin_lt {h : Nat} (hh : h < M64) : fin h < M64 := by
  unfold fin
  rw [M64_pow] at hh ⊢
  exact Nat.xor_lt_two_pow hh (Nat.lt_of_le_of_lt (Nat.div_le_self _ _) hh)
theorem dig_lt (l : List Nat) : dig l < M64 := by unfold dig; exact fin_lt (dig0_lt start_lt)
theorem dig_differs {p q : List Nat} {b c : Nat} (hq : B8 q) (hb : b < 256) (hc : c < 256) (hne : b ≠ c) : dig (p ++ b :: q) ≠ dig (p ++ c :: q) := by
  intro e
  unfold dig at e
  have e1 := fin_inj (dig0_lt start_lt) (dig0_lt start_lt) e
  rw [dig0_append, dig0_append, dig0_cons, dig0_cons] at e1
  exact hne (stepD_inj' (dig0_lt start_lt) hb hc (dig0_inj (stepD_lt _ b) (stepD_lt _ c) hq e1))
end Go.Proofs.Ytgkcdmbhniipdaa
