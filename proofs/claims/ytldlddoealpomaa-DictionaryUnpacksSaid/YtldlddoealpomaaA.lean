/- The encoding as functions on lists of numbers: what is put is read again, what is read was put, a proper beginning is torn. -/
import Derived.Outline
namespace Go.Proofs.Ytldlddoealpomaa

/-- The greatest number that is encoded. -/
def top : Nat := 9007199254740991
/-- The groups of a number, the least significant one first. -/
def enc (n : Nat) : List Nat := if n < 128 then [n] else (n % 128 + 128) :: enc (n / 128)
termination_by n
decreasing_by omega
theorem enc_small {n : Nat} (h : n < 128) : enc n = [n] := by rw [enc, if_pos h]
theorem enc_big {n : Nat} (h : ¬ n < 128) : enc n = (n % 128 + 128) :: enc (n / 128) := by rw [enc, if_neg h]
/-- What f groups at most, i having been read with the value n, yield: the value, how many groups there are, the number of the error. -/
def rd : Nat → Nat → Nat → List Nat → Nat × Nat × Int
  | 0, _, _, _ => (0, 0, 3)
  | _ + 1, _, _, [] => (0, 0, 10)
  | f + 1, i, n, b :: t => if b < 128 then (if b = 0 ∧ 0 < i ∨ top < n + b % 128 * 128 ^ i then (0, 0, 3) else (n + b % 128 * 128 ^ i, i + 1, 0)) else rd f (i + 1) (n + b % 128 * 128 ^ i) t

def B8 (l : List Nat) : Prop := ∀ x ∈ l, x < 256
theorem B8.append {a b : List Nat} (ha : B8 a) (hb : B8 b) : B8 (a ++ b) := fun x hx => (List.mem_append.1 hx).elim (ha x) (hb x)
theorem B8.right {a b : List Nat} (h : B8 (a ++ b)) : B8 b := fun x hx => h x (List.mem_append.2 (.inr hx))
theorem B8.left {a b : List Nat} (h : B8 (a ++ b)) : B8 a := fun x hx => h x (List.mem_append.2 (.inl hx))

theorem enc_pos (n : Nat) : 0 < (enc n).length := by
  by_cases h : n < 128
  · rw [enc_small h]; simp
  · rw [enc_big h]; simp
theorem enc_b8 (n : Nat) : B8 (enc n) := by
  induction n using Nat.strongRecOn with
  | _ n ih =>
    by_cases h : n < 128
    · rw [enc_small h]; intro x hx; simp at hx; omega
    · rw [enc_big h]
      intro x hx
      rcases List.mem_cons.1 hx with rfl | hx
      · omega
      · exact ih (n / 128) (by omega) x hx
theorem enc_mono {m : Nat} : ∀ {n : Nat}, n ≤ m → (enc n).length ≤ (enc m).length := by
  induction m using Nat.strongRecOn with
  | _ m ih =>
    intro n h
    by_cases hn : n < 128
    · rw [enc_small hn]; exact enc_pos m
    · rw [enc_big hn, enc_big (n := m) (by omega)]
      have := ih (m / 128) (by omega) (n := n / 128) (by omega)
      simp only [List.length_cons]
      omega
theorem enc_le {f : Nat} : ∀ {n : Nat}, n < 128 ^ (f + 1) → (enc n).length ≤ f + 1 := by
  induction f with
  | zero => intro n h; rw [enc_small (by omega)]; simp
  | succ f ih =>
    intro n h
    by_cases hn : n < 128
    · rw [enc_small hn]; simp
    · rw [enc_big hn]
      have h' : n / 128 < 128 ^ (f + 1) := by
        rw [Nat.div_lt_iff_lt_mul (by omega)]
        rw [Nat.pow_succ] at h
        exact h
      have := ih h'
      simp only [List.length_cons]
      omega
theorem enc_le8 {n : Nat} (h : n ≤ top) : (enc n).length ≤ 8 := enc_le (f := 7) (by unfold top at h; omega)

theorem weigh (n m w : Nat) : n + m % 128 * w + m / 128 * (w * 128) = n + m * w := by
  have h := Nat.div_add_mod m 128
  have e : m * w = (128 * (m / 128) + m % 128) * w := by rw [h]
  rw [e, Nat.add_mul, Nat.mul_comm 128 (m / 128), Nat.mul_assoc, Nat.mul_comm 128 w]
  omega
theorem rd_enc (r : List Nat) (f : Nat) : ∀ (i n m : Nat), m < 128 ^ (f + 1) → (0 < m ∨ i = 0) → n + m * 128 ^ i ≤ top → rd (f + 1) i n (enc m ++ r) = (n + m * 128 ^ i, i + (enc m).length, 0) := by
  induction f with
  | zero =>
    intro i n m hm h0 ht
    have hs : m < 128 := by omega
    rw [enc_small hs]
    simp only [List.cons_append, List.nil_append, rd]
    have e : m % 128 = m := by omega
    rw [if_pos hs, e, if_neg (by omega)]
    rfl
  | succ f ih =>
    intro i n m hm h0 ht
    by_cases hs : m < 128
    · rw [enc_small hs]
      simp only [List.cons_append, List.nil_append, rd]
      have e : m % 128 = m := by omega
      rw [if_pos hs, e, if_neg (by omega)]
      rfl
    · rw [enc_big hs]
      rw [List.cons_append, rd, if_neg (by omega)]
      have e : (m % 128 + 128) % 128 = m % 128 := by omega
      rw [e]
      have hw := weigh n m (128 ^ i)
      rw [← Nat.pow_succ] at hw
      have h' : m / 128 < 128 ^ (f + 1) := by
        rw [Nat.div_lt_iff_lt_mul (by omega)]
        rw [Nat.pow_succ] at hm
        exact hm
      rw [ih (i + 1) _ (m / 128) h' (.inl (by omega)) (by rw [hw]; exact ht), hw, List.length_cons]
      exact Prod.ext rfl (Prod.ext (by simp only; omega) rfl)
theorem rd_once (f : Nat) : ∀ (i n : Nat) (s : List Nat) (v k : Nat), B8 s → rd f i n s = (v, k, 0) → ∃ m r, s = enc m ++ r ∧ v = n + m * 128 ^ i ∧ k = i + (enc m).length ∧ v ≤ top ∧ (0 < i → 0 < m) := by
  induction f with
  | zero => intro i n s v k _ h; simp [rd] at h
  | succ f ih =>
    intro i n s v k h8 h
    rcases s with _ | ⟨b, t⟩
    · simp [rd] at h
    · rw [rd] at h
      by_cases hb : b < 128
      · rw [if_pos hb] at h
        by_cases hc : b = 0 ∧ 0 < i ∨ top < n + b % 128 * 128 ^ i
        · rw [if_pos hc] at h; simp at h
        · rw [if_neg hc] at h
          have e : b % 128 = b := by omega
          rw [e] at h hc
          injection h with h1 h2
          injection h2 with h2 h3
          exact ⟨b, t, by rw [enc_small hb]; rfl, h1.symm, by rw [enc_small hb]; exact h2.symm, by omega, fun hi => by omega⟩
      · rw [if_neg hb] at h
        obtain ⟨m, r, rfl, hv, hk, ht, hm⟩ := ih _ _ t v k (fun x hx => h8 x (List.mem_cons.2 (.inr hx))) h
        have hm := hm (by omega)
        have hb8 := h8 b (List.mem_cons.2 (.inl rfl))
        have hbig : ¬ b % 128 + 128 * m < 128 := by omega
        have e1 : (b % 128 + 128 * m) % 128 + 128 = b := by omega
        have e2 : (b % 128 + 128 * m) / 128 = m := by omega
        refine ⟨b % 128 + 128 * m, r, ?_, ?_, ?_, ht, fun _ => by omega⟩
        · rw [enc_big hbig, e1, e2]; rfl
        · have hw := weigh n (b % 128 + 128 * m) (128 ^ i)
          rw [e2, show (b % 128 + 128 * m) % 128 = b % 128 by omega] at hw
          rw [hv, Nat.pow_succ, hw]
        · rw [enc_big hbig, e1, e2, List.length_cons, hk]; omega
theorem rd_torn (f : Nat) : ∀ (i n m j : Nat), m < 128 ^ (f + 1) → j < (enc m).length → rd (f + 1) i n ((enc m).take j) = (0, 0, 10) := by
  induction f with
  | zero =>
    intro i n m j hm hj
    rw [enc_small (by omega)] at hj ⊢
    have : j = 0 := by simpa using hj
    subst this
    rfl
  | succ f ih =>
    intro i n m j hm hj
    rcases j with _ | j
    · rw [List.take_zero]; rfl
    · by_cases hs : m < 128
      · rw [enc_small hs] at hj; simp at hj
      · rw [enc_big hs] at hj ⊢
        rw [List.take_succ_cons, rd, if_neg (by omega)]
        have h' : m / 128 < 128 ^ (f + 1) := by
          rw [Nat.div_lt_iff_lt_mul (by omega)]
          rw [Nat.pow_succ] at hm
          exact hm
        exact ih _ _ _ j h' (by simpa using hj)
theorem pow8 {n : Nat} (h : n ≤ top) : n < 128 ^ (7 + 1) := by unfold top at h; omega

end Go.Proofs.Ytldlddoealpomaa
