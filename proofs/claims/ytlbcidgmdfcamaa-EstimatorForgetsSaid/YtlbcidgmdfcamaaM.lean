/- Estimators as four numbers: what Check, Sample, Expired, Timeout and Mean give; what holds of runs of samples. -/
namespace Go.Proofs.Ytlbcidgmdfcamaa
/-- An estimator: its samples, eight times the mean, four times the deviation, its backoff. -/
structure Est where
  n : Int
  s : Int
  v : Int
  b : Int
deriving DecidableEq
def z4 : Est := ⟨0, 0, 0, 0⟩
def inB (m x : Int) : Bool := decide (0 ≤ x) && decide (x ≤ m)
theorem inB_true {m x : Int} (h : inB m x = true) : 0 ≤ x ∧ x ≤ m := by unfold inB at h; simp only [Bool.and_eq_true, decide_eq_true_eq] at h; exact h
theorem inB_false {m x : Int} (h : inB m x = false) : x < 0 ∨ m < x := by
  unfold inB at h
  simp only [Bool.and_eq_false_iff, decide_eq_false_iff_not] at h
  omega
theorem inB_of {m x : Int} (h : 0 ≤ x) (h' : x ≤ m) : inB m x = true := by unfold inB; simp only [Bool.and_eq_true, decide_eq_true_eq]; exact ⟨h, h'⟩
theorem inB_not {m x : Int} (h : x < 0 ∨ m < x) : inB m x = false := by
  unfold inB
  simp only [Bool.and_eq_false_iff, decide_eq_false_iff_not]
  omega
/-- Its error. -/
def chk (e : Est) : Int :=
  if inB 1073741824 e.n = false ∨ inB 8589934592 e.s = false ∨ inB 8589934592 e.v = false ∨ inB 12 e.b = false then 3
  else if e.n = 0 ∧ (0 < e.s ∨ 0 < e.v) then 3
  else 0
theorem chk_ok {e : Est} (h : chk e = 0) : (0 ≤ e.n ∧ e.n ≤ 1073741824) ∧ (0 ≤ e.s ∧ e.s ≤ 8589934592) ∧ (0 ≤ e.v ∧ e.v ≤ 8589934592) ∧ (0 ≤ e.b ∧ e.b ≤ 12) ∧ (e.n = 0 → e.s = 0 ∧ e.v = 0) := by
  unfold chk at h
  cases h1 : inB 1073741824 e.n
  · rw [h1] at h; simp at h
  cases h2 : inB 8589934592 e.s
  · rw [h2] at h; simp at h
  cases h3 : inB 8589934592 e.v
  · rw [h3] at h; simp at h
  cases h4 : inB 12 e.b
  · rw [h4] at h; simp at h
  have a1 := inB_true h1
  have a2 := inB_true h2
  have a3 := inB_true h3
  have a4 := inB_true h4
  rw [h1, h2, h3, h4, if_neg (by simp)] at h
  refine ⟨a1, a2, a3, a4, fun h0 => ?_⟩
  split at h
  · omega
  · omega
theorem chk_mk {n s v b : Int} (h1 : 0 ≤ n ∧ n ≤ 1073741824) (h2 : 0 ≤ s ∧ s ≤ 8589934592) (h3 : 0 ≤ v ∧ v ≤ 8589934592) (h4 : 0 ≤ b ∧ b ≤ 12) (h5 : n = 0 → s = 0 ∧ v = 0) : chk ⟨n, s, v, b⟩ = 0 := by
  unfold chk
  simp only
  rw [inB_of h1.1 h1.2, inB_of h2.1 h2.2, inB_of h3.1 h3.2, inB_of h4.1 h4.2, if_neg (by simp), if_neg (by intro h; have := h5 h.1; omega)]
theorem chk_or (e : Est) : chk e = 0 ∨ chk e = 3 := by unfold chk; split; · exact .inr rfl
                                                       split <;> simp
/-- What Sample gives behind an estimator in order and a time in its range. -/
def nxt (e : Est) (t : Int) : Est :=
  if e.n = 0 then ⟨min (e.n + 1) 1073741824, 8 * t, 2 * t, 0⟩
  else ⟨min (e.n + 1) 1073741824, e.s + (t - e.s / 8), e.v + (max (t - e.s / 8) (-(t - e.s / 8)) - e.v / 4), 0⟩
/-- What Sample gives. -/
def smp (e : Est) (t : Int) : Est × Int := if chk e = 0 then (if inB 1073741824 t = true then (nxt e t, 0) else (z4, 24)) else (z4, 3)
/-- What Expired gives. -/
def exq (e : Est) : Est := if chk e = 0 then ⟨e.n, e.s, e.v, min (e.b + 1) 12⟩ else e
/-- What Mean gives. -/
def mean (e : Est) : Int := if chk e = 0 then e.s / 8 else 0
def base (e : Est) : Int := if 0 < e.n then max (e.s / 8 + max e.v 1) 2 else 64
/-- What Timeout gives. -/
def tmo (e : Est) : Int := if chk e = 0 then min (base e * 2 ^ e.b.toNat) (max (base e) 65536) else 0
theorem max_neg (d : Int) (h : -1073741824 ≤ d) (h' : d ≤ 1073741824) : 0 ≤ max d (-d) ∧ max d (-d) ≤ 1073741824 := by omega
theorem nxt_ok {e : Est} {t : Int} (h : chk e = 0) (ht : inB 1073741824 t = true) (hv : e.v ≤ 4294967296) : chk (nxt e t) = 0 := by
  obtain ⟨h1, h2, h3, h4, h5⟩ := chk_ok h
  have ht := inB_true ht
  unfold nxt
  split
  · exact chk_mk (by omega) (by omega) (by omega) (by omega) (by omega)
  · exact chk_mk (by omega) (by omega) (by omega) (by omega) (by omega)
theorem exq_ok {e : Est} (h : chk e = 0) : chk (exq e) = 0 := by
  obtain ⟨h1, h2, h3, h4, h5⟩ := chk_ok h
  unfold exq
  rw [if_pos h]
  exact chk_mk h1 h2 h3 (by omega) h5
theorem pow_b {b : Int} (h : 0 ≤ b) (h' : b ≤ 12) : 1 ≤ (2 : Int) ^ b.toNat ∧ (2 : Int) ^ b.toNat ≤ 4096 := by
  obtain ⟨k, rfl⟩ := Int.eq_ofNat_of_zero_le h
  have hk : k ≤ 12 := by omega
  rw [Int.toNat_natCast]
  match k, hk with
  | 0, _ | 1, _ | 2, _ | 3, _ | 4, _ | 5, _ | 6, _ | 7, _ | 8, _ | 9, _ | 10, _ | 11, _ | 12, _ => decide
theorem pow_next {b : Int} (h : 0 ≤ b) : (2 : Int) ^ (b + 1).toNat = 2 * 2 ^ b.toNat := by
  obtain ⟨k, rfl⟩ := Int.eq_ofNat_of_zero_le h
  rw [show ((k : Int) + 1).toNat = k + 1 by omega, Int.toNat_natCast, Int.pow_succ, Int.mul_comm]
theorem base_bd {e : Est} (h : chk e = 0) : 2 ≤ base e ∧ base e ≤ 9663676417 ∧ e.s / 8 < base e := by
  obtain ⟨h1, h2, h3, h4, h5⟩ := chk_ok h
  unfold base
  split
  · omega
  · have := h5 (by omega)
    omega
end Go.Proofs.Ytlbcidgmdfcamaa
