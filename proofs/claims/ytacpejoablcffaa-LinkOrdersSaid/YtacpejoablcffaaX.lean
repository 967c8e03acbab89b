/- What holds of runs, one payload after another. -/
import Derived.Test.YtacpejoablcffaaW
namespace Go.Proofs.Ytacpejoablcffaa
open Go.RowKit Go.Lib

theorem lst_snoc {α : Type} (l : List α) (x : α) (k : Nat) (h : l.length = k) : (l ++ [x])[k]? = some x := by subst h; simp
theorem lst_low {α : Type} (l : List α) (x : α) (k j : Nat) (h : l.length = k) (hj : j < k) : (l ++ [x])[j]? = l[j]? := List.getElem?_append_left (by omega)
section
variable {mn mx rt : Int} {ch : List Int} {sts : List (Nat × Nat)}
/-- The end of the transmission of the k-th payload, counted from 1. -/
def idl (mn mx rt : Int) (ch : List Int) (sts : List (Nat × Nat)) (k : Nat) : Int := (runK mn mx rt ch sts k).s.idle
def tms (mn mx rt : Int) (ch : List Int) (sts : List (Nat × Nat)) (k : Nat) : Int := (runK mn mx rt ch sts k).now
def cop (mn mx rt : Int) (ch : List Int) (sts : List (Nat × Nat)) (k : Nat) : Nat := arr (runK mn mx rt ch sts k).rest
theorem runK_at (h0 : 0 ≤ mn) (h1 : mn ≤ mx) (h2 : mx ≤ 100) (h3 : 0 ≤ rt) (h4 : rt ≤ 100) (hn : sts.length ≤ 20) : ∀ k, k ≤ sts.length → ∀ j, j < k →
    (runK mn mx rt ch sts k).ts[j]? = some (tms mn mx rt ch sts (j + 1)) ∧ (runK mn mx rt ch sts k).ids[j]? = some (idl mn mx rt ch sts (j + 1)) ∧ (runK mn mx rt ch sts k).cps[j]? = some ((cop mn mx rt ch sts j : Nat) : Int) := by
  intro k
  induction k with
  | zero => intro _ j hj; exact absurd hj (by omega)
  | succ k ih =>
    intro hk j hj
    have hst : sts[k]? = some (sts[k]'(by omega)) := List.getElem?_eq_getElem _
    have hi := runK_inv mn mx rt ch sts h0 h1 h2 h3 h4 hn k (by omega)
    have hs := runK_succ (mn := mn) (mx := mx) (rt := rt) (ch := ch) hst
    by_cases hjk : j < k
    · obtain ⟨e1, e2, e3⟩ := ih (by omega) j hjk
      rw [hs]
      unfold step1
      dsimp only
      rw [lst_low _ _ k j hi.lts hjk, lst_low _ _ k j hi.lid hjk, lst_low _ _ k j hi.lcp hjk]
      exact ⟨e1, e2, e3⟩
    · obtain rfl : j = k := by omega
      unfold tms idl cop
      rw [hs]
      unfold step1
      dsimp only
      rw [lst_snoc _ _ _ hi.lts, lst_snoc _ _ _ hi.lid, lst_snoc _ _ _ hi.lcp]
      exact ⟨rfl, rfl, rfl⟩
/-- How long a payload is. -/
def plen (sts : List (Nat × Nat)) (j : Nat) : Nat := match sts[j]? with
  | none => 0
  | some st => (pay st.1 j).length
theorem plen_at {j : Nat} {st : Nat × Nat} (h : sts[j]? = some st) : plen sts j = (pay st.1 j).length := by unfold plen; rw [h]
theorem plen_le (j : Nat) : plen sts j ≤ 9 := by
  unfold plen
  split
  · omega
  · exact pay_len _ _
theorem idl_succ (h0 : 0 ≤ mn) (h1 : mn ≤ mx) (h2 : mx ≤ 100) (h3 : 0 ≤ rt) (h4 : rt ≤ 100) (hn : sts.length ≤ 20) {j : Nat} (hj : j < sts.length) :
    idl mn mx rt ch sts (j + 1) = max (tms mn mx rt ch sts (j + 1)) (idl mn mx rt ch sts j) + tik (plen sts j) rt := by
  have hst : sts[j]? = some (sts[j]'hj) := List.getElem?_eq_getElem _
  have hi := runK_inv mn mx rt ch sts h0 h1 h2 h3 h4 hn j (by omega)
  unfold idl tms
  rw [runK_succ hst, plen_at hst]
  show rid _ _ _ = _
  unfold rid
  rw [hi.crt]
  rfl
/-- The bytes of n payloads from the i-th. -/
def bsum (sts : List (Nat × Nat)) (i : Nat) : Nat → Nat
  | 0 => 0
  | n + 1 => bsum sts i n + plen sts (i + n)
theorem bsum_le (i n : Nat) : bsum sts i n ≤ 9 * n := by
  induction n with
  | zero => exact Nat.le_refl _
  | succ n ih => have := plen_le (sts := sts) (i + n); unfold bsum; omega
theorem tik_mul {m : Nat} {rate : Int} (h : 1 ≤ rate) : (m : Int) ≤ tik m rate * rate := by
  unfold tik
  rw [if_neg (by omega)]
  have h1 := Int.emod_add_mul_ediv ((m : Int) + rate - 1) rate
  have h2 := Int.emod_lt_of_pos ((m : Int) + rate - 1) (show 0 < rate by omega)
  rw [Int.mul_comm]
  omega
theorem rate_ok (h0 : 0 ≤ mn) (h1 : mn ≤ mx) (h2 : mx ≤ 100) (h3 : 1 ≤ rt) (h4 : rt ≤ 100) (hn : sts.length ≤ 20) (i : Nat) : ∀ n, i + n < sts.length →
    (bsum sts i (n + 1) : Int) ≤ (idl mn mx rt ch sts (i + n + 1) - max (tms mn mx rt ch sts (i + 1)) (idl mn mx rt ch sts i)) * rt := by
  intro n
  induction n with
  | zero =>
    intro hi
    have e := idl_succ (ch := ch) h0 h1 h2 (by omega) h4 hn (j := i) (by omega)
    have ht := tik_mul (m := plen sts i) h3
    show ((0 + plen sts (i + 0) : Nat) : Int) ≤ _
    rw [Nat.zero_add, Nat.add_zero, e]
    have : max (tms mn mx rt ch sts (i + 1)) (idl mn mx rt ch sts i) + tik (plen sts i) rt - max (tms mn mx rt ch sts (i + 1)) (idl mn mx rt ch sts i) = tik (plen sts i) rt := by omega
    rw [this]
    exact ht
  | succ n ih =>
    intro hi
    have hq := ih (by omega)
    have e := idl_succ (ch := ch) h0 h1 h2 (by omega) h4 hn (j := i + n + 1) (by omega)
    have ht := tik_mul (m := plen sts (i + n + 1)) h3
    obtain ⟨M, hM⟩ : ∃ M, max (tms mn mx rt ch sts (i + 1)) (idl mn mx rt ch sts i) = M := ⟨_, rfl⟩
    rw [hM] at hq ⊢
    have hb : bsum sts i (n + 1 + 1) = bsum sts i (n + 1) + plen sts (i + n + 1) := rfl
    rw [hb, show i + (n + 1) + 1 = i + n + 1 + 1 from rfl, e]
    obtain ⟨t, ht'⟩ : ∃ t, tik (plen sts (i + n + 1)) rt = t := ⟨_, rfl⟩
    rw [ht'] at ht ⊢
    have h5 : (idl mn mx rt ch sts (i + n + 1) - M) * rt + t * rt ≤ (max (tms mn mx rt ch sts (i + n + 1 + 1)) (idl mn mx rt ch sts (i + n + 1)) + t - M) * rt := by
      rw [← Int.add_mul]
      exact Int.mul_le_mul_of_nonneg_right (by omega) (by omega)
    omega
end
end Go.Proofs.Ytacpejoablcffaa
