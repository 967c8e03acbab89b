/- What lies inside a range; the law RunlengthParts: its walk. -/
import Derived.Test.YtielamoaghibgaaRw
namespace Go.Proofs.Ytielamoaghibgaa
open Go.RowKit Go.Lib

/-- The sector at i equals the one before it. -/
def eb (l : List Sect) (i : Nat) : Bool := decide (1 ≤ i) && decide (l[i]? = l[i - 1]?)
theorem eqs_next (a : Sect) : ∀ t : List Sect, t[eqs a t]? ≠ some a := by
  intro t
  induction t with
  | nil => simp [eqs]
  | cons c t ih =>
    rw [eqs]
    by_cases h : c = a
    · rw [if_pos h]; simpa using ih
    · rw [if_neg h]; simpa using h
theorem eqh_at {a : Sect} {t : List Sect} {j : Nat} (h : j < eqh (a :: t)) : (a :: t)[j]? = some a := by
  have e := eqh_take (a := a) (t := t)
  have h2 := congrArg (fun x : List Sect => x[j]?) e
  simp only [List.getElem?_take, List.getElem?_replicate] at h2
  rw [if_pos h, if_pos h] at h2
  exact h2
theorem eqh_next {a : Sect} {t : List Sect} : (a :: t)[eqh (a :: t)]? ≠ some a := by
  rw [eqh_cons]
  simpa using eqs_next a t
theorem runs_next (d : Nat) : ∀ (l : List Sect) (k : Nat), l.length - k ≤ d → (k < l.length → eb l k = false) →
    (rns k (l.drop k) = [] ∧ ∀ j, k ≤ j → j < l.length → eb l j = false) ∨
    ∃ p m more, rns k (l.drop k) = (p, m) :: more ∧ k ≤ p ∧ 2 ≤ m ∧ p + m ≤ l.length ∧ (∀ j, k ≤ j → j ≤ p → eb l j = false) ∧ (∀ j, p < j → j < p + m → eb l j = true) ∧ more = rns (p + m) (l.drop (p + m)) ∧ (p + m < l.length → eb l (p + m) = false) := by
  induction d with
  | zero =>
    intro l k hd hk
    refine .inl ⟨by rw [List.drop_of_length_le (by omega), rns_nil], fun j h1 h2 => by omega⟩
  | succ d ih =>
    intro l k hd hk
    by_cases hkl : k < l.length
    · have hdr : l.drop k = l[k] :: l.drop (k + 1) := List.drop_eq_getElem_cons hkl
      obtain ⟨a, ha⟩ : ∃ a, l[k] = a := ⟨_, rfl⟩
      rw [ha] at hdr
      have h0 : l.drop k ≠ [] := by rw [hdr]; simp
      obtain ⟨q, hq⟩ : ∃ q, eqh (l.drop k) = q := ⟨_, rfl⟩
      have hql : k + q ≤ l.length := by have := eqh_le (l.drop k); rw [List.length_drop] at this; omega
      have hq1 : 1 ≤ q := by rw [← hq, hdr, eqh_cons]; omega
      have hat : ∀ j, j < q → l[k + j]? = some a := fun j hj => by
        have h := eqh_at (a := a) (t := l.drop (k + 1)) (j := j) (by rw [← hdr, hq]; exact hj)
        rw [← hdr, List.getElem?_drop] at h
        exact h
      have hnx : l[k + q]? ≠ some a := by
        have h := eqh_next (a := a) (t := l.drop (k + 1))
        rw [← hdr, hq, List.getElem?_drop] at h
        exact h
      have hin : ∀ j, k < j → j < k + q → eb l j = true := fun j h1 h2 => by
        unfold eb
        have e1 := hat (j - k) (by omega)
        have e2 := hat (j - 1 - k) (by omega)
        rw [show k + (j - k) = j by omega] at e1
        rw [show k + (j - 1 - k) = j - 1 by omega] at e2
        rw [e1, e2]
        simp
        omega
      have hst : k + q < l.length → eb l (k + q) = false := fun _ => by
        unfold eb
        have e2 := hat (q - 1) (by omega)
        rw [show k + (q - 1) = k + q - 1 by omega] at e2
        rw [e2]
        simp [hnx]
      have hr := rns_cons k h0
      rw [hq, List.drop_drop] at hr
      by_cases hq2 : 2 ≤ q
      · rw [if_pos hq2] at hr
        exact .inr ⟨k, q, _, hr, Nat.le_refl _, hq2, hql, fun j h1 h2 => (by rw [show j = k by omega]; exact hk hkl), hin, rfl, hst⟩
      · obtain rfl : q = 1 := by omega
        rw [if_neg hq2, List.nil_append] at hr
        rw [hr]
        rcases ih l (k + 1) (by omega) hst with ⟨e, h⟩ | ⟨p, m, more, e, h1, h2, h3, h4, h5, h6, h7⟩
        · refine .inl ⟨e, fun j h1 h2 => ?_⟩
          by_cases hj : j = k
          · subst hj; exact hk hkl
          · exact h j (by omega) h2
        · refine .inr ⟨p, m, more, e, by omega, h2, h3, fun j g1 g2 => ?_, h5, h6, h7⟩
          by_cases hj : j = k
          · subst hj; exact hk hkl
          · exact h4 j (by omega) g2
    · exact .inl ⟨by rw [List.drop_of_length_le (by omega), rns_nil], fun j h1 h2 => by omega⟩
/-- n Booleans. -/
def bl (n : Nat) (f : Nat → Bool) : List Value := (List.range n).map fun i => Value.bool (f i)
theorem bl_congr {n : Nat} {f f' : Nat → Bool} (h : ∀ i, i < n → f i = f' i) : bl n f = bl n f' := by
  unfold bl
  exact List.map_congr_left fun i hi => by rw [h i (List.mem_range.1 hi)]
theorem bl_get {n : Nat} {f : Nat → Bool} {i : Nat} (h : i < n) : (bl n f)[i]? = some (.bool (f i)) := by
  unfold bl
  rw [List.getElem?_map, List.getElem?_range h]
  rfl
theorem bl_set {n : Nat} {f : Nat → Bool} {a : Nat} (h : a < n) : (bl n f).set a (.bool true) = bl n fun i => f i || decide (i = a) := by
  apply List.ext_getElem?
  intro i
  rw [List.getElem?_set]
  have hl : (bl n f).length = n := by unfold bl; simp
  by_cases hi : i < n
  · rw [bl_get hi]
    by_cases he : a = i
    · subst he
      rw [bl_get h]
      simp [hl, h]
    · rw [if_neg he, bl_get hi]
      have : ¬ i = a := fun e => he e.symm
      simp [this]
  · have e1 : (bl n fun i => f i || decide (i = a))[i]? = none := List.getElem?_eq_none (by unfold bl; simp; omega)
    have e2 : (bl n f)[i]? = none := List.getElem?_eq_none (by rw [hl]; omega)
    rw [e1, e2]
    have : ¬ a = i := by omega
    simp [this]
theorem info4 : (Try.prog.info? 4).map (fun i => (i.zero, i.size, i.bytes)) = some (some (.bool false), 1, 1) := by kernel_rfl
theorem made_bools (n : Nat) : madeCells (Value.bool false).cells (n * 1) = (bl n fun _ => false).toArray := by
  apply Array.ext'
  unfold madeCells bl
  rw [Array.toList_map, Array.toList_range, Nat.mul_one]
  exact List.map_congr_left fun i _ => by simp [Value.cells, Nat.mod_one]
end Go.Proofs.Ytielamoaghibgaa
