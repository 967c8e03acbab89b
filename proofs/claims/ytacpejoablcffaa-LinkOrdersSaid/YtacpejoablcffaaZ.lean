/- How often the payloads of a run fly. -/
import Derived.Test.YtacpejoablcffaaY
namespace Go.Proofs.Ytacpejoablcffaa
open Go.RowKit Go.Lib

/-- The number that a payload bears. -/
def hd (p : List Nat) : Nat := p.headD 0
theorem hd_pay (size number : Nat) : hd (pay size number) = number := rfl
/-- How many flights bear a number. -/
def cnt (l : List Fc) (j : Nat) : Nat := (l.map fun x => hd x.2.2).count j
theorem cnt_perm {l r : List Fc} (h : l.Perm r) (j : Nat) : cnt l j = cnt r j := (h.map _).count_eq j
theorem cnt_app (l r : List Fc) (j : Nat) : cnt (l ++ r) j = cnt l j + cnt r j := by unfold cnt; rw [List.map_append, List.count_append]
theorem cnt_nil (j : Nat) : cnt [] j = 0 := rfl
theorem cnt_one (x : Fc) (j : Nat) : cnt [x] j = if hd x.2.2 = j then 1 else 0 := by
  unfold cnt
  rw [List.map_singleton, List.count_singleton]
  by_cases h : hd x.2.2 = j
  · rw [if_pos h, if_pos (by rw [beq_iff_eq]; exact h)]
  · rw [if_neg h, if_neg (by rw [beq_iff_eq]; exact h)]
theorem cnt_zero {l : List Fc} {j : Nat} (h : ∀ x ∈ l, hd x.2.2 ≠ j) : cnt l j = 0 := by
  unfold cnt
  rw [List.count_eq_zero]
  intro hm
  obtain ⟨x, hx, e⟩ := List.mem_map.1 hm
  exact h x hx e
theorem cnt_pos {l : List Fc} {j : Nat} (h : 0 < cnt l j) : ∃ x ∈ l, hd x.2.2 = j := by
  unfold cnt at h
  obtain ⟨x, hx, e⟩ := List.mem_map.1 (List.count_pos_iff.1 h)
  exact ⟨x, hx, e⟩
/-- The flights that one payload makes. -/
def news (idle : Int) (p : List Nat) : List Int → Int → List Fc
  | [], _ => []
  | d :: ds, n => (idle + d, n, p) :: news idle p ds (n + 1)
theorem lau_perm (idle : Int) (p : List Nat) : ∀ (ds : List Int) (next : Int) (l : List Fc), (lau idle p ds next l).Perm (l ++ news idle p ds next) := by
  intro ds
  induction ds with
  | nil => intro next l; unfold lau news; rw [List.append_nil]
  | cons d ds ih =>
    intro next l
    unfold lau news
    refine (ih _ _).trans ?_
    refine ((insF_perm l _).append_right _).trans ?_
    exact (List.perm_middle).symm
theorem news_mem {idle : Int} {p : List Nat} {ds : List Int} {n : Int} {x : Fc} (h : x ∈ news idle p ds n) : x.2.2 = p ∧ ∃ d ∈ ds, x.1 = idle + d := by
  induction ds generalizing n with
  | nil => cases h
  | cons d ds ih =>
    unfold news at h
    rcases List.mem_cons.1 h with rfl | h
    · exact ⟨rfl, d, by simp, rfl⟩
    · obtain ⟨h1, d', h2, h3⟩ := ih h
      exact ⟨h1, d', List.mem_cons_of_mem _ h2, h3⟩
theorem cnt_news (idle : Int) (p : List Nat) (ds : List Int) (n : Int) : cnt (news idle p ds n) (hd p) = ds.length := by
  induction ds generalizing n with
  | nil => rfl
  | cons d ds ih =>
    unfold news
    rw [← List.singleton_append, cnt_app, ih, cnt_one, if_pos rfl, List.length_cons, Nat.add_comm]
section
variable {mn mx rt : Int} {ch : List Int} {sts : List (Nat × Nat)}
theorem dls_mem {mn m : Int} (h : 0 < m) : ∀ (n : Nat) (l : List Int), ∀ d ∈ dls mn m n l, mn ≤ d ∧ d < mn + m := by
  intro n
  induction n with
  | zero => intro l d hd; cases hd
  | succ n ih =>
    intro l d hd
    unfold dls at hd
    rcases List.mem_cons.1 hd with rfl | hd
    · have h5 := dec_lo l h
      have h6 := dec_hi l h
      omega
    · exact ih _ d hd
theorem run_fl (h0 : 0 ≤ mn) (h1 : mn ≤ mx) (h2 : mx ≤ 100) (h3 : 0 ≤ rt) (h4 : rt ≤ 100) (hn : sts.length ≤ 20) : ∀ k, k ≤ sts.length →
    (∀ x ∈ (runK mn mx rt ch sts k).l, ∃ j st, j < k ∧ sts[j]? = some st ∧ x.2.2 = pay st.1 j ∧ idl mn mx rt ch sts (j + 1) + mn ≤ x.1 ∧ x.1 ≤ idl mn mx rt ch sts (j + 1) + mx) ∧
    ∀ j, j < k → cnt (runK mn mx rt ch sts k).l j = cop mn mx rt ch sts j := by
  intro k
  induction k with
  | zero => exact fun _ => ⟨fun x hx => (by cases hx), fun j hj => absurd hj (by omega)⟩
  | succ k ih =>
    intro hk
    obtain ⟨ih1, ih2⟩ := ih (by omega)
    have hst : sts[k]? = some (sts[k]'(by omega)) := List.getElem?_eq_getElem _
    obtain ⟨st, e⟩ : ∃ st, sts[k]'(show k < sts.length by omega) = st := ⟨_, rfl⟩
    rw [e] at hst
    have hi := runK_inv mn mx rt ch sts h0 h1 h2 h3 h4 hn k (by omega)
    have hs := runK_succ (mn := mn) (mx := mx) (rt := rt) (ch := ch) hst
    have hid : idl mn mx rt ch sts (k + 1) = rid (runK mn mx rt ch sts k) k st := by unfold idl; rw [hs]; rfl
    have hp := lau_perm (rid (runK mn mx rt ch sts k) k st) (pay st.1 k) (rds (runK mn mx rt ch sts k)) (runK mn mx rt ch sts k).s.next (runK mn mx rt ch sts k).l
    rw [hs]
    have el : (step1 (runK mn mx rt ch sts k) k st).l = lau (rid (runK mn mx rt ch sts k) k st) (pay st.1 k) (rds (runK mn mx rt ch sts k)) (runK mn mx rt ch sts k).s.next (runK mn mx rt ch sts k).l := rfl
    rw [el]
    refine ⟨fun x hx => ?_, fun j hj => ?_⟩
    · rcases List.mem_append.1 (hp.mem_iff.1 hx) with hx | hx
      · obtain ⟨j, s, q1, q2, q3, q4, q5⟩ := ih1 x hx
        exact ⟨j, s, by omega, q2, q3, q4, q5⟩
      · obtain ⟨q1, d, q2, q3⟩ := news_mem hx
        refine ⟨k, st, by omega, hst, q1, ?_⟩
        unfold rds at q2
        have hd := dls_mem (by rw [hi.cmn, hi.cmx]; omega) _ _ d q2
        rw [hi.cmn, hi.cmx] at hd
        rw [hid, q3]
        omega
    · rw [cnt_perm hp, cnt_app]
      by_cases hjk : j = k
      · subst hjk
        rw [cnt_zero (l := (runK mn mx rt ch sts j).l) (fun x hx e => by
          obtain ⟨i, s, q1, q2, q3, _⟩ := ih1 x hx
          rw [q3, hd_pay] at e
          omega)]
        have h5 := cnt_news (rid (runK mn mx rt ch sts j) j st) (pay st.1 j) (rds (runK mn mx rt ch sts j)) (runK mn mx rt ch sts j).s.next
        rw [hd_pay] at h5
        rw [h5, Nat.zero_add]
        unfold rds
        rw [dls_len]
        rfl
      · rw [ih2 j (by omega), cnt_zero (l := news _ _ _ _) (fun x hx e => by
          obtain ⟨q1, _⟩ := news_mem hx
          rw [q1, hd_pay] at e
          omega), Nat.add_zero]
end
end Go.Proofs.Ytacpejoablcffaa
