/- Lists: what a write puts over the newest sectors; the right disk is right. -/
import Derived.Test.YtoefbgkeinhibaaRc
namespace Go.Proofs.Ytoefbgkeinhibaa
open Go.RowKit Go.Lib
theorem fold_put (L : List Sect) (a : Nat) (data : List Sect) (i : Nat) (h : a + data.length ≤ L.length) : ((putL (a : Int) data).foldl (fun l x => l.set x.1.toNat x.2) L)[i]? = if a ≤ i ∧ i < a + data.length then data[i - a]? else L[i]? := by
  induction data generalizing L a with
  | nil =>
    rw [if_neg (by simp)]
    rfl
  | cons s r ih =>
    rw [List.length_cons] at h
    rw [putL, List.foldl_cons, show (a : Int) + 1 = ((a + 1 : Nat) : Int) by omega, ih _ _ (by rw [List.length_set]; omega)]
    dsimp only
    rw [Int.toNat_natCast, List.length_cons, List.getElem?_set]
    by_cases h1 : a + 1 ≤ i ∧ i < a + 1 + r.length
    · rw [if_pos h1, if_pos (by omega)]
      rw [show i - a = (i - (a + 1)) + 1 by omega, List.getElem?_cons_succ]
    · rw [if_neg h1]
      by_cases h2 : a = i
      · subst h2
        rw [if_pos rfl, if_pos (by omega), if_pos (by omega), Nat.sub_self]
        rfl
      · rw [if_neg h2, if_neg (by omega)]
theorem newL_put (st : List Sect) (ca : List Ca) (a : Nat) (data : List Sect) (i : Nat) (h : a + data.length ≤ st.length) : (newL st (ca ++ putL (a : Int) data))[i]? = if a ≤ i ∧ i < a + data.length then data[i - a]? else (newL st ca)[i]? := by
  have e : newL st (ca ++ putL (a : Int) data) = (putL (a : Int) data).foldl (fun l x => l.set x.1.toNat x.2) (newL st ca) := by unfold newL; rw [List.foldl_append]
  rw [e, fold_put _ _ _ _ (by rw [newL_len]; exact h)]
theorem put_mem (a : Nat) (data : List Sect) (i : Nat) (h : a ≤ i ∧ i < a + data.length) : ∃ s, ((i : Int), s) ∈ putL (a : Int) data := by
  induction data generalizing a with
  | nil => simp at h; omega
  | cons s r ih =>
    rw [List.length_cons] at h
    rw [putL]
    by_cases h1 : a = i
    · subst h1
      exact ⟨s, List.mem_cons_self ..⟩
    · obtain ⟨s', hs'⟩ := ih (a + 1) (by omega)
      exact ⟨s', List.mem_cons_of_mem _ (by rw [show (a : Int) + 1 = ((a + 1 : Nat) : Int) by omega]; exact hs')⟩
theorem g_put (ca : List Ca) (a : Nat) (data : List Sect) (i : Nat) (h : a ≤ i ∧ i < a + data.length) : (G (ca ++ putL (a : Int) data) (i : Int)).isEmpty = false := by
  obtain ⟨s, hs⟩ := put_mem a data i h
  have hm : s ∈ G (ca ++ putL (a : Int) data) (i : Int) := by
    unfold G
    exact List.mem_map.2 ⟨_, List.mem_filter.2 ⟨List.mem_append_right _ hs, by simp⟩, rfl⟩
  rw [List.isEmpty_eq_false_iff]
  exact List.ne_nil_of_mem hm
theorem runS_one {st : List Sect} {ca : List Ca} {x : OpT} (hk : chkD st.length ca = 0) (h : (runS st ca [x]).2.1 = 0) : (runS st ca [x]).2.2.1.length = st.length ∧ chkC st.length (runS st ca [x]).2.2.2 = 0 := by
  have hc := (chkD_C hk).2
  unfold runS at h ⊢
  rw [if_pos hk] at h ⊢
  by_cases h0 : x.k = 0
  · by_cases h1 : insB st.length x.a x.l.length = true
    · rw [exec_put h0 h1]
      exact ⟨rfl, chkC_app hc (chkC_put h1)⟩
    · rw [exec_out h0 (by simpa using h1)] at h
      exact absurd h (by decide)
  · by_cases h1 : x.k = 1
    · rw [exec_sync h1]
      exact ⟨newL_len _ _, rfl⟩
    · rw [exec_bad h0 h1] at h
      exact absurd h (by decide)
theorem rightS_ok (st : List Sect) (ca : List Ca) (ops : List OpT) (hk : chkD st.length ca = 0) : (rightS st ca ops).1.length = st.length ∧ chkD (rightS st ca ops).1.length (rightS st ca ops).2 = 0 := by
  induction ops generalizing st ca with
  | nil => exact ⟨rfl, hk⟩
  | cons x r ih =>
    rw [rightS]
    split
    · rename_i h
      obtain ⟨h1, h2⟩ := runS_one hk h
      have h3 := ih (runS st ca [x]).2.2.1 (runS st ca [x]).2.2.2 (by
        unfold chkD
        rw [h1, if_neg (by have := (chkD_C hk).1; omega)]
        exact h2)
      exact ⟨h3.1.trans h1, h3.2⟩
    · exact ih st ca hk
theorem rightS_new (n : Nat) (hn : n ≤ 4096) (ops : List OpT) : (rightS (List.replicate n zs) [] ops).1.length = n ∧ chkD n (rightS (List.replicate n zs) [] ops).2 = 0 := by
  have h := rightS_ok (List.replicate n zs) [] ops (by
    unfold chkD
    rw [List.length_replicate, if_neg (by omega)]
    rfl)
  rw [List.length_replicate] at h
  exact ⟨h.1, by rw [← h.1]; rw [h.1]; have := h.2; rwa [h.1] at this⟩
end Go.Proofs.Ytoefbgkeinhibaa
