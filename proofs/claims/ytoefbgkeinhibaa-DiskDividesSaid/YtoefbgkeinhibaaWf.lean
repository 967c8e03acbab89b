/- Lists for Divides: operations in two parts; what operations leave of a sector that they don't write. -/
import Derived.Test.YtoefbgkeinhibaaWb
import Derived.Test.YtoefbgkeinhibaaRa
namespace Go.Proofs.Ytoefbgkeinhibaa
open Go.RowKit Go.Lib
theorem exec_app (st : List Sect) (ca : List Ca) (a b : List OpT) (i : Nat) : exec st ca (a ++ b) i = if (exec st ca a i).2.1 = 0 then exec (exec st ca a i).2.2.1 (exec st ca a i).2.2.2 b (i + a.length) else exec st ca a i := by
  induction a generalizing st ca i with
  | nil => rw [List.nil_append, exec, if_pos rfl]; rfl
  | cons x r ih =>
    rw [List.cons_append, exec]
    conv => rhs; rw [exec]
    have e : i + (x :: r).length = i + 1 + r.length := by rw [List.length_cons]; omega
    rw [e]
    split
    · split
      · rw [ih]
      · rw [if_neg (by simp)]
    · split
      · rw [ih]
      · rw [if_neg (by simp)]
theorem exec_count {st : List Sect} {ca : List Ca} {a : List OpT} {i : Nat} (h : (exec st ca a i).2.1 = 0) : (exec st ca a i).1 = ((i + a.length : Nat) : Int) := by
  induction a generalizing st ca i with
  | nil => rfl
  | cons x r ih =>
    rw [exec] at h ⊢
    rw [List.length_cons]
    have e : i + (r.length + 1) = i + 1 + r.length := by omega
    rw [e]
    split
    · rename_i h0
      rw [if_pos h0] at h
      split
      · rename_i h1
        rw [if_pos h1] at h
        exact ih h
      · rename_i h1
        rw [if_neg h1] at h
        exact absurd h (by simp)
    · rename_i h0
      rw [if_neg h0] at h
      split
      · rename_i h1
        rw [if_pos h1] at h
        exact ih h
      · rename_i h1
        rw [if_neg h1] at h
        exact absurd h (by simp)
theorem exec_ok {st : List Sect} {ca : List Ca} {a : List OpT} {i : Nat} (hk : chkC st.length ca = 0) (h : (exec st ca a i).2.1 = 0) : (exec st ca a i).2.2.1.length = st.length ∧ chkC st.length (exec st ca a i).2.2.2 = 0 := by
  induction a generalizing st ca i with
  | nil => exact ⟨rfl, hk⟩
  | cons x r ih =>
    rw [exec] at h ⊢
    split
    · rename_i h0
      rw [if_pos h0] at h
      split
      · rename_i h1
        rw [if_pos h1] at h
        exact ih (chkC_app hk (chkC_put h1)) h
      · rename_i h1
        rw [if_neg h1] at h
        exact absurd h (by simp)
    · rename_i h0
      rw [if_neg h0] at h
      split
      · rename_i h1
        rw [if_pos h1] at h
        have := ih (st := newL st ca) (ca := []) rfl h
        rw [newL_len] at this
        exact this
      · rename_i h1
        rw [if_neg h1] at h
        exact absurd h (by simp)
theorem exec_like {st st' : List Sect} {ca ca' : List Ca} {a : List OpT} {i j : Nat} (hl : st.length = st'.length) : (exec st ca a i).2.1 = (exec st' ca' a j).2.1 := by
  induction a generalizing st st' ca ca' i j with
  | nil => rfl
  | cons x r ih =>
    rw [exec, exec, hl]
    split
    · split
      · exact ih hl
      · rfl
    · split
      · exact ih (by rw [newL_len, newL_len, hl])
      · rfl
theorem putL_range {a : Int} {l : List Sect} {q : Int} {s : Sect} (h : (q, s) ∈ putL a l) : a ≤ q ∧ q < a + l.length := by
  induction l generalizing a with
  | nil => cases h
  | cons x r ih =>
    rw [putL] at h
    rw [List.length_cons]
    rcases List.mem_cons.1 h with h | h
    · injection h with h1 h2
      omega
    · have := ih h
      omega
theorem newL_not {st : List Sect} {ca : List Ca} {p : Nat} (h0 : ∀ c ∈ ca, 0 ≤ c.1) (h : ∀ s, ((p : Int), s) ∉ ca) : (newL st ca)[p]? = st[p]? := by
  induction ca generalizing st with
  | nil => rfl
  | cons c r ih =>
    have e : newL st (c :: r) = newL (st.set c.1.toNat c.2) r := rfl
    rw [e, ih (fun c hc => h0 c (List.mem_cons_of_mem _ hc)) (fun s hs => h s (List.mem_cons_of_mem _ hs)), List.getElem?_set_ne]
    intro hp
    have h1 := h0 c (List.mem_cons_self ..)
    exact h c.2 (by rw [← hp, show ((c.1.toNat : Nat) : Int) = c.1 by omega]; exact List.mem_cons_self ..)
theorem exec_kept {st : List Sect} {ca : List Ca} {a : List OpT} {i p : Nat} (hw : ∀ x ∈ a, x.k = 0 → ¬(x.a ≤ (p : Int) ∧ (p : Int) < x.a + x.l.length)) (h0 : ∀ c ∈ ca, 0 ≤ c.1) (hc : ∀ s, ((p : Int), s) ∉ ca) (h : (exec st ca a i).2.1 = 0) : (exec st ca a i).2.2.1[p]? = st[p]? ∧ ∀ s, ((p : Int), s) ∉ (exec st ca a i).2.2.2 := by
  induction a generalizing st ca i with
  | nil => exact ⟨rfl, hc⟩
  | cons x r ih =>
    have hr := fun y hy => hw y (List.mem_cons_of_mem _ hy)
    rw [exec] at h ⊢
    split
    · rename_i hk
      rw [if_pos hk] at h
      split
      · rename_i h1
        rw [if_pos h1] at h
        have hx := of_decide_eq_true h1
        refine ih hr (fun c hc => ?_) (fun s hs => ?_) h
        · rcases List.mem_append.1 hc with hc | hc
          · exact h0 c hc
          · have := putL_range (q := c.1) (s := c.2) hc
            omega
        · rcases List.mem_append.1 hs with hs | hs
          · exact hc s hs
          · exact hw x (List.mem_cons_self ..) hk (putL_range hs)
      · rename_i h1
        rw [if_neg h1] at h
        exact absurd h (by simp)
    · rename_i hk
      rw [if_neg hk] at h
      split
      · rename_i h1
        rw [if_pos h1] at h
        have := ih (st := newL st ca) (ca := []) hr (fun c hc => absurd hc (by simp)) (fun s hs => absurd hs (by simp)) h
        rw [newL_not h0 hc] at this
        exact this
      · rename_i h1
        rw [if_neg h1] at h
        exact absurd h (by simp)
/-- The extents that operations write. -/
def wrl : List OpT → List (Int × Int)
  | [] => []
  | x :: r => if x.k = 0 then (x.a, (x.l.length : Int)) :: wrl r else wrl r
theorem wrl_snoc (a : List OpT) (x : OpT) : wrl (a ++ [x]) = if x.k = 0 then wrl a ++ [(x.a, (x.l.length : Int))] else wrl a := by
  induction a with
  | nil => rw [List.nil_append, wrl, wrl]; split <;> rfl
  | cons y r ih =>
    rw [List.cons_append, wrl, ih, wrl]
    split <;> split <;> rfl
theorem wrl_len (a : List OpT) : (wrl a).length ≤ a.length := by
  induction a with
  | nil => exact Nat.le_refl _
  | cons y r ih =>
    rw [wrl, List.length_cons]
    split
    · rw [List.length_cons]; omega
    · omega
theorem wrl_mem {a : List OpT} {x : OpT} (hx : x ∈ a) (hk : x.k = 0) : (x.a, (x.l.length : Int)) ∈ wrl a := by
  induction a with
  | nil => cases hx
  | cons y r ih =>
    rw [wrl]
    rcases List.mem_cons.1 hx with rfl | hx
    · rw [if_pos hk]
      exact List.mem_cons_self ..
    · split
      · exact List.mem_cons_of_mem _ (ih hx)
      · exact ih hx
/-- A run of operations in two parts; and behind a sync between them, with a crash at the end. -/
theorem divides (st : List Sect) (a b : List OpT) (sy : OpT) (hsy : sy.k = 1) (ch : List Int) (hn : st.length ≤ 4096) (h : (runS st [] (a ++ b)).2.1 = 0) :
    (runS st [] a).2.1 = 0 ∧ (runS st [] a).1 = (a.length : Int) ∧ (runS st [] a).2.2.1.length = st.length ∧ chkD st.length (runS st [] a).2.2.2 = 0 ∧ (runS st [] (a ++ b)).2.2.1.length = st.length ∧ (runS (runS st [] a).2.2.1 (runS st [] a).2.2.2 b).2.1 = 0 ∧ (runS (runS st [] a).2.2.1 (runS st [] a).2.2.2 b).2.2 = (runS st [] (a ++ b)).2.2 ∧
    ∃ ys yl, interS st [] (a ++ sy :: b) ((a ++ sy :: b).length : Nat) ch = (0, ys, [], yl) ∧ ys.length = st.length ∧ ∀ (p : Nat) (s : Sect), (∀ x ∈ b, x.k = 0 → ¬(x.a ≤ (p : Int) ∧ (p : Int) < x.a + x.l.length)) → ys[p]? = some s → (newL (runS st [] a).2.2.1 (runS st [] a).2.2.2)[p]? = some s := by
  have hk0 : chkD st.length [] = 0 := by unfold chkD; rw [if_neg (by omega)]; rfl
  have e0 : ∀ l, runS st [] l = exec st [] l 0 := fun l => by unfold runS; rw [if_pos hk0]
  rw [e0, e0] at *
  rw [exec_app] at h ⊢
  by_cases h1 : (exec st [] a 0).2.1 = 0
  · rw [if_pos h1] at h ⊢
    obtain ⟨hl, hc⟩ := exec_ok (st := st) (ca := []) rfl h1
    obtain ⟨s1, hs1⟩ : ∃ s, (exec st [] a 0).2.2.1 = s := ⟨_, rfl⟩
    obtain ⟨c1, hc1⟩ : ∃ s, (exec st [] a 0).2.2.2 = s := ⟨_, rfl⟩
    have hk1 : chkD s1.length c1 = 0 := by unfold chkD; rw [← hs1, hl, if_neg (by omega), ← hc1]; exact hc
    rw [hs1, hc1] at h ⊢
    rw [hs1] at hl
    rw [hc1] at hc
    have er : (exec s1 c1 b 0).2.1 = 0 := by rw [exec_like (st' := s1) (ca' := c1) (j := 0 + a.length) rfl]; exact h
    have e1 : runS s1 c1 b = exec s1 c1 b 0 := by unfold runS; rw [if_pos hk1]
    have hsame : ∀ (st : List Sect) (ca : List Ca) (b : List OpT) (i j : Nat), (exec st ca b i).2.2 = (exec st ca b j).2.2 := by
      intro st ca b
      induction b generalizing st ca with
      | nil => intro i j; rfl
      | cons x r ih =>
        intro i j
        rw [exec, exec]
        split
        · split
          · exact ih _ _ _ _
          · rfl
        · split
          · exact ih _ _ _ _
          · rfl
    refine ⟨h1, by rw [exec_count h1, Nat.zero_add], hl, by unfold chkD; rw [if_neg (by omega)]; exact hc, by rw [(exec_ok (by rw [hl]; exact hc) h).1, hl], by rw [e1]; exact er, by rw [e1]; exact hsame _ _ _ _ _, ?_⟩
    have en : (exec (newL s1 c1) [] b (0 + a.length + 1)).2.1 = 0 := by rw [exec_like (st' := s1) (ca' := c1) (j := 0 + a.length) (newL_len _ _)]; exact h
    have em : exec st [] (a ++ sy :: b) 0 = exec (newL s1 c1) [] b (0 + a.length + 1) := by
      rw [exec_app, if_pos h1, hs1, hc1, exec_sync hsy]
    obtain ⟨s2, hs2⟩ : ∃ s, (exec (newL s1 c1) [] b (0 + a.length + 1)).2.2.1 = s := ⟨_, rfl⟩
    obtain ⟨c2, hc2⟩ : ∃ s, (exec (newL s1 c1) [] b (0 + a.length + 1)).2.2.2 = s := ⟨_, rfl⟩
    obtain ⟨hl2, hk2⟩ := exec_ok (st := newL s1 c1) (ca := []) rfl en
    rw [newL_len, hl, hs2] at hl2
    rw [newL_len, hl, hc2] at hk2
    refine ⟨(crs c2 (keysL s2.length c2) s2 ch).1, (crs c2 (keysL s2.length c2) s2 ch).2, ?_, by rw [crs_len, hl2], ?_⟩
    · unfold interS
      rw [if_neg (by omega), Int.toNat_natCast, List.take_length, e0, em, if_neg (by rw [en]; decide), hs2, hc2]
      unfold crashS
      rw [if_pos (by unfold chkD; rw [if_neg (by omega), hl2]; exact hk2)]
    · intro p s hp hs
      obtain ⟨k1, k2⟩ := exec_kept (st := newL s1 c1) (ca := []) (i := 0 + a.length + 1) hp (fun c hc => absurd hc (by simp)) (fun s hs => absurd hs (by simp)) en
      rw [hs2] at k1
      rw [hc2] at k2
      rcases crs_get _ _ _ _ _ _ (fun κ hκ => (keysL_mem hκ).1) hs with h3 | h3
      · rw [← k1]; exact h3
      · exact absurd h3 (k2 s)
  · rw [if_neg h1] at h
    exact absurd h h1
end Go.Proofs.Ytoefbgkeinhibaa
