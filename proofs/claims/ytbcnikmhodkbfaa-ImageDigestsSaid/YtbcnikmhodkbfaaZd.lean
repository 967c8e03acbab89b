/- Writes, sector by sector: what the last one gives. -/
import Derived.Test.YtbcnikmhodkbfaaZc
namespace Go.Proofs.Ytbcnikmhodkbfaa
open Go.RowKit Go.Lib

/-- What a write makes of sector s of volume v. -/
def stepW (v s : Nat) (c : Sect) (x : Wri) : Sect := if x.v = (v : Int) ∧ x.s ≤ (s : Int) ∧ (s : Int) - x.s < (x.l.length : Int) then (x.l[((s : Int) - x.s).toNat]?).getD [] else c
theorem spl_at {l d : List Sect} {s k : Nat} (h : s + d.length ≤ l.length) : (spl l s d)[k]? = if s ≤ k ∧ k < s + d.length then d[k - s]? else l[k]? := by
  unfold spl
  by_cases h1 : k < s
  · rw [if_neg (by omega), List.append_assoc, List.getElem?_append_left (by rw [List.length_take]; omega), List.getElem?_take, if_pos h1]
  · by_cases h2 : k < s + d.length
    · rw [if_pos ⟨by omega, h2⟩, List.append_assoc, List.getElem?_append_right (by rw [List.length_take]; omega), List.getElem?_append_left (by rw [List.length_take]; omega), List.length_take, Nat.min_eq_left (by omega)]
    · rw [if_neg (by omega), List.getElem?_append_right (by rw [List.length_append, List.length_take]; omega), List.getElem?_drop, List.length_append, List.length_take, Nat.min_eq_left (by omega)]
      congr 1
      omega
theorem app1_at {L : List (List Sect)} {x : Wri} (h : fitE L x.v x.s x.l.length = 0) {v s : Nat} {c : Sect} (hc : (L.getD v [])[s]? = some c) : ((app1 L x.v.toNat x.s.toNat x.l).getD v [])[s]? = some (stepW v s c x) := by
  obtain ⟨_, h1, h2, h3, h4, h5⟩ := fit_ok h
  obtain ⟨xv, xs', xd, xl⟩ := x
  dsimp only at *
  obtain ⟨vn, rfl⟩ := Int.eq_ofNat_of_zero_le h1
  obtain ⟨sn, rfl⟩ := Int.eq_ofNat_of_zero_le h4
  rw [Int.toNat_natCast] at h5 ⊢
  rw [Int.toNat_natCast]
  unfold app1 stepW
  dsimp only
  rw [List.getD_eq_getElem?_getD, List.getElem?_set]
  by_cases hv : vn = v
  · subst hv
    rw [if_pos rfl, if_pos (by omega), Option.getD_some, spl_at (by omega)]
    by_cases hs : sn ≤ s ∧ s < sn + xl.length
    · rw [if_pos hs, if_pos ⟨rfl, by omega, by omega⟩, show ((s : Int) - (sn : Int)).toNat = s - sn by omega, List.getElem?_eq_getElem (show s - sn < xl.length by omega), Option.getD_some]
    · rw [if_neg hs, if_neg (by omega), hc]
  · rw [if_neg hv, if_neg (by omega), ← List.getD_eq_getElem?_getD, hc]
theorem appW_at : ∀ {ws : List Wri} {L L' : List (List Sect)} {i : Nat}, appW L ws i = .ok L' → ∀ {v s : Nat} {c : Sect}, (L.getD v [])[s]? = some c → (L'.getD v [])[s]? = some (ws.foldl (stepW v s) c) := by
  intro ws
  induction ws with
  | nil =>
    intro L L' i h v s c hc
    injection h with h
    subst h
    exact hc
  | cons x t ih =>
    intro L L' i h v s c hc
    unfold appW at h
    split at h
    · cases h
    · rename_i h0
      exact ih h (app1_at (Classical.not_not.1 h0) hc)
theorem appW_ok : ∀ {ws : List Wri} {L L' : List (List Sect)} {i : Nat}, appW L ws i = .ok L' → siz L' = siz L ∧ ∀ x ∈ ws, 0 ≤ x.v ∧ 0 ≤ x.s ∧ x.s + x.l.length ≤ 4096 := by
  intro ws
  induction ws with
  | nil =>
    intro L L' i h
    injection h with h
    subst h
    exact ⟨rfl, fun x hx => by cases hx⟩
  | cons x t ih =>
    intro L L' i h
    unfold appW at h
    split at h
    · cases h
    · rename_i h0
      obtain ⟨hk, h1, h2, h3, h4, h5⟩ := fit_ok (Classical.not_not.1 h0)
      obtain ⟨i1, i2⟩ := ih h
      have hle : (L.getD x.v.toNat []).length ≤ 4096 := by
        rw [List.getD_eq_getElem?_getD, List.getElem?_eq_getElem (show x.v.toNat < L.length by omega), Option.getD_some]
        exact ((chk_ok hk).2.2 _ (List.getElem_mem _)).2
      refine ⟨?_, fun y hy => ?_⟩
      · rw [i1]
        exact siz_app1 (by omega)
      · rcases List.mem_cons.1 hy with rfl | hy
        · exact ⟨h1, h4, by omega⟩
        · exact i2 y hy
theorem appM_ok {L L' : List (List Sect)} {ws : List Wri} (h : appM L ws = .ok L') : chkS (siz L) = 0 ∧ appW L ws 0 = .ok L' := by
  unfold appM at h
  split at h
  · cases h
  · rename_i h0
    exact ⟨Classical.not_not.1 h0, h⟩
theorem siz_getD {L M : List (List Sect)} (h : siz L = siz M) (v : Nat) : (L.getD v []).length = (M.getD v []).length := by
  have h3 := congrArg (fun l => l[v]?) h
  unfold siz at h3
  simp only [List.getElem?_map] at h3
  rw [List.getD_eq_getElem?_getD, List.getD_eq_getElem?_getD]
  cases hL : L[v]? <;> cases hM : M[v]? <;> rw [hL, hM] at h3 <;> simp at h3 ⊢
  omega
theorem stepW_len {v s : Nat} {c : Sect} {x : Wri} (hc : c.length = 8) (hx : Secs x.l) : (stepW v s c x).length = 8 := by
  unfold stepW
  split
  · rename_i h
    rw [List.getElem?_eq_getElem (show ((s : Int) - x.s).toNat < x.l.length by omega), Option.getD_some]
    exact (hx _ (List.getElem_mem _)).1
  · exact hc
theorem foldW_snoc {ws : List Wri} {j v s : Nat} {c : Sect} {x : Wri} (hx : ws[j]? = some x) : (ws.take (j + 1)).foldl (stepW v s) c = stepW v s ((ws.take j).foldl (stepW v s) c) x := by
  rw [take_snoc hx, List.foldl_append]
  rfl
/-- A row of eight cells, stored over one by one. -/
theorem row8 {w : World} {g : Nat} {s : Sect} {x0 x1 x2 x3 x4 x5 x6 x7 : Value} (h : w.heap[g]? = some (.cells (cSec s).toArray 58 (0, 0))) (hs : s.length = 8) :
    ((((((((w.setCell ⟨g, 0, none⟩ x0).setCell ⟨g, 1, none⟩ x1).setCell ⟨g, 2, none⟩ x2).setCell ⟨g, 3, none⟩ x3).setCell ⟨g, 4, none⟩ x4).setCell ⟨g, 5, none⟩ x5).setCell ⟨g, 6, none⟩ x6).setCell ⟨g, 7, none⟩ x7).heap[g]? = some (.cells [x0, x1, x2, x3, x4, x5, x6, x7].toArray 58 (0, 0)) := by
  obtain ⟨y0, y1, y2, y3, y4, y5, y6, y7, rfl⟩ := list8 hs
  exact row_set (row_set (row_set (row_set (row_set (row_set (row_set (row_set h x0) x1) x2) x3) x4) x5) x6) x7
theorem appW_err : ∀ {ws : List Wri} {L : List (List Sect)} {i k : Nat} {e : Int}, appW L ws i = .error (k, e) → e ≠ 0 := by
  intro ws
  induction ws with
  | nil => intro L i k e h; cases h
  | cons x t ih =>
    intro L i k e h
    unfold appW at h
    split at h
    · rename_i h0
      injection h with h
      injection h with _ h
      rw [← h]
      exact h0
    · exact ih h
theorem appM_err {L : List (List Sect)} {ws : List Wri} {k : Nat} {e : Int} (h : appM L ws = .error (k, e)) : e ≠ 0 := by
  unfold appM at h
  split at h
  · rename_i h0
    injection h with h
    injection h with _ h
    rw [← h]
    exact h0
  · exact appW_err h
end Go.Proofs.Ytbcnikmhodkbfaa
