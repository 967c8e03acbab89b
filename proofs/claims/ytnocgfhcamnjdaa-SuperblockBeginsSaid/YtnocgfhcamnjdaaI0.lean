/- Sectors stored cell by cell, on lists. -/
import Derived.Test.YtnocgfhcamnjdaaG
namespace Go.Proofs.Ytnocgfhcamnjdaa
open Go.RowKit Go.Lib

theorem set_at_add {α : Type} (P Q : List α) (j : Nat) (v : α) : (P ++ Q).set (P.length + j) v = P ++ Q.set j v := by
  rw [List.set_append_right _ _ (Nat.le_add_right _ _), Nat.add_sub_cancel_left]
theorem set8 {α : Type} (F : List α) (o : Nat) (h : o + 8 ≤ F.length) (v0 v1 v2 v3 v4 v5 v6 v7 : α) :
    ((((((((F.set o v0).set (o + 1) v1).set (o + 2) v2).set (o + 3) v3).set (o + 4) v4).set (o + 5) v5).set (o + 6) v6).set (o + 7) v7) = F.take o ++ [v0, v1, v2, v3, v4, v5, v6, v7] ++ F.drop (o + 8) := by
  obtain ⟨P, hP⟩ : ∃ P, F.take o = P := ⟨_, rfl⟩
  obtain ⟨Q, hQ⟩ : ∃ Q, F.drop o = Q := ⟨_, rfl⟩
  have hF : F = P ++ Q := by rw [← hP, ← hQ, List.take_append_drop]
  have hl : P.length = o := by rw [← hP, List.length_take]; omega
  have hq : 8 ≤ Q.length := by rw [← hQ, List.length_drop]; omega
  have hd : F.drop (o + 8) = Q.drop 8 := by rw [← hQ, List.drop_drop]
  rw [hP, hd, hF]
  clear hP hQ hF hd h
  subst hl
  match Q, hq with
  | a0 :: a1 :: a2 :: a3 :: a4 :: a5 :: a6 :: a7 :: R, _ =>
    have e0 := set_at_add P (a0 :: a1 :: a2 :: a3 :: a4 :: a5 :: a6 :: a7 :: R) 0 v0
    rw [Nat.add_zero] at e0
    rw [e0, set_at_add, set_at_add, set_at_add, set_at_add, set_at_add, set_at_add, set_at_add]
    simp
theorem win_set {α : Type} (l : List α) (a s m : Nat) (x : α) (h : s ≤ a ∧ a < s + m) : ((l.set a x).drop s).take m = ((l.drop s).take m).set (a - s) x := by
  rw [List.drop_set, if_neg (by omega), List.take_set]
theorem win_out {α : Type} (l : List α) (a s m : Nat) (x : α) (h : ¬ (s ≤ a ∧ a < s + m)) : ((l.set a x).drop s).take m = (l.drop s).take m := by
  rw [List.drop_set]
  split
  · rfl
  · rw [List.take_set, List.set_eq_of_length_le]
    rw [List.length_take]
    omega
theorem win_secs {l : List Sect} (h : Secs l) (s m : Nat) : Secs ((l.drop s).take m) := fun x hx => h x (List.mem_of_mem_drop (List.mem_of_mem_take hx))
end Go.Proofs.Ytnocgfhcamnjdaa
