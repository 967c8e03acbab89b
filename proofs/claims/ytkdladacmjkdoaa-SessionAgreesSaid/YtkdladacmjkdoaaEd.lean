/- Steps on lists: what an end in order becomes. -/
import Derived.Test.YtkdladacmjkdoaaEc
namespace Go.Proofs.Ytkdladacmjkdoaa
open Go.RowKit Go.Lib
theorem chk_mk6 {l r e n p d : Int} (h1 : 0 ≤ l ∧ l < 4) (h2 : 0 ≤ r ∧ r < 4) (h3 : l ≠ r) (h4 : 0 ≤ e ∧ e ≤ 1073741824) (h5 : 0 ≤ n ∧ n ≤ 1073741824) (h6 : p = 0 ∨ p = 1 ∨ p = 2) (h7 : 0 ≤ d ∧ d ≤ 1073741824) (h8 : p = 1 ∨ d = 0) : chk ⟨l, r, e, n, p, d⟩ = 0 := by
  unfold chk siteB timeB
  simp only [Bool.and_eq_false_iff, decide_eq_false_iff_not]
  rw [if_neg (by omega), if_neg h3, if_neg (by omega), if_neg (by omega), if_neg (by omega)]
theorem dial_ok {s : Ses} {now : Int} (h : chk s = 0) (hn : 0 ≤ now ∧ now ≤ 1000) (he : (dialR s now 3).2.2 = 0) : chk (dialR s now 3).1 = 0 := by
  obtain ⟨o1, o2, o3, o4, o5, o6, o7, o8⟩ := chk_ok h
  unfold dialR at he ⊢
  rw [if_pos h] at he ⊢
  split
  · rename_i hp
    rw [if_pos hp] at he
    cases he
  · rename_i hp
    rw [if_neg hp] at he
    split
    · rename_i ht
      rw [if_pos ht] at he
      cases he
    · rename_i ht
      rw [if_neg ht] at he
      split
      · rename_i hm
        rw [if_pos hm] at he
        cases he
      · exact chk_mk6 o1 o2 o3 o4 (by omega) (by omega) (by omega) (by omega)
theorem exp_ok {s : Ses} {now : Int} (h : chk s = 0) (hn : 0 ≤ now ∧ now ≤ 1000) : chk (expR s now 3).1 = 0 := by
  obtain ⟨o1, o2, o3, o4, o5, o6, o7, o8⟩ := chk_ok h
  unfold expR
  split
  · split
    · exact chk_mk6 o1 o2 o3 o4 o5 (by omega) (by omega) (by omega)
    · exact chk_mk6 o1 o2 o3 o4 o5 (by omega) (by omega) (by omega)
  · exact h
theorem close_ok {s : Ses} (h : chk s = 0) : chk (closeR s).1 = 0 := by
  obtain ⟨o1, o2, o3, o4, o5, o6, o7, o8⟩ := chk_ok h
  unfold closeR
  split
  · exact chk_mk6 o1 o2 o3 o4 o5 (by omega) (by omega) (by omega)
  · exact h
theorem act_ok {s : Ses} {k x : Int} (h : chk s = 0) (hx : 0 ≤ x ∧ x ≤ 1073741824) : chk (actR k s x).1 = 0 := by
  obtain ⟨o1, o2, o3, o4, o5, o6, o7, o8⟩ := chk_ok h
  unfold actR helloR welcomeR resetR
  (repeat' split) <;> first | exact h | exact chk_mk6 o1 o2 o3 o4 (by omega) (by omega) (by omega) (by omega)
theorem rec_ok {s : Ses} {m : Mes} (h : chk s = 0) : chk (recR s m).1 = 0 := by
  obtain ⟨o1, o2, o3, o4, o5, o6, o7, o8⟩ := chk_ok h
  unfold recR
  split
  · rename_i hg
    have te := timeB_true hg.2.2.2.2.1
    have tn := timeB_true hg.2.2.2.2.2
    split
    · split <;> exact h
    · refine act_ok ?_ tn
      split
      · exact chk_mk6 o1 o2 o3 te o5 (by omega) (by omega) (by omega)
      · exact h
  · exact h
theorem actS_ok {s : Ses} {sent : List Mes} {q wh now : Int} (h : chk s = 0) (hn : 0 ≤ now ∧ now ≤ 1000) : chk (actS s sent q wh now).1 = 0 := by
  unfold actS
  split
  · split
    · rename_i he
      exact dial_ok h hn he
    · exact h
  · split
    · exact exp_ok h hn
    · split
      · exact close_ok h
      · split
        · exact rec_ok h
        · exact h
theorem actS_len (s : Ses) (sent : List Mes) (q wh now : Int) : (actS s sent q wh now).2.length ≤ 1 := by
  unfold actS
  split
  · split
    · exact dialR_len s now 3
    · simp
  · split
    · exact expR_len s now 3
    · split
      · exact closeR_len s
      · split
        · exact recR_len s _
        · simp
theorem stpR_ok {a b : Ses} {sent : List Mes} {q wh now : Int} {ot : Bool} (ha : chk a = 0) (hb : chk b = 0) (hn : 0 ≤ now ∧ now ≤ 1000) :
    chk (stpR a b sent q ot wh now).1 = 0 ∧ chk (stpR a b sent q ot wh now).2.1 = 0 ∧ (stpR a b sent q ot wh now).2.2.length ≤ sent.length + 1 := by
  unfold stpR
  cases ot
  · have := actS_len a sent q wh now
    exact ⟨actS_ok ha hn, hb, by simp; omega⟩
  · have := actS_len b sent q wh now
    exact ⟨ha, actS_ok hb hn, by simp; omega⟩
theorem acc_own {s : Ses} {x y : Int} (h : chk s = 0) : (accR s (s.n + x) (s.e + y) == 0) = (s.p == 2 && (x == 0 && y == 0)) := by
  have ho : accR s (s.n + x) (s.e + y) = 0 ↔ (s.p = 2 ∧ x = 0 ∧ y = 0) := by
    unfold accR
    rw [if_pos h]
    (repeat' split) <;> first | omega | (constructor <;> omega)
  rw [Bool.eq_iff_iff]
  simp only [beq_iff_eq, Bool.and_eq_true]
  exact ho
end Go.Proofs.Ytkdladacmjkdoaa
