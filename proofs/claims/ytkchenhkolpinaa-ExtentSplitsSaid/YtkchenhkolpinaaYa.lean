/- What the laws that compare with the reference need. -/
import Derived.Test.YtkchenhkolpinaaU
import Derived.Test.YtkchenhkolpinaaZ
namespace Go.Proofs.Ytkchenhkolpinaa
open Go.RowKit

theorem same_true (l : List (Int × Int)) (v u : Value) (w : World) (hv : Ext w v l) (hu : Ext w u l) (hl : l.length ≤ 10000) :
    Calls Try.prog 18 #[v, u] w fun e w' => e = .returned (.bool true) ∧ Below w.heap.size w w' := by
  refine (same_any l l v u w hv hu hl hl).mono ?_
  rintro e w' ⟨rfl, hb⟩
  exact ⟨ret_bool (by simp), hb⟩
theorem made2_eq {l1 l2 : List (Int × Int)} {err : Int} {p : Int → Bool} (h1 : if err = 0 then Canon 0 l1 ∧ ∀ x, mem l1 x = p x else l1 = []) (h2 : if err = 0 then Canon 0 l2 ∧ ∀ x, mem l2 x = p x else l2 = []) : l1 = l2 ∧ l1.length ≤ 2049 := by
  by_cases h : err = 0
  · rw [if_pos h] at h1 h2
    exact ⟨canon_ext (Int.le_refl _) h1.1 h2.1 (fun x => (h1.2 x).trans (h2.2 x).symm), len_of_canon h1.1⟩
  · rw [if_neg h] at h1 h2
    rw [h1, h2]
    exact ⟨rfl, by simp⟩
def SplitOf (a : List (Int × Int)) (most : Int) (L : List (Int × Int)) : Prop := ∃ l, Canon 0 l ∧ (0 < most → ∀ x, mem l x = mem a x) ∧ L = if most ≤ 0 then [] else splitL most l
theorem SplitOf.same {a : List (Int × Int)} {most : Int} {L M : List (Int × Int)} (h1 : SplitOf a most L) (h2 : SplitOf a most M) : L = M ∧ L.length ≤ 4096 := by
  obtain ⟨l, c1, m1, rfl⟩ := h1
  obtain ⟨m, c2, m2, rfl⟩ := h2
  by_cases h : most ≤ 0
  · rw [if_pos h, if_pos h]
    exact ⟨rfl, by simp⟩
  · rw [if_neg h, if_neg h]
    have := canon_ext (Int.le_refl _) c1 c2 (fun x => (m1 (by omega) x).trans (m2 (by omega) x).symm)
    subst this
    have h3 := splitL_length (most := most) (by omega) c1
    have h4 := (cnt_range c1).2
    exact ⟨rfl, by omega⟩
def splitErr (most : Int) : Int := if most ≤ 0 then 1 else 0
theorem split_err (most : Int) : splitErr most = 1 ∨ splitErr most = 0 := by
  unfold splitErr
  by_cases h : most ≤ 0
  · rw [if_pos h]; exact .inl rfl
  · rw [if_neg h]; exact .inr rfl
theorem split_say {f : Nat} {args : Array Value} {w : World} {a : List (Int × Int)} {most : Int} (h : Calls Try.prog f args w fun e w' => ∃ v l, e = .returned (.tuple #[v, .int .i64 (if most ≤ 0 then 1 else 0)]) ∧ Canon 0 l ∧ (0 < most → ∀ x, mem l x = mem a x) ∧ Ext w' v (if most ≤ 0 then [] else splitL most l) ∧ Below w.heap.size w w') :
    Calls Try.prog f args w fun e w' => ∃ v L, e = .returned (.tuple #[v, .int .i64 (splitErr most)]) ∧ SplitOf a most L ∧ Ext w' v L ∧ Below w.heap.size w w' :=
  h.mono fun _ _ ⟨v, l, he, hc, hm, hx, hb⟩ => ⟨v, _, he, ⟨l, hc, hm, rfl⟩, hx, hb⟩
end Go.Proofs.Ytkchenhkolpinaa
