/- Union, Intersect, Subtract, Complement, Normalize, Count of package extent. -/
import Derived.Test.YtoefbgkeinhibaaXG
namespace Go.Proofs.Ytoefbgkeinhibaa.Xt
open Go.RowKit Go.Shelf
attribute [local go_sem] Oper.semAt_some

theorem belongs64 : Belongs 64 (fun p q => p || q) := by
  intro p q W
  cases p <;> cases q <;> (go_enter Try.func64, Try.ntmps64; go_wp2; go_ret; exact ⟨rfl, rfl⟩)
/-- A result that is the canonical list of the sectors for which p is true. -/
def Made (w : World) (p : Int → Bool) (e : Ending) (w' : World) : Prop := ∃ v l, e = .returned v ∧ Canon 0 l ∧ (∀ x, mem l x = p x) ∧ Ext w' v l ∧ Below w.heap.size w w'

theorem below_both {w w1 w2 : World} (h : Below w.heap.size w w1) (k : Below w1.heap.size w1 w2) : Below w.heap.size w w2 := h.trans (k.mono h.size)

theorem union_any (a c : List (Int × Int)) (va vc : Value) (w : World) (ha : Ext w va a) (hc : Ext w vc c) (la : a.length ≤ 10000) (lc : c.length ≤ 10000) :
    Calls Try.prog 49 #[va, vc] w (Made w fun x => mem a x || mem c x) := by
  have hs := sweep_it a c va vc 64 _ w rfl belongs64 (enters_of Try.func64 (by kernel_rfl) rfl) ha hc la lc
  obtain ⟨A, ca, hva⟩ : ∃ A ca, va = .slice A a.length ca := by obtain ⟨_, A, ca, h, _⟩ := ha; exact ⟨A, ca, h⟩
  obtain ⟨C, cc, hvc⟩ : ∃ C cc, vc = .slice C c.length cc := by obtain ⟨_, A, ca, h, _⟩ := hc; exact ⟨A, ca, h⟩
  subst hva hvc
  have HS := hid hs
  clear hs
  go_enter Try.func49, Try.ntmps49
  go_wp2_with (first | (go_at_call 63; refine HS.out.mono ?_; rintro e w1 ⟨fv, rfl, hit, hb1⟩) | (go_at_call 62; refine (collect_any _ _ _ _ hit).mono ?_; rintro e w2 ⟨v, l, rfl, h1, h2, h3, h4⟩))
  go_ret
  exact ⟨v, l, rfl, h1, h2, h3, below_both hb1 h4⟩

theorem ext_nil (w : World) : Ext w (.slice none 0 0) [] := ⟨(fun e h => by cases h), none, 0, rfl, Nat.le_refl _, by unfold maxLen; omega, 0, 0, fun h => absurd h (by simp), fun i e h => by simp at h⟩

end Go.Proofs.Ytoefbgkeinhibaa.Xt
