/- Union, Intersect, Subtract, Complement, Normalize, Count of package extent. -/
import Derived.Test.YtkchenhkolpinaaG
namespace Go.Proofs.Ytkchenhkolpinaa
open Go.RowKit Go.Shelf
attribute [local go_sem] Oper.semAt_some

theorem belongs40 : Belongs 40 (fun p q => p || q) := by
  intro p q W
  cases p <;> cases q <;> (go_enter Try.func40, Try.ntmps40; go_wp2; go_ret; exact ⟨rfl, rfl⟩)
theorem belongs41 : Belongs 41 (fun p q => p && q) := by
  intro p q W
  cases p <;> cases q <;> (go_enter Try.func41, Try.ntmps41; go_wp2; go_ret; exact ⟨rfl, rfl⟩)
theorem belongs42 : Belongs 42 (fun p q => p && !q) := by
  intro p q W
  cases p <;> cases q <;> (go_enter Try.func42, Try.ntmps42; go_wp2; go_ret; exact ⟨rfl, rfl⟩)
theorem belongs51 : Belongs 51 (fun p _ => p) := by
  intro p q W
  cases p <;> cases q <;> (go_enter Try.func51, Try.ntmps51; go_wp2; go_ret; exact ⟨rfl, rfl⟩)

/-- A result that is the canonical list of the sectors for which p is true. -/
def Made (w : World) (p : Int → Bool) (e : Ending) (w' : World) : Prop := ∃ v l, e = .returned v ∧ Canon 0 l ∧ (∀ x, mem l x = p x) ∧ Ext w' v l ∧ Below w.heap.size w w'

theorem below_both {w w1 w2 : World} (h : Below w.heap.size w w1) (k : Below w1.heap.size w1 w2) : Below w.heap.size w w2 := h.trans (k.mono h.size)

theorem union_any (a c : List (Int × Int)) (va vc : Value) (w : World) (ha : Ext w va a) (hc : Ext w vc c) (la : a.length ≤ 10000) (lc : c.length ≤ 10000) :
    Calls Try.prog 19 #[va, vc] w (Made w fun x => mem a x || mem c x) := by
  have hs := sweep_it a c va vc 40 _ w rfl belongs40 (enters_of Try.func40 (by kernel_rfl) rfl) ha hc la lc
  obtain ⟨A, ca, hva⟩ : ∃ A ca, va = .slice A a.length ca := by obtain ⟨_, A, ca, h, _⟩ := ha; exact ⟨A, ca, h⟩
  obtain ⟨C, cc, hvc⟩ : ∃ C cc, vc = .slice C c.length cc := by obtain ⟨_, A, ca, h, _⟩ := hc; exact ⟨A, ca, h⟩
  subst hva hvc
  have HS := hid hs
  clear hs
  go_enter Try.func19, Try.ntmps19
  go_wp2_with (first | (go_at_call 39; refine HS.out.mono ?_; rintro e w1 ⟨fv, rfl, hit, hb1⟩) | (go_at_call 38; refine (collect_any _ _ _ _ hit).mono ?_; rintro e w2 ⟨v, l, rfl, h1, h2, h3, h4⟩))
  go_ret
  exact ⟨v, l, rfl, h1, h2, h3, below_both hb1 h4⟩

theorem intersect_any (a c : List (Int × Int)) (va vc : Value) (w : World) (ha : Ext w va a) (hc : Ext w vc c) (la : a.length ≤ 10000) (lc : c.length ≤ 10000) :
    Calls Try.prog 21 #[va, vc] w (Made w fun x => mem a x && mem c x) := by
  have hs := sweep_it a c va vc 41 _ w rfl belongs41 (enters_of Try.func41 (by kernel_rfl) rfl) ha hc la lc
  obtain ⟨A, ca, hva⟩ : ∃ A ca, va = .slice A a.length ca := by obtain ⟨_, A, ca, h, _⟩ := ha; exact ⟨A, ca, h⟩
  obtain ⟨C, cc, hvc⟩ : ∃ C cc, vc = .slice C c.length cc := by obtain ⟨_, A, ca, h, _⟩ := hc; exact ⟨A, ca, h⟩
  subst hva hvc
  have HS := hid hs
  clear hs
  go_enter Try.func21, Try.ntmps21
  go_wp2_with (first | (go_at_call 39; refine HS.out.mono ?_; rintro e w1 ⟨fv, rfl, hit, hb1⟩) | (go_at_call 38; refine (collect_any _ _ _ _ hit).mono ?_; rintro e w2 ⟨v, l, rfl, h1, h2, h3, h4⟩))
  go_ret
  exact ⟨v, l, rfl, h1, h2, h3, below_both hb1 h4⟩

theorem subtract_any (a c : List (Int × Int)) (va vc : Value) (w : World) (ha : Ext w va a) (hc : Ext w vc c) (la : a.length ≤ 10000) (lc : c.length ≤ 10000) :
    Calls Try.prog 23 #[va, vc] w (Made w fun x => mem a x && !mem c x) := by
  have hs := sweep_it a c va vc 42 _ w rfl belongs42 (enters_of Try.func42 (by kernel_rfl) rfl) ha hc la lc
  obtain ⟨A, ca, hva⟩ : ∃ A ca, va = .slice A a.length ca := by obtain ⟨_, A, ca, h, _⟩ := ha; exact ⟨A, ca, h⟩
  obtain ⟨C, cc, hvc⟩ : ∃ C cc, vc = .slice C c.length cc := by obtain ⟨_, A, ca, h, _⟩ := hc; exact ⟨A, ca, h⟩
  subst hva hvc
  have HS := hid hs
  clear hs
  go_enter Try.func23, Try.ntmps23
  go_wp2_with (first | (go_at_call 39; refine HS.out.mono ?_; rintro e w1 ⟨fv, rfl, hit, hb1⟩) | (go_at_call 38; refine (collect_any _ _ _ _ hit).mono ?_; rintro e w2 ⟨v, l, rfl, h1, h2, h3, h4⟩))
  go_ret
  exact ⟨v, l, rfl, h1, h2, h3, below_both hb1 h4⟩

theorem ext_nil (w : World) : Ext w (.slice none 0 0) [] := ⟨(fun e h => by cases h), none, 0, rfl, Nat.le_refl _, by unfold maxLen; omega, 0, 0, fun h => absurd h (by simp), fun i e h => by simp at h⟩

theorem canonical_any (a : List (Int × Int)) (va : Value) (w : World) (ha : Ext w va a) (la : a.length ≤ 10000) :
    Calls Try.prog 43 #[va] w fun e w' => ∃ fv, e = .returned fv ∧ ItV w.heap.size w' fv (fun x => mem a x) ∧ Below w.heap.size w w' := by
  have hs := sweep_it a [] va _ 51 _ w rfl belongs51 (enters_of Try.func51 (by kernel_rfl) rfl) ha (ext_nil w) la (by simp)
  obtain ⟨A, ca, hva⟩ : ∃ A ca, va = .slice A a.length ca := by obtain ⟨_, A, ca, h, _⟩ := ha; exact ⟨A, ca, h⟩
  subst hva
  have HS := hid hs
  clear hs
  go_enter Try.func43, Try.ntmps43
  go_wp2_with (go_at_call 39; refine HS.out.mono ?_; rintro e w1 ⟨fv, rfl, hit, hb1⟩)
  go_ret
  exact ⟨fv, rfl, hit, hb1⟩

theorem complement_any (a : List (Int × Int)) (va : Value) (size : Int) (w : World) (ha : Ext w va a) (la : a.length ≤ 10000) (hs : R64 size) :
    Calls Try.prog 27 #[va, .int .i64 size] w (Made w fun x => inE (0, size) x && !mem a x) := by
  have hb44 := fun W => build44 0 size W
  have hB : Below w.heap.size w (w.alloc (.cells #[.int .i64 0, .int .i64 size] 44)) := (Below.refl _ w).alloc (Nat.le_refl _) _
  have hx : Ext (w.alloc (.cells #[.int .i64 0, .int .i64 size] 44)) (.slice (some ⟨w.heap.size, 0, none⟩) 1 1) [(0, size)] := by
    refine ⟨fun e he => ?_, some ⟨w.heap.size, 0, none⟩, 1, rfl, Nat.le_refl _, by unfold maxLen; omega, w.heap.size, 0, fun _ => ⟨rfl, by simp⟩, fun i e hi => ?_⟩
    · simp at he; subst he; exact ⟨by unfold R64; omega, hs⟩
    · have hi0 : i = 0 := by have := (List.getElem?_eq_some_iff.1 hi).1; simp at this; omega
      subst hi0
      simp at hi
      subst hi
      exact ⟨cell_of_row _ _ _ _ _ _ (heap_alloc_new w _), cell_of_row _ _ _ _ _ _ (heap_alloc_new w _)⟩
  have hc := subtract_any [(0, size)] a _ _ _ hx (ha.below hB) (by simp) la
  have HC := hid hc
  obtain ⟨A, ca, hva⟩ : ∃ A ca, va = .slice A a.length ca := by obtain ⟨_, A, ca, h, _⟩ := ha; exact ⟨A, ca, h⟩
  subst hva
  clear hc hx
  go_enter Try.func27, Try.ntmps27
  go_wp2_with (go_at_call 23; refine HC.out.mono ?_; rintro e w1 ⟨v, l, rfl, h1, h2, h3, h4⟩)
  go_ret
  exact ⟨v, l, rfl, h1, fun x => by rw [h2 x]; simp [mem], h3, below_both hB h4⟩
end Go.Proofs.Ytkchenhkolpinaa
