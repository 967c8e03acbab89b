/- A map of the sectors that have been seen. -/
import Derived.Test.YtoefbgkeinhibaaWc
import Derived.Maps.OwnSet
namespace Go.Proofs.Ytoefbgkeinhibaa
open Go.RowKit Go.Lib Go.Maps
set_option maxRecDepth 100000 in
theorem sn_law3 : Keyed Try.prog 3 := int_keyed Try.underlying3
set_option maxRecDepth 100000 in
theorem sn_key3 {n : Int} (h : R64 n) : keyOf Try.prog 3 (.int .i64 n) = some (.int .i64 n) := keyOf_int_mk Try.underlying3 (WalkArith.wf_i64 h)
set_option maxRecDepth 100000 in
theorem sn_inv {H : Type} {v : Value} {z : DataW H × List MemPlace} (h : plainElem Try.prog 4 v = some z) : ∃ b, v = .bool b ∧ z = (.lit (.bool b), []) := by
  unfold plainElem at h
  rw [Try.underlying4] at h
  cases v <;> simp at h
  exact ⟨_, rfl, h.symm⟩
/-- Numbers, as a map reads. -/
def snD (l : List Int) : DataW Unit := l.foldl (fun D e => D.put (.int .i64 e) (.lit (.bool true))) (.map [])
def snB (l : List Int) (n : Int) : Bool := l.any fun x => decide (x = n)
theorem snD_snoc (l : List Int) (e : Int) : snD (l ++ [e]) = (snD l).put (.int .i64 e) (.lit (.bool true)) := by unfold snD; rw [List.foldl_append]; rfl
theorem snB_snoc (l : List Int) (e n : Int) : snB (l ++ [e]) n = (snB l n || decide (e = n)) := by unfold snB; simp
theorem snD_map (l : List Int) : IsMap (snD l) := by
  have h : ∀ (l : List Int) (D : DataW Unit), IsMap D → IsMap (l.foldl (fun D e => D.put (.int .i64 e) (.lit (.bool true))) D) := by
    intro l
    induction l with
    | nil => intro D h; exact h
    | cons e t ih => intro D h; exact ih _ (h.put _ _)
  exact h l _ isMap_empty
theorem snD_at (n : Int) (l : List Int) : (snD l).atKey (.int .i64 n) (.lit (.bool false)) = .lit (.bool (snB l n)) := by
  have hk : ∀ l : List Int, (snD l.reverse).atKey (.int .i64 n) (.lit (.bool false)) = .lit (.bool (snB l.reverse n)) := by
    intro l
    induction l with
    | nil => rfl
    | cons e t ih =>
      rw [List.reverse_cons, snD_snoc, snB_snoc]
      by_cases h : e = n
      · rw [h, atKey_put_same (snD_map _) (by trivial), decide_eq_true rfl, Bool.or_true]
      · rw [atKey_put_other (fun e' => h (by injection e' with _ e'; exact e'.symm)), ih, decide_eq_false h, Bool.or_false]
  have := hk l.reverse
  rwa [List.reverse_reverse] at this
set_option maxRecDepth 100000 in
theorem zero4 (w : World) : (zeroValue 4).run Try.prog w = .ok (.bool false) w := by kernel_rfl
set_option maxRecDepth 100000 in
theorem look_sn {W : World} {mb k : Nat} {l : List Int} {n : Int} (h : W.ownsMap (H := Unit) Try.prog 3 (plainElem Try.prog 4) mb k (snD l)) (hn : R64 n) : (Instr.lookup 80 (.map (some mb)) (.int .i64 n) false).run Try.prog W = .ok (.bool (snB l n)) W := by
  obtain ⟨v, ps, hlk, hv⟩ := h.lookup sn_law3 Try.underlying80 (zero4 W) (plainElem_bool Try.underlying4 false) (sn_key3 hn)
  obtain ⟨sb, rfl, hz⟩ := sn_inv hv
  have h1 := congrArg Prod.fst hz
  rw [snD_at] at h1
  injection h1 with h1
  injection h1 with h1
  rw [h1]; exact hlk
end Go.Proofs.Ytoefbgkeinhibaa
