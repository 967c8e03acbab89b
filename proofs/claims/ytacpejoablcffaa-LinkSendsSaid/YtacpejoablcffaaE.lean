/- Check on lists. -/
import Derived.Test.YtacpejoablcffaaD
import Derived.Maps.OwnSet
namespace Go.Proofs.Ytacpejoablcffaa
open Go.RowKit Go.Lib Go.Maps

def fldC (e : Fc) (next : Int) : Int := fldI e.1 e.2.1 e.2.2.length next
def badE (e q : Fc) : Bool := decide (cmpE e.1 e.2.1 q.1 q.2.1 ≤ 0)
def prevE (pre : List Fc) (e : Fc) : Bool := match pre.getLast? with
  | none => false
  | some q => badE e q
def seenE (pre : List Fc) (n : Int) : Bool := pre.any (fun x => decide (x.2.1 = n))
def chkR (next : Int) : List Fc → List Fc → Int
  | _, [] => 0
  | pre, e :: r => if fldC e next ≠ 0 then fldC e next else if prevE pre e = true then 3 else if seenE pre e.2.1 = true then 8 else chkR next (pre ++ [e]) r
/-- The numbers of a link. -/
structure Lk where
  mn : Int
  mx : Int
  rt : Int
  dn : Bool
  idle : Int
  next : Int
/-- The error of a link. -/
def chk (s : Lk) (l : List Fc) : Int := if cfgB s.mn s.mx s.rt = false then 2 else if timeB s.idle = false then 24 else if s.next < 0 ∨ 1073741824 < s.next then 2 else if 4096 < l.length then 6 else if s.dn = true ∧ 0 < l.length then 12 else chkR s.next [] l
theorem chkR_cons (next : Int) (pre : List Fc) (e : Fc) (r : List Fc) : chkR next pre (e :: r) = if fldC e next ≠ 0 then fldC e next else if prevE pre e = true then 3 else if seenE pre e.2.1 = true then 8 else chkR next (pre ++ [e]) r := rfl

theorem grown_of_below {w w' : World} (h : Below w.heap.size w w') : w.grownBy w' none := ⟨h.os, h.tape, h.output, h.size, fun i hi _ => h.block i hi⟩
theorem law3 : Keyed Try.prog 3 := int_keyed Try.underlying3
theorem key3 {n : Int} (h : -9223372036854775808 ≤ n ∧ n ≤ 9223372036854775807) : keyOf Try.prog 3 (.int .i64 n) = some (.int .i64 n) := keyOf_int_mk Try.underlying3 (WalkArith.wf_i64 h)
theorem run_makeMap73 (x : Int) (W : World) : (Instr.makeMap 73 (some (.int .i64 x))).run Try.prog W = .ok (.map (some W.heap.size)) (W.alloc (.map #[] 0)) := by
  simp [Instr.makeMap, run_underlying Try.underlying73, Sem.run_bind, asInt]
  rfl
theorem plainBool_inv {H : Type} {v : Value} {z : DataW H × List MemPlace} (h : plainElem Try.prog 4 v = some z) : ∃ b, v = .bool b ∧ z = (.lit (.bool b), []) := by
  unfold plainElem at h
  rw [Try.underlying4] at h
  cases v <;> simp at h
  exact ⟨_, rfl, h.symm⟩
/-- The numbers of a list, as a map reads. -/
def seenD (l : List Fc) : DataW Unit := l.foldl (fun D e => D.put (.int .i64 e.2.1) (.lit (.bool true))) (.map [])
theorem seenD_snoc (l : List Fc) (e : Fc) : seenD (l ++ [e]) = (seenD l).put (.int .i64 e.2.1) (.lit (.bool true)) := by unfold seenD; rw [List.foldl_append]; rfl
theorem seenD_map (l : List Fc) : IsMap (seenD l) := by
  have h : ∀ (l : List Fc) (D : DataW Unit), IsMap D → IsMap (l.foldl (fun D e => D.put (.int .i64 e.2.1) (.lit (.bool true))) D) := by
    intro l
    induction l with
    | nil => intro D h; exact h
    | cons e t ih => intro D h; exact ih _ (h.put _ _)
  exact h l _ isMap_empty
theorem seenD_at (n : Int) (l : List Fc) : (seenD l).atKey (.int .i64 n) (.lit (.bool false)) = .lit (.bool (seenE l n)) := by
  have hk : ∀ l : List Fc, (seenD l.reverse).atKey (.int .i64 n) (.lit (.bool false)) = .lit (.bool (seenE l.reverse n)) := by
    intro l
    induction l with
    | nil => rfl
    | cons e t ih =>
      rw [List.reverse_cons, seenD_snoc]
      have hs : seenE (t.reverse ++ [e]) n = (seenE t.reverse n || decide (e.2.1 = n)) := by unfold seenE; simp
      rw [hs]
      by_cases h : e.2.1 = n
      · rw [h, atKey_put_same (seenD_map _) (by trivial), decide_eq_true rfl, Bool.or_true]
      · rw [atKey_put_other (fun e' => h (by injection e' with _ e'; exact e'.symm)), ih, decide_eq_false h, Bool.or_false]
  have := hk l.reverse
  rwa [List.reverse_reverse] at this
end Go.Proofs.Ytacpejoablcffaa
