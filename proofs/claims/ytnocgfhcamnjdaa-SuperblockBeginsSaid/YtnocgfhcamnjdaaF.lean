/- The reference's Copy and Newest. -/
import Derived.Test.YtnocgfhcamnjdaaE
namespace Go.Proofs.Ytnocgfhcamnjdaa
open Go.RowKit Go.Lib


/-- What is newest on a disk. -/
def newL (st : List Sect) (ca : List Ca) : List Sect := ca.foldl (fun l x => l.set x.1.toNat x.2) st
theorem newL_len (st : List Sect) (ca : List Ca) : (newL st ca).length = st.length := by
  induction ca generalizing st with
  | nil => rfl
  | cons x r ih => unfold newL at ih ⊢; rw [List.foldl_cons, ih, List.length_set]
theorem newL_snoc (st : List Sect) (ca : List Ca) (x : Ca) : newL st (ca ++ [x]) = (newL st ca).set x.1.toNat x.2 := by unfold newL; rw [List.foldl_append]; rfl
theorem newL_secs {st : List Sect} {ca : List Ca} (h : Secs st) (hc : ∀ x ∈ ca, x.2.length = 8 ∧ B8 x.2) : Secs (newL st ca) := by
  induction ca generalizing st with
  | nil => exact h
  | cons x r ih =>
    unfold newL at ih ⊢
    rw [List.foldl_cons]
    refine ih (fun s hs => ?_) (fun y hy => hc y (List.mem_cons_of_mem _ hy))
    rcases List.mem_or_eq_of_mem_set hs with h1 | rfl
    · exact h s h1
    · exact hc x (List.mem_cons_self ..)
theorem spl_one (l : List Sect) (i : Nat) (s : Sect) (h : i < l.length) : spl l i [s] = l.set i s := by
  unfold spl
  rw [List.set_eq_take_append_cons_drop, if_pos h]
  simp
theorem step_store_run {P : Program} {ops : Array Oper} {o : Oper} {a : Act} {w : World} {K : Act → World → Prop} {Q : Exit → Act → World → Prop} {E : Prop} (hgd : o.guard = none) (ty : TypeId) (x y : Operand) (ho : o.op = .store ty x y) (u v : Value) (hx : a.eval x = u) (hy : a.eval y = v) {w' : World} (hr : (Instr.storeAt ty u v).run P w = .ok () w')
    (h : K (a.put o.dst undef) w') : if Region.wanted o (yielded ops a.tmps) = true then Oper.wp P o a w K Q else E := by
  have hw : Region.wanted o (yielded ops a.tmps) = true := by simp [Region.wanted, hgd]
  rw [if_pos hw]
  unfold Oper.wp execOp
  simp only [ho, hx, hy, hr, Result.andThen_ok, Sem.run_bind, Sem.run_pure]
  exact h
end Go.Proofs.Ytnocgfhcamnjdaa
