/- Decode. -/
import Derived.Test.YtielamoaghibgaaRk
import Derived.Defers
import Derived.Recover
import Derived.Laws.Pointers
namespace Go.Proofs.Ytielamoaghibgaa
open Go.RowKit Go.Lib

set_option maxRecDepth 100000 in
theorem catch_idle (p q : Addr) (w : World) :
    CallsD Try.prog 28 #[.pointer (some p), .pointer (some q)] .returning w fun e u' w' => e = .returned (.tuple #[]) ∧ u' = .returning ∧ w' = w := by
  refine callsD_of_wpS Try.func28 rfl fun c₀ cs hu => ?_
  apply wpS_seq
  apply wpS_region
  simp [wpOpsS, go_sem, recoverD, hu, Try.ntmps28, Exit.thenS]
  apply wpS_seq
  apply wpS_region
  simp [wpOpsS, go_sem, Act.eval, Array.replicate, Exit.thenS]
  refine wpS_cond (t := false) (by simp [Act.eval]) ?_
  simp only [Bool.false_eq_true, if_false]
  refine wpS_of_wp (wp_skip ?_)
  cases c₀
  simp_all [bodyPostS, results, Try.results28]
/-- The world behind a panic that was recovered. -/
def Caught (w w' : World) (a b : Nat) (er : Int) : Prop := ∃ n, w' = ((w.setCell ⟨a, 0, none⟩ (.slice none 0 0)).setCell ⟨b, 0, none⟩ (.int .i64 er)).drewN n
theorem und29 : Try.prog.underlying 29 = some (.int .i64) := by kernel_rfl
set_option maxRecDepth 100000 in
theorem run_assert (er : Int) (W : World) : (Instr.typeAssert (.iface 29 (.int .i64 er)) 20 29 false).run Try.prog W = .ok (.int .i64 er) W := by
  simp [Instr.typeAssert, run_underlying und29, Sem.run_bind]
set_option maxRecDepth 100000 in
theorem catch_pan (a b : Nat) (er : Int) (x y : Value) (older : List PanicEntry) (w : World) (h1 : Boxed w a 22 x) (h2 : Boxed w b 29 y) (hab : a ≠ b) :
    CallsD Try.prog 28 #[.pointer (some ⟨a, 0, none⟩), .pointer (some ⟨b, 0, none⟩)] (.panicking ({ v := .iface 29 (.int .i64 er), recovered := false } :: older)) w fun e u' w' =>
      e = .returned (.tuple #[]) ∧ u' = .panicking ({ v := .iface 29 (.int .i64 er), recovered := true } :: older) ∧ Caught w w' a b er := by
  refine callsD_of_wpS Try.func28 rfl fun c₀ cs hu => ?_
  apply wpS_seq
  apply wpS_region
  simp [wpOpsS, go_sem, recoverD, hu, Try.ntmps28, Exit.thenS]
  apply wpS_seq
  apply wpS_region
  simp [wpOpsS, go_sem, Act.eval, Array.replicate, Exit.thenS]
  refine wpS_cond (t := true) (by simp [Act.eval]) ?_
  simp only [if_true]
  refine wpS_of_wp ?_
  have c1 := h1.cell
  have c2 := h2.cell
  have f1 := h1.frozen
  have f2 := h2.frozen

  have hra := run_assert er
  have hba : ¬ b = a := fun e => hab e.symm
  have c3 := (World.cell?_setCell_other w ⟨a, 0, none⟩ ⟨b, 0, none⟩ (.slice none 0 0) (by intro e; injection e with e _; exact hab e)).trans c2
  go_region
  have hfin : Caught w ((w.setCell ⟨a, 0, none⟩ (.slice none 0 0)).setCell ⟨b, 0, none⟩ (.int .i64 er)).drew a b er := ⟨1, rfl⟩
  simp [bodyPostS, results, Try.results28]
  exact hfin
end Go.Proofs.Ytielamoaghibgaa
