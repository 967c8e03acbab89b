/- Superblock: steps of the walk over arrays of 32 bytes, as wholes. -/
import Derived.Test.YtnocgfhcamnjdaaAg
import Derived.Laws.CopyOwn
namespace Go.Proofs.Ytnocgfhcamnjdaa
open Go.RowKit Go.Lib

theorem wpl_store {P : Program} {w : World} {ops : Array Oper} {rest : List Oper} {o : Oper} {a : Act} {Q : Exit → Act → World → Prop} (hgd : o.guard = none) (ty : TypeId) (x y : Operand) (ho : o.op = .store ty x y) (u v : Value) (hx : a.eval x = u) (hy : a.eval y = v) {w' : World} (hr : (Instr.storeAt ty u v).run P w = .ok () w')
    (h : wpList P ops Q rest (a.put o.dst undef) w') : wpList P ops Q (o :: rest) a w := by
  refine wpList_plain hgd fun K hK => ?_
  unfold Oper.wp execOp
  simp only [ho, hx, hy, hr, Result.andThen_ok, Sem.run_bind, Sem.run_pure]
  exact hK _ _ h
theorem wpl_load {P : Program} {w : World} {ops : Array Oper} {rest : List Oper} {o : Oper} {a : Act} {Q : Exit → Act → World → Prop} (hgd : o.guard = none) (ty : TypeId) (x : Operand) (ho : o.op = .load ty x) (u v : Value) (hx : a.eval x = u) {w' : World} (hr : (Instr.loadAt ty u).run P w = .ok v w')
    (h : wpList P ops Q rest (a.put o.dst v) w') : wpList P ops Q (o :: rest) a w := by
  refine wpList_plain hgd fun K hK => ?_
  unfold Oper.wp execOp
  simp only [ho, hx, hr, Result.andThen_ok, Sem.run_bind, Sem.run_pure]
  exact hK _ _ h
theorem wpl_alloc {P : Program} {w : World} {ops : Array Oper} {rest : List Oper} {o : Oper} {a : Act} {Q : Exit → Act → World → Prop} (hgd : o.guard = none) (ty : TypeId) (ho : o.op = .alloc ty) (v : Value) {w' : World} (hr : (Instr.alloc ty true (.tuple #[])).run P w = .ok v w')
    (h : wpList P ops Q rest (a.put o.dst v) w') : wpList P ops Q (o :: rest) a w := by
  refine wpList_plain hgd fun K hK => ?_
  unfold Oper.wp execOp
  simp only [ho, hr, Result.andThen_ok, Sem.run_bind, Sem.run_pure]
  exact hK _ _ h
def z32 : List Value := List.replicate 32 (Value.int .u8 0)
theorem run_alloc67 (w : World) : (Instr.alloc 67 true (.tuple #[])).run Try.prog w = .ok (.pointer (some ⟨w.heap.size, 0, none⟩)) (w.alloc (.cells z32.toArray 67)) := by kernel_rfl
theorem size67 : (Try.prog.info? 67).map (·.size) = some 32 := by kernel_rfl
theorem run_loadAt67 (w : World) (g : Nat) (cs : List Value) (hl : cs.length = 32) (hg : w.heap[g]? = some (.cells cs.toArray 67)) : (Instr.loadAt 67 (.pointer (some ⟨g, 0, none⟩))).run Try.prog w = .ok (.agg cs.toArray) w := by
  have hc := run_loadCells_list (P := Try.prog) w ⟨g, 0, none⟩ cs (fun j v hv => by rw [add_at', cell_of_row _ _ _ _ _ _ hg]; simpa using hv)
  rw [hl] at hc
  have ha : (isAgg 67).run Try.prog w = .ok true w := by kernel_rfl
  simp [Instr.loadAt, Instr.sureAddr, loadVar, Sem.run_bind, ha, hc]
theorem run_build67 (w : World) (m : Int) : (Instr.build 67 #[(0, .int .u8 m)]).run Try.prog w = .ok (.agg (Value.int .u8 m :: List.replicate 31 (Value.int .u8 0)).toArray) w := by kernel_rfl
theorem wpl_build {P : Program} {w : World} {ops : Array Oper} {rest : List Oper} {o : Oper} {a : Act} {Q : Exit → Act → World → Prop} (hgd : o.guard = none) (ty : TypeId) (x : Operand) (ho : o.op = .build ty #[(0, x)]) (u v : Value) (hx : a.eval x = u) (hr : (Instr.build ty #[(0, u)]).run P w = .ok v w)
    (h : wpList P ops Q rest (a.put o.dst v) w) : wpList P ops Q (o :: rest) a w := by
  refine wpList_plain hgd fun K hK => ?_
  unfold Oper.wp execOp
  have e : (#[(0, x)] : Array (Nat × Operand)).map (fun (i, y) => (i, a.eval y)) = #[(0, u)] := by simp [hx]
  simp only [ho]
  rw [e]
  simp only [hr, Result.andThen_ok, Sem.run_bind, Sem.run_pure]
  exact hK _ _ h
theorem run_loadVar67 (w : World) (g : Nat) (cs : List Value) (hl : cs.length = 32) (hg : w.heap[g]? = some (.cells cs.toArray 67)) : (loadVar 67 ⟨g, 0, none⟩).run Try.prog w = .ok (.agg cs.toArray) w := by
  have hc := run_loadCells_list (P := Try.prog) w ⟨g, 0, none⟩ cs (fun j v hv => by rw [add_at', cell_of_row _ _ _ _ _ _ hg]; simpa using hv)
  rw [hl] at hc
  have ha : (isAgg 67).run Try.prog w = .ok true w := by kernel_rfl
  simp [loadVar, Sem.run_bind, ha, hc]
theorem set_row67 {w : World} {g : Nat} {cur cs : List Value} (hg : w.heap[g]? = some (.cells cur.toArray 67)) (hl : cs.length = 32) (hc : cur.length = 32) (h1 : ∀ v ∈ cs, v.oneCell' = true) : ∃ w', (Instr.storeAt 67 (.pointer (some ⟨g, 0, none⟩)) (.agg cs.toArray)).run Try.prog w = .ok () w' ∧ w'.heap[g]? = some (.cells cs.toArray 67) ∧ (∀ k, k ≠ g → w'.heap[k]? = w.heap[k]?) ∧ ∀ B W, Below B W w → B ≤ g → Below B W w' := by
  refine ⟨_, run_storeAt_row w g 0 67 67 cs cur.toArray hg (by rw [hl]; exact size67) (by simp; omega) h1, ?_, fun k hk => setRow_other _ _ _ _ hk, fun B W hb hB => below_setRow hb hB _⟩
  have e : (cur.toArray.toList.take 0 ++ cs ++ cur.toArray.toList.drop (0 + cs.length)) = cs := by
    rw [List.take_zero, List.nil_append, List.drop_of_length_le (by simp; omega), List.append_nil]
  rw [e]
  exact setRow_heap w g _ _ 67 _ hg
end Go.Proofs.Ytnocgfhcamnjdaa
