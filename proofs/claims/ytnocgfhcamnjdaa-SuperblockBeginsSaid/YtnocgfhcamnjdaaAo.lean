/- Superblock: blocks of 33 cells as wholes; operations of drawn regions as steps. -/
import Derived.Test.YtnocgfhcamnjdaaAn
namespace Go.Proofs.Ytnocgfhcamnjdaa
open Go.RowKit Go.Lib

theorem wanted_none {o : Oper} (h : o.guard = none) (f : Nat → Option Bool) : Region.wanted o f = true := by unfold Region.wanted; rw [h]
section
variable {P : Program} {w : World} {o : Oper} {a : Act} {K : Act → World → Prop} {Q : Exit → Act → World → Prop} {f : Nat → Option Bool}
theorem ow_load (hgd : o.guard = none) (ty : TypeId) (x : Operand) (ho : o.op = .load ty x) (u v : Value) (hx : a.eval x = u) {w' : World} (hr : (Instr.loadAt ty u).run P w = .ok v w') (h : K (a.put o.dst v) w') : if Region.wanted o f = true then Oper.wp P o a w K Q else K (a.put o.dst undef) w := by
  rw [if_pos (wanted_none hgd _)]
  unfold Oper.wp execOp
  simp only [ho, hx, hr, Result.andThen_ok, Sem.run_bind, Sem.run_pure]
  exact h
theorem ow_alloc (hgd : o.guard = none) (ty : TypeId) (ho : o.op = .alloc ty) (v : Value) {w' : World} (hr : (Instr.alloc ty true (.tuple #[])).run P w = .ok v w') (h : K (a.put o.dst v) w') : if Region.wanted o f = true then Oper.wp P o a w K Q else K (a.put o.dst undef) w := by
  rw [if_pos (wanted_none hgd _)]
  unfold Oper.wp execOp
  simp only [ho, hr, Result.andThen_ok, Sem.run_bind, Sem.run_pure]
  exact h
theorem ow_store (hgd : o.guard = none) (ty : TypeId) (x y : Operand) (ho : o.op = .store ty x y) (u v : Value) (hx : a.eval x = u) (hy : a.eval y = v) {w' : World} (hr : (Instr.storeAt ty u v).run P w = .ok () w') (h : K (a.put o.dst undef) w') : if Region.wanted o f = true then Oper.wp P o a w K Q else K (a.put o.dst undef) w := by
  rw [if_pos (wanted_none hgd _)]
  unfold Oper.wp execOp
  simp only [ho, hx, hy, hr, Result.andThen_ok, Sem.run_bind, Sem.run_pure]
  exact h
end
theorem exec_build2 {P : Program} {w : World} {o : Oper} {a : Act} (ty : TypeId) (x y : Operand) (ho : o.op = .build ty #[(0, x), (1, y)]) (u v z : Value) (hx : a.eval x = u) (hy : a.eval y = v) (hr : (Instr.build ty #[(0, u), (1, v)]).run P w = .ok z w) : (execOp a.eval o).run P w = .ok (.value z) w := by
  unfold execOp
  have e : (#[(0, x), (1, y)] : Array (Nat × Operand)).map (fun (i, t) => (i, a.eval t)) = #[(0, u), (1, v)] := by simp [hx, hy]
  simp only [ho]
  rw [e]
  simp only [hr, Result.andThen_ok, Sem.run_bind, Sem.run_pure]
theorem wpl_build0 {P : Program} {w : World} {ops : Array Oper} {rest : List Oper} {o : Oper} {a : Act} {Q : Exit → Act → World → Prop} (hgd : o.guard = none) (ty : TypeId) (ho : o.op = .build ty #[]) (v : Value) (hr : (Instr.build ty #[]).run P w = .ok v w)
    (h : wpList P ops Q rest (a.put o.dst v) w) : wpList P ops Q (o :: rest) a w := by
  refine wpList_plain hgd fun K hK => ?_
  unfold Oper.wp execOp
  have e : (#[] : Array (Nat × Operand)).map (fun (i, y) => (i, a.eval y)) = #[] := by simp
  simp only [ho]
  rw [e]
  simp only [hr, Result.andThen_ok, Sem.run_bind, Sem.run_pure]
  exact hK _ _ h
theorem wpl_build2 {P : Program} {w : World} {ops : Array Oper} {rest : List Oper} {o : Oper} {a : Act} {Q : Exit → Act → World → Prop} (hgd : o.guard = none) (ty : TypeId) (x y : Operand) (ho : o.op = .build ty #[(0, x), (1, y)]) (u v z : Value) (hx : a.eval x = u) (hy : a.eval y = v) (hr : (Instr.build ty #[(0, u), (1, v)]).run P w = .ok z w)
    (h : wpList P ops Q rest (a.put o.dst z) w) : wpList P ops Q (o :: rest) a w := by
  refine wpList_plain hgd fun K hK => ?_
  unfold Oper.wp execOp
  have e : (#[(0, x), (1, y)] : Array (Nat × Operand)).map (fun (i, t) => (i, a.eval t)) = #[(0, u), (1, v)] := by simp [hx, hy]
  simp only [ho]
  rw [e]
  simp only [hr, Result.andThen_ok, Sem.run_bind, Sem.run_pure]
  exact hK _ _ h
def z33 : List Value := List.replicate 32 (Value.int .u8 0) ++ [Value.int .u32 0]
theorem run_alloc71 (w : World) : (Instr.alloc 71 true (.tuple #[])).run Try.prog w = .ok (.pointer (some ⟨w.heap.size, 0, none⟩)) (w.alloc (.cells z33.toArray 71)) := by kernel_rfl
theorem run_build71e (w : World) : (Instr.build 71 #[]).run Try.prog w = .ok (.agg z33.toArray) w := by kernel_rfl
theorem size71 : (Try.prog.info? 71).map (·.size) = some 33 := by kernel_rfl
set_option maxRecDepth 10000 in
theorem list32 {α : Type} {s : List α} (h : s.length = 32) : ∃ x0 x1 x2 x3 x4 x5 x6 x7 x8 x9 x10 x11 x12 x13 x14 x15 x16 x17 x18 x19 x20 x21 x22 x23 x24 x25 x26 x27 x28 x29 x30 x31, s = [x0, x1, x2, x3, x4, x5, x6, x7, x8, x9, x10, x11, x12, x13, x14, x15, x16, x17, x18, x19, x20, x21, x22, x23, x24, x25, x26, x27, x28, x29, x30, x31] := by
  match s, h with
  | [x0, x1, x2, x3, x4, x5, x6, x7, x8, x9, x10, x11, x12, x13, x14, x15, x16, x17, x18, x19, x20, x21, x22, x23, x24, x25, x26, x27, x28, x29, x30, x31], _ => exact ⟨x0, x1, x2, x3, x4, x5, x6, x7, x8, x9, x10, x11, x12, x13, x14, x15, x16, x17, x18, x19, x20, x21, x22, x23, x24, x25, x26, x27, x28, x29, x30, x31, rfl⟩
set_option maxRecDepth 10000 in
theorem run_build71 (w : World) (C : List Value) (hl : C.length = 32) (k : Value) (hk : ∃ x, k = .int .u32 x) : (Instr.build 71 #[(0, .agg C.toArray), (1, k)]).run Try.prog w = .ok (.agg (C ++ [k]).toArray) w := by
  obtain ⟨x, rfl⟩ := hk
  obtain ⟨x0, x1, x2, x3, x4, x5, x6, x7, x8, x9, x10, x11, x12, x13, x14, x15, x16, x17, x18, x19, x20, x21, x22, x23, x24, x25, x26, x27, x28, x29, x30, x31, rfl⟩ := list32 hl
  exact run_build w 71 _ _ (by kernel_rfl)
theorem run_loadAt71 (w : World) (g : Nat) (cs : List Value) (hl : cs.length = 33) (hg : w.heap[g]? = some (.cells cs.toArray 71)) : (Instr.loadAt 71 (.pointer (some ⟨g, 0, none⟩))).run Try.prog w = .ok (.agg cs.toArray) w := by
  have hc := run_loadCells_list (P := Try.prog) w ⟨g, 0, none⟩ cs (fun j v hv => by rw [add_at', cell_of_row _ _ _ _ _ _ hg]; simpa using hv)
  rw [hl] at hc
  have ha : (isAgg 71).run Try.prog w = .ok true w := by kernel_rfl
  simp [Instr.loadAt, Instr.sureAddr, loadVar, Sem.run_bind, ha, hc]
theorem run_loadVar71 (w : World) (g : Nat) (cs : List Value) (hl : cs.length = 33) (hg : w.heap[g]? = some (.cells cs.toArray 71)) : (loadVar 71 ⟨g, 0, none⟩).run Try.prog w = .ok (.agg cs.toArray) w := by
  have hc := run_loadCells_list (P := Try.prog) w ⟨g, 0, none⟩ cs (fun j v hv => by rw [add_at', cell_of_row _ _ _ _ _ _ hg]; simpa using hv)
  rw [hl] at hc
  have ha : (isAgg 71).run Try.prog w = .ok true w := by kernel_rfl
  simp [loadVar, Sem.run_bind, ha, hc]
/-- The first 32 cells of a row of any type, as an array. -/
theorem run_loadAt67p (w : World) (g : Nat) (cs : List Value) (hl : cs.length = 32) (hg : ∀ (j : Nat) (u : Value), cs[j]? = some u → w.cell? ⟨g, j, none⟩ = some u) : (Instr.loadAt 67 (.pointer (some ⟨g, 0, none⟩))).run Try.prog w = .ok (.agg cs.toArray) w := by
  have hc := run_loadCells_list (P := Try.prog) w ⟨g, 0, none⟩ cs (fun j v hv => by rw [add_at']; exact hg j v hv)
  rw [hl] at hc
  have ha : (isAgg 67).run Try.prog w = .ok true w := by kernel_rfl
  simp [Instr.loadAt, Instr.sureAddr, loadVar, Sem.run_bind, ha, hc]
theorem set_row71 {w : World} {g : Nat} {cur cs : List Value} (hg : w.heap[g]? = some (.cells cur.toArray 71)) (hl : cs.length = 33) (hc : cur.length = 33) (h1 : ∀ v ∈ cs, v.oneCell' = true) : ∃ w', (Instr.storeAt 71 (.pointer (some ⟨g, 0, none⟩)) (.agg cs.toArray)).run Try.prog w = .ok () w' ∧ w'.heap[g]? = some (.cells cs.toArray 71) ∧ (∀ k, k ≠ g → w'.heap[k]? = w.heap[k]?) ∧ ∀ B W, Below B W w → B ≤ g → Below B W w' := by
  refine ⟨_, run_storeAt_row w g 0 71 71 cs cur.toArray hg (by rw [hl]; exact size71) (by simp; omega) h1, ?_, fun k hk => setRow_other _ _ _ _ hk, fun B W hb hB => below_setRow hb hB _⟩
  have e : (cur.toArray.toList.take 0 ++ cs ++ cur.toArray.toList.drop (0 + cs.length)) = cs := by
    rw [List.take_zero, List.nil_append, List.drop_of_length_le (by simp; omega), List.append_nil]
  rw [e]
  exact setRow_heap w g _ _ 71 _ hg
theorem cBlk_len {C : List Nat} {k : Nat} (h : C.length = 32) : (cBlk C k).length = 33 := by unfold cBlk; rw [List.length_append, List.length_map, h]; rfl
theorem cBlk_one (C : List Nat) (k : Nat) : ∀ v ∈ cBlk C k, v.oneCell' = true := fun v hv => by
  unfold cBlk at hv
  rcases List.mem_append.1 hv with hv | hv
  · exact byteV_one C v hv
  · rw [List.mem_singleton.1 hv]; rfl
theorem cBlk_z : cBlk (List.replicate 32 0) 0 = z33 := by kernel_rfl
theorem cBlk_gen {w : World} {g : Nat} {C : List Nat} {k : Nat} (hg : w.heap[g]? = some (.cells (cBlk C k).toArray 71)) (h : C.length = 32) : w.cell? ⟨g, 32, none⟩ = some (.int .u32 (k : Int)) := by
  rw [cell_of_row _ _ _ _ _ _ hg, List.getElem?_toArray]
  unfold cBlk
  rw [List.getElem?_append_right (by rw [List.length_map, h]; exact Nat.le_refl _), List.length_map, h]
  rfl
theorem cBlk_con {w : World} {g : Nat} {C : List Nat} {k : Nat} (hg : w.heap[g]? = some (.cells (cBlk C k).toArray 71)) : ∀ (j : Nat) (u : Value), (C.map byteV)[j]? = some u → w.cell? ⟨g, j, none⟩ = some u := fun j u hu => by
  rw [cell_of_row _ _ _ _ _ _ hg, List.getElem?_toArray]
  unfold cBlk
  rw [List.getElem?_append_left (List.getElem?_eq_some_iff.1 hu).1]
  exact hu
theorem results_vc {fn : Func} {p u t : Tmp} {ty : TypeId} (h : fn.results = #[.tmp u, .cell p ty, .tmp t]) (tmps : Array Value) (w : World) (g : Nat) (v : Value)
    (hp : tmps.getD p undef = .pointer (some ⟨g, 0, none⟩)) (hlv : (loadVar ty ⟨g, 0, none⟩).run Try.prog w = .ok v w) (z : Value) (hz : tmps.getD u undef = z) (y : Value) (hy : tmps.getD t undef = y) :
    (results fn tmps).run Try.prog w = .ok (.tuple #[z, v, y]) w := by
  have hp' : tmps[p]?.getD undef = .pointer (some ⟨g, 0, none⟩) := by simpa using hp
  have hz' : tmps[u]?.getD undef = z := by simpa using hz
  have hy' : tmps[t]?.getD undef = y := by simpa using hy
  simp [results, h, hp', hz', hy', asAddr, hlv]
/-- A block: its content and its generation. -/
abbrev Blk := List Nat × Nat
def GoodK (b : Blk) : Prop := b.1.length = 32 ∧ B8 b.1 ∧ b.2 < 4294967296
/-- The choice between the best copy so far and a half. -/
def nstep (i : Nat) (best : Nat × Blk) (h : List Sect) : Nat × Blk := if (∀ s ∈ h, num4 s = num4 (h.getD 0 [])) ∧ valB (dat h) = true ∧ best.2.2 < num4 (h.getD 0 []) then (i, (dat h, num4 (h.getD 0 []))) else best
def nst (l : List Sect) : Nat → Nat × Blk
  | 0 => (0, (List.replicate 32 0, 0))
  | k + 1 => nstep k (nst l k) ((l.drop (8 * k)).take 8)
/-- The newest copy. -/
def newS (l : List Sect) : Nat × Blk := nst l 2
theorem dat_b8 {l : List Sect} (h : Secs l) : B8 (dat l) := fun x hx => by
  unfold dat at hx
  obtain ⟨r, hr, hx⟩ := List.mem_flatten.1 hx
  obtain ⟨s, hs, rfl⟩ := List.mem_map.1 hr
  exact (h s hs).2 x (List.mem_of_mem_drop hx)
theorem secs_mid {l : List Sect} (h : Secs l) (a b : Nat) : Secs ((l.drop a).take b) := fun s hs => h s (List.mem_of_mem_drop (List.mem_of_mem_take hs))
theorem nst_good {l : List Sect} (h : Secs l) (hl : l.length = 16) : ∀ k, k ≤ 2 → GoodK (nst l k).2
  | 0, _ => ⟨List.length_replicate .., fun x hx => by rw [List.eq_of_mem_replicate hx]; decide, by show (0 : Nat) < 4294967296; decide⟩
  | k + 1, hk => by
    have ih := nst_good h hl k (by omega)
    have hm := secs_mid h (8 * k) 8
    have hml : ((l.drop (8 * k)).take 8).length = 8 := by rw [List.length_take, List.length_drop]; omega
    unfold nst nstep
    split
    · refine ⟨by rw [dat_len hm, hml], dat_b8 hm, num4_lt (hm _ ?_).2⟩
      rw [List.getD_eq_getElem?_getD, List.getElem?_eq_getElem (by omega)]
      exact List.getElem_mem _
    · exact ih
end Go.Proofs.Ytnocgfhcamnjdaa
