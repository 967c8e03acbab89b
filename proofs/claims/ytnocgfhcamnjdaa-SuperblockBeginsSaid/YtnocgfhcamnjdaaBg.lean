/- Superblock: an append of zero sectors to a row of one's own; begin 21. -/
import Derived.Test.YtnocgfhcamnjdaaBe
import Derived.Lib.AppendZerosOnto
namespace Go.Proofs.Ytnocgfhcamnjdaa
open Go.RowKit Go.Lib

theorem z30_cells : (Builtin.zeroCells (Value.agg #[.int .u8 0, .int .u8 0, .int .u8 0, .int .u8 0, .int .u8 0, .int .u8 0, .int .u8 0, .int .u8 0]).cells 30).toList = ((List.replicate 30 zs).map cSec).flatten := by kernel_rfl
theorem fitz {n c : Nat} (hn : n ≤ 1000) (hc : c < n) : Builtin.nextslicecap n c * 8 ≤ 281474976710656 := growslice_fits hc (by omega)
/-- An append of 30 zero sectors. -/
theorem run_append_z30 (w : World) (ty : TypeId) (base : Nat) (v : Value) (n : Nat) (xs : List Value) (hn : n ≤ 100) (hown : w.ownsRow base 57 8 v n xs) (hbase : base ≤ w.heap.size) :
    ∃ v' w', (Builtin.append_ #[32, 3] ty #[v, .int .i64 30]).run Try.prog w = .ok v' w' ∧ w'.ownsRow base 57 8 v' (n + 30) (xs ++ ((List.replicate 30 zs).map cSec).flatten) ∧ w.grownBy w' v.ownBlock := by
  obtain ⟨i0, hi, hz0, hz1, hz2⟩ := info_parts info73
  obtain ⟨Z, hZ⟩ : ∃ Z, ((List.replicate 30 zs).map cSec).flatten = Z := ⟨_, rfl⟩
  have hzc := z30_cells
  rw [hZ] at hzc ⊢
  have hZl : Z.length = 240 := by rw [← hZ]; kernel_rfl
  have hZ1 : ∀ u ∈ Z, u.oneCell' = true := by rw [← hZ]; exact cells_one _
  have hxl := hown.1
  have hzs : (Value.agg #[.int .u8 0, .int .u8 0, .int .u8 0, .int .u8 0, .int .u8 0, .int .u8 0, .int .u8 0, .int .u8 0]).cells.size = 8 := rfl
  have grown : ∀ (old : Nat), old < n + 30 → ∀ (row : Option Nat),
      (w.drew.alloc (.cells (xs.toArray ++ Builtin.zeroCells (Value.agg #[.int .u8 0, .int .u8 0, .int .u8 0, .int .u8 0, .int .u8 0, .int .u8 0, .int .u8 0, .int .u8 0]).cells 30 ++ Builtin.zeroCells (Value.agg #[.int .u8 0, .int .u8 0, .int .u8 0, .int .u8 0, .int .u8 0, .int .u8 0, .int .u8 0, .int .u8 0]).cells (grownCap w (n + 30) old 57 - (n + 30))) 57)).ownsRow base 57 8
        (.slice (some ⟨w.heap.size, 0, none⟩) (n + 30) (grownCap w (n + 30) old 57)) (n + 30) (xs ++ Z) ∧
      w.grownBy (w.drew.alloc (.cells (xs.toArray ++ Builtin.zeroCells (Value.agg #[.int .u8 0, .int .u8 0, .int .u8 0, .int .u8 0, .int .u8 0, .int .u8 0, .int .u8 0, .int .u8 0]).cells 30 ++ Builtin.zeroCells (Value.agg #[.int .u8 0, .int .u8 0, .int .u8 0, .int .u8 0, .int .u8 0, .int .u8 0, .int .u8 0, .int .u8 0]).cells (grownCap w (n + 30) old 57 - (n + 30))) 57)) row := by
    intro old ho row
    have hge := grownCap_ge w (n + 30) old 57
    have hcm : grownCap w (n + 30) old 57 ≤ maxLen := grownCap_le_maxLen w (n + 30) old 57 (by unfold maxLen; omega)
    refine ⟨⟨by rw [List.length_append, hxl, hZl]; omega, .inr ⟨w.heap.size, _, _, rfl, hbase, heap_alloc_new w.drew _, hge, hcm, ?_, ?_⟩⟩, ⟨rfl, rfl, rfl, by simp, fun k hk _ => Below.heap_alloc w.drew _ k hk⟩⟩
    · rw [Array.size_append, Array.size_append, List.size_toArray, size_zeroCells, size_zeroCells, hzs, hxl]
      omega
    · rw [Array.toList_append, Array.toList_append, hzc, List.append_assoc, ← List.append_assoc xs]
      exact List.take_left' (by rw [List.length_append, hxl, hZl]; omega)
  rcases hown.2 with ⟨rfl, rfl⟩ | ⟨g, cap, cur, rfl, hbg, hg, hnc, hcm, hcs, htake⟩
  · have hx : xs = [] := List.eq_nil_of_length_eq_zero (by simpa using hxl)
    subst hx
    have hold : (Builtin.firstCells i0.size 0 (.slice none 0 0)).run Try.prog w.drew = .ok (#[] : Array Value) w.drew := by simp [Builtin.firstCells]
    have hr := Lib.run_append_grow_zeros w 32 3 ty 57 i0 _ .i64 .i64 Try.underlying32 Try.underlying3 hi hz0 none 0 0 [] hold 30 (by omega) (by omega) (by omega) (by omega) (by rw [hz2]; omega) (by rw [hz2]; exact fitz (by omega) (by omega))
    have hgr := grown 0 (by omega) (Value.ownBlock (.slice none 0 0))
    exact ⟨_, _, hr, hgr.1, hgr.2⟩
  · by_cases hroom : n + 30 ≤ cap
    · have hst := run_storeCells_at Try.prog g (n * 8) 57 Z 0 cur w hg (by rw [hZl, hcs]; omega) hZ1
      simp only [Nat.add_zero] at hst
      have hw : IntKind.i64.wrap 30 = 30 := by decide
      have hr : (Builtin.append_ #[32, 3] ty #[.slice (some ⟨g, 0, none⟩) n cap, .int .i64 30]).run Try.prog w = .ok (.slice (some ⟨g, 0, none⟩) (n + 30) cap) (w.setRow g (cur.toList.take (n * 8) ++ Z ++ cur.toList.drop (n * 8 + Z.length)).toArray) := by
        simp [Builtin.append_, run_underlying Try.underlying32, run_underlying Try.underlying3, sizeOf, typeInfo, zeroValue, hi, hz0, hz1, hz2, asInt, asIntOf, hw, hroom, hzc, Addr.add_lit, hst]
      refine ⟨_, _, hr, ⟨by rw [List.length_append, hxl, hZl]; omega, .inr ⟨g, cap, _, rfl, hbg, setRow_heap w g cur _ 57 _ hg, hroom, hcm, ?_, ?_⟩⟩, ⟨rfl, rfl, rfl, by simp, fun k _ hk => setRow_other w g k _ (fun e => hk (by simp [Value.ownBlock, e]))⟩⟩
      · simp only [List.size_toArray, List.length_append, List.length_take, List.length_drop, Array.length_toList]
        omega
      · rw [htake]
        exact List.take_left' (by rw [List.length_append, hxl, hZl]; omega)
    · have holds : ∀ j u, xs[j]? = some u → w.cell? ((⟨g, 0, none⟩ : Addr).add j) = some u := hown.cells (g := g) rfl
      have hold : (Builtin.firstCells i0.size n (.slice (some ⟨g, 0, none⟩) n cap)).run Try.prog w.drew = .ok xs.toArray w.drew := by
        rw [hz1]
        exact run_firstCells_some (P := Try.prog) w.drew 8 n ⟨g, 0, none⟩ n cap xs hxl holds
      have hr := Lib.run_append_grow_zeros w 32 3 ty 57 i0 _ .i64 .i64 Try.underlying32 Try.underlying3 hi hz0 (some ⟨g, 0, none⟩) n cap xs hold 30 (by omega) (by omega) (by omega) (by omega) (by rw [hz2]; omega) (by rw [hz2]; exact fitz (by omega) (by omega))
      have hgr := grown cap (by omega) (Value.ownBlock (.slice (some ⟨g, 0, none⟩) n cap))
      exact ⟨_, _, hr, hgr.1, hgr.2⟩
theorem wpl_append_z30 {w : World} {ops : Array Oper} {rest : List Oper} {o : Oper} {a : Act} {Q : Exit → Act → World → Prop} (hgd : o.guard = none) (s x : Operand) (ho : o.op = .call { callee := .builtin .append, args := #[s, x], argTypes := #[32, 3] })
    (base : Nat) (v : Value) (n : Nat) (xs : List Value) (hs : a.eval s = v) (hx : a.eval x = .int .i64 30) (hn : n ≤ 100) (hown : w.ownsRow base 57 8 v n xs) (hbase : base ≤ w.heap.size)
    (h : ∀ v' w', w'.ownsRow base 57 8 v' (n + 30) (xs ++ ((List.replicate 30 zs).map cSec).flatten) → w.grownBy w' v.ownBlock → wpList Try.prog ops Q rest (a.put o.dst v') w') : wpList Try.prog ops Q (o :: rest) a w := by
  obtain ⟨v', w', hr, h2, h3⟩ := run_append_z30 w o.type base v n xs hn hown hbase
  refine wpList_plain hgd fun K hK => ?_
  unfold Oper.wp execOp
  simp only [ho, resolve, invoke, builtin, Sem.run_bind, Sem.run_pure, Result.andThen_ok, List.map_toArray, List.map_cons, List.map_nil, hs, hx, hr]
  exact hK _ _ (h v' w' h2 h3)
end Go.Proofs.Ytnocgfhcamnjdaa
