/- SameEvent of the reference, on events that are equal. -/
import Derived.Test.YtjpfogdfgcfkcaaC
namespace Go.Proofs.Ytjpfogdfgcfkcaa
open Go.RowKit Go.Lib

set_option maxHeartbeats 2000000 in
set_option maxRecDepth 100000 in
theorem sameEv_any (t n k o : Int) (a : List Nat) (v u : Value) (w : World) (hv : Byt w v a) (hu : Byt w u a) :
    Calls Try.prog 19 #[.agg #[.int .i64 t, .int .i64 n, .int .i64 k, .int .i64 o, v], .agg #[.int .i64 t, .int .i64 n, .int .i64 k, .int .i64 o, u]] w fun e w' => e = .returned (.bool true) ∧ Below w.heap.size w w' := by
  obtain ⟨A, c, rfl⟩ := byt_form hv
  obtain ⟨C, d, rfl⟩ := byt_form hu
  have e3 := str_eq hv.1 hu.1
  rw [decide_eq_true rfl] at e3
  obtain ⟨m, hm⟩ : ∃ m, a.length = m := ⟨_, rfl⟩
  rw [hm] at hv hu ⊢
  obtain ⟨W1, hW1⟩ : ∃ W1, w.alloc (.cells #[.int .i64 t, .int .i64 n, .int .i64 k, .int .i64 o, .slice A m c] 32) = W1 := ⟨_, rfl⟩
  obtain ⟨W2, hW2⟩ : ∃ W2, W1.alloc (.cells #[.int .i64 t, .int .i64 n, .int .i64 k, .int .i64 o, .slice C m d] 32) = W2 := ⟨_, rfl⟩
  have hb1 : Below w.heap.size w W1 := by rw [← hW1]; exact al1 _ _
  have hb2 : Below W1.heap.size W1 W2 := by rw [← hW2]; exact al1 _ _
  have hx1' : W1.heap[w.heap.size]? = some (.cells #[.int .i64 t, .int .i64 n, .int .i64 k, .int .i64 o, .slice A m c] 32) := by rw [← hW1]; exact heap_alloc_new _ _
  have hs1 : W1.heap.size = w.heap.size + 1 := by rw [← hW1]; simp
  have hx1 := (hb2.block w.heap.size (by omega)).trans hx1'
  have hx2 : W2.heap[W1.heap.size]? = some (.cells #[.int .i64 t, .int .i64 n, .int .i64 k, .int .i64 o, .slice C m d] 32) := by rw [← hW2]; exact heap_alloc_new _ _
  rw [hs1] at hx2
  have hbw : Below w.heap.size w W2 := hb1.trans (hb2.mono hb1.size)
  have e1 := byt_conv (hv.below hbw)
  have e2 := byt_conv (hu.below hbw)
  have p0 : W2.cell? ⟨w.heap.size, 0, none⟩ = some (.int .i64 t) := cell_of_row _ _ 0 _ _ _ hx1
  have p1 : W2.cell? ⟨w.heap.size, 1, none⟩ = some (.int .i64 n) := cell_of_row _ _ 1 _ _ _ hx1
  have p2 : W2.cell? ⟨w.heap.size, 2, none⟩ = some (.int .i64 k) := cell_of_row _ _ 2 _ _ _ hx1
  have p3 : W2.cell? ⟨w.heap.size, 3, none⟩ = some (.int .i64 o) := cell_of_row _ _ 3 _ _ _ hx1
  have p4 : W2.cell? ⟨w.heap.size, 4, none⟩ = some (.slice A m c) := cell_of_row _ _ 4 _ _ _ hx1
  have q0 : W2.cell? ⟨w.heap.size + 1, 0, none⟩ = some (.int .i64 t) := cell_of_row _ _ 0 _ _ _ hx2
  have q1 : W2.cell? ⟨w.heap.size + 1, 1, none⟩ = some (.int .i64 n) := cell_of_row _ _ 1 _ _ _ hx2
  have q2 : W2.cell? ⟨w.heap.size + 1, 2, none⟩ = some (.int .i64 k) := cell_of_row _ _ 2 _ _ _ hx2
  have q3 : W2.cell? ⟨w.heap.size + 1, 3, none⟩ = some (.int .i64 o) := cell_of_row _ _ 3 _ _ _ hx2
  have q4 : W2.cell? ⟨w.heap.size + 1, 4, none⟩ = some (.slice C m d) := cell_of_row _ _ 4 _ _ _ hx2
  have d0 : (t == t) = true := beq_self_eq_true t
  have d1 : (n == n) = true := beq_self_eq_true n
  have d2 : (k == k) = true := beq_self_eq_true k
  have d3 : (o == o) = true := beq_self_eq_true o
  obtain ⟨s, hs⟩ : ∃ s, strOfNums (ints a) = s := ⟨_, rfl⟩
  rw [hs] at e1 e2 e3
  have HBW := hid hbw
  clear hs hv hu hb1 hb2 hx1' hx1 hx2 hbw hs1 hm
  subst hW1
  subst hW2
  go_enter Try.func19, Try.ntmps19
  go_wp2
  go_ret
  exact ⟨rfl, HBW.out⟩
end Go.Proofs.Ytjpfogdfgcfkcaa
