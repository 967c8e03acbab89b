/- The reference's Copy. -/
import Derived.Test.YtjpfogdfgcfkcaaC
namespace Go.Proofs.Ytjpfogdfgcfkcaa
open Go.RowKit Go.Lib

set_option maxHeartbeats 4000000 in
set_option maxRecDepth 100000 in
theorem refCopy_any (t n k o : Int) (d : Value) (p : List Nat) (w : World) (hp : Byt w d p) (hn : NilOk d) (hl : p.length ≤ 1000000000) :
    Calls Try.prog 36 #[.agg #[.int .i64 t, .int .i64 n, .int .i64 k, .int .i64 o, d]] w fun e w' => ∃ A' c', e = .returned (.agg #[.int .i64 t, .int .i64 n, .int .i64 k, .int .i64 o, .slice A' p.length c']) ∧ w'.ownsRow w.heap.size 5 1 (.slice A' p.length c') p.length (p.map byteV) ∧ Below w.heap.size w w' := by
  obtain ⟨W1, hW1⟩ : ∃ W1, (w.alloc (.cells #[.int .i64 t, .int .i64 n, .int .i64 k, .int .i64 o, d] 32)).alloc (.cells #[.int .i64 0, .int .i64 0, .int .i64 0, .int .i64 0, .slice none 0 0] 32) = W1 := ⟨_, rfl⟩
  have hb1 : Below w.heap.size w W1 := by rw [← hW1]; exact ((Below.refl _ w).alloc (Nat.le_refl _) _).alloc (by simp) _
  have hx1 : W1.heap[w.heap.size]? = some (.cells #[.int .i64 t, .int .i64 n, .int .i64 k, .int .i64 o, d] 32) := by rw [← hW1]; exact (Below.heap_alloc _ _ _ (by simp)).trans (heap_alloc_new w _)
  have hy1 : W1.heap[w.heap.size + 1]? = some (.cells #[.int .i64 0, .int .i64 0, .int .i64 0, .int .i64 0, .slice none 0 0] 32) := by rw [← hW1]; simpa using heap_alloc_new (w.alloc (.cells #[.int .i64 t, .int .i64 n, .int .i64 k, .int .i64 o, d] 32)) (.cells #[.int .i64 0, .int .i64 0, .int .i64 0, .int .i64 0, .slice none 0 0] 32)
  have hz1 : W1.heap.size = w.heap.size + 2 := by rw [← hW1]; simp
  have HV1 := hid (hp.below hb1)
  have HB1 := hid hb1
  have HX1 := hid hx1
  have HY1 := hid hy1
  have HW1 := hid hW1
  have HN := hid hn
  have HZ1 := hid hz1
  have x4 : W1.cell? ⟨w.heap.size, 4, none⟩ = some (d) := cell_of_row _ _ 4 _ _ _ hx1
  clear hb1 hx1 hy1 hW1 hp hn hz1
  go_enter Try.func36, Try.ntmps36
  go_wp2_with (at_builtin; go_loud (rw [HW1.out]); go_loud (refine append_byt rfl (.tmp 4) (.tmp 6) rfl W1.heap.size (.slice none 0 0) 0 [] rfl (World.ownsRow_nil _ _ _ _) p _ rfl HV1.out HN.out (by omega) (Nat.le_refl _) ?_); intro v2 w2 ho2 hg2; have HB2 := hid (below_own (Below.refl _ W1) (World.ownsRow_nil W1 W1.heap.size 5 1) hg2 (Nat.le_refl _) (Nat.le_refl _)); obtain ⟨A2, c2, rfl⟩ := own_form ho2; rw [Nat.zero_add, List.nil_append] at ho2; have hx2 := (HB2.out.block _ (box_lt HX1.out)).trans HX1.out; have hy2 := (HB2.out.block _ (box_lt HY1.out)).trans HY1.out; have HX2 := hid hx2; have HY2 := hid hy2; have HO2 := hid ho2; have y0 := cell_of_row _ _ 0 _ _ _ hy2; have fy0 := box_fr hy2 0; have y1 := cell_of_row _ _ 1 _ _ _ hy2; have fy1 := box_fr hy2 1; have y2 := cell_of_row _ _ 2 _ _ _ hy2; have fy2 := box_fr hy2 2; have y3 := cell_of_row _ _ 3 _ _ _ hy2; have fy3 := box_fr hy2 3; have y4 := cell_of_row _ _ 4 _ _ _ hy2; have fy4 := box_fr hy2 4;  have x0 := cell_of_row _ _ 0 _ _ _ hx2; have x1 := cell_of_row _ _ 1 _ _ _ hx2; have x2 := cell_of_row _ _ 2 _ _ _ hx2; have x3 := cell_of_row _ _ 3 _ _ _ hx2; have x4 := cell_of_row _ _ 4 _ _ _ hx2; have fx4 := box_fr hx2 4; clear hx2 hy2 ho2 hg2)
  have ho2 := HO2.out
  have hy2 := HY2.out
  have hy3 : (w2.setCell ⟨w.heap.size, 4, none⟩ (.slice A2 p.length c2)).heap[w.heap.size + 1]? = some (.cells #[.int .i64 0, .int .i64 0, .int .i64 0, .int .i64 0, .slice none 0 0] 32) := (Below.heap_setCell _ _ _ _ (show w.heap.size + 1 ≠ w.heap.size by omega)).trans hy2
  refine bodyPost_ret (results_cell_row rfl _ _ (w.heap.size + 1) 32 #[.int .i64 t, .int .i64 n, .int .i64 k, .int .i64 o, .slice A2 p.length c2] (0, 0) _ rfl (set5h _ _ _ _ _ hy3) Try.underlying32 rfl rfl) rfl ?_
  have hlow := HZ1.out
  refine ⟨A2, c2, rfl, ?_, ?_⟩
  · exact own_base (set5r _ _ _ _ _ (own_off ho2 (fun k e => by have := (ho2.lt k e).1; omega) 4 _) (show w.heap.size + 1 < W1.heap.size by omega)) (by omega)
  · exact set5b _ _ _ _ _ ((HB1.out.trans (HB2.out.mono HB1.out.size)).setCell (p := ⟨w.heap.size, 4, none⟩) (Nat.le_refl _) _) (Nat.le_succ _)
end Go.Proofs.Ytjpfogdfgcfkcaa
