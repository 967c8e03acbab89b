/- awake answers true. -/
import Derived.Test.YtbifhcjkdfocaaaDoorPc
namespace Go.Proofs.YtbifhcjkdfocaaaDoor
open Go.RowKit

/-- Block g is the box of a bitmap. -/
def Box (w : World) (g : Nat) (s : Int) (A : Option Addr) (n c : Nat) : Prop := w.heap[g]? = some (.cells #[.int .i64 s, .slice A n c] 24 (0, 0))
theorem Box.lt {w : World} {g : Nat} {s : Int} {A : Option Addr} {n c : Nat} (h : Box w g s A n c) : g < w.heap.size := (Array.getElem?_eq_some_iff.1 h).1
theorem Box.below {w w' : World} {g : Nat} {s : Int} {A : Option Addr} {n c : Nat} (h : Box w g s A n c) (hb : Below w.heap.size w w') : Box w' g s A n c := (hb.block g h.lt).trans h
theorem Box.alloc {w : World} {g : Nat} {s : Int} {A : Option Addr} {n c : Nat} (h : Box w g s A n c) (o : Obj) : Box (w.alloc o) g s A n c := (Below.heap_alloc _ _ _ h.lt).trans h
theorem box_new (w : World) (s : Int) (A : Option Addr) (n c : Nat) : Box (w.alloc (.cells #[.int .i64 s, .slice A n c] 24)) w.heap.size s A n c := heap_alloc_new w _
theorem Box.facts {w : World} {g : Nat} {s : Int} {A : Option Addr} {n c : Nat} (h : Box w g s A n c) : w.cell? ⟨g, 0, none⟩ = some (.int .i64 s) ∧ w.cell? ⟨g, 1, none⟩ = some (.slice A n c) ∧ g < w.heap.size := ⟨cell_of_row _ _ 0 _ _ _ h, cell_of_row _ _ 1 _ _ _ h, h.lt⟩
theorem al1 (w : World) (o : Obj) : Below w.heap.size w (w.alloc o) := (Below.refl _ w).alloc (Nat.le_refl _) o
theorem bmore {w w1 : World} {o : Obj} (hb : Below (w.alloc o).heap.size (w.alloc o) w1) : Below w.heap.size w w1 := below_more hb (Nat.le_refl _)
theorem bm_lit8 (w : World) : Bm (w.alloc (.cells #[.int .u64 8] 55)) (.agg #[.int .i64 3, .slice (some ⟨w.heap.size, 0, none⟩) 1 1]) 3 [8] := by
  refine ⟨⟨by omega, by omega⟩, fun x hx => by simp at hx; omega, _, 1, rfl, Nat.le_refl _, by unfold maxLen; omega, w.heap.size, 0, fun _ => ⟨rfl, by simp⟩, fun i x hi => ?_⟩
  have hl := (List.getElem?_eq_some_iff.1 hi).1
  simp at hl
  subst hl
  simp at hi
  subst hi
  exact (cell_of_row _ _ _ _ _ _ (heap_alloc_new w _)).trans rfl
theorem ext_lit2 (w : World) : Ext (w.alloc (.cells #[.int .i64 60, .int .i64 2, .int .i64 64, .int .i64 4] 39)) (.slice (some ⟨w.heap.size, 0, none⟩) 2 2) [(60, 2), (64, 4)] := by
  refine ⟨fun e he => ?_, _, 2, rfl, Nat.le_refl _, by unfold maxLen; omega, w.heap.size, 0, fun _ => ⟨rfl, by simp⟩, fun i e hi => ?_⟩
  · simp only [List.mem_cons, List.not_mem_nil, or_false] at he
    rcases he with rfl | rfl <;> (unfold R64; dsimp only; omega)
  · have hl := (List.getElem?_eq_some_iff.1 hi).1
    simp at hl
    rcases (show i = 0 ∨ i = 1 by omega) with rfl | rfl
    · simp at hi
      subst hi
      exact ⟨(cell_of_row _ _ _ _ _ _ (heap_alloc_new w _)).trans rfl, (cell_of_row _ _ _ _ _ _ (heap_alloc_new w _)).trans rfl⟩
    · simp at hi
      subst hi
      exact ⟨(cell_of_row _ _ _ _ _ _ (heap_alloc_new w _)).trans rfl, (cell_of_row _ _ _ _ _ _ (heap_alloc_new w _)).trans rfl⟩
/-- The cells of the words of a bitmap with two words. -/
theorem bm_words {w : World} {s : Int} {A : Option Addr} {n c x y : Nat} (h : Bm w (.agg #[.int .i64 s, .slice A n c]) s [x, y]) : ∃ b off, A = some ⟨b, off, none⟩ ∧ b < w.heap.size ∧ w.cell? ⟨b, off, none⟩ = some (.int .u64 x) ∧ w.cell? ⟨b, off + 1, none⟩ = some (.int .u64 y) := by
  obtain ⟨_, _, A', cap, hv, h1, h2, b, off, hA, hc⟩ := h
  injection hv with hv
  injection hv with hv
  injection hv with _ hv
  injection hv with hv _
  injection hv with e1 e2 e3
  obtain ⟨hA1, hb⟩ := hA (by simp)
  exact ⟨b, off, e1.trans hA1, hb, hc 0 x rfl, hc 1 y rfl⟩

set_option maxHeartbeats 8000000 in
set_option maxRecDepth 100000 in
theorem awake_any (w : World) (hT : Tab w) : Calls Tryd.prog 12 #[] w fun e w' => e = .returned (.bool true) ∧ Below w.heap.size w w' := by
  have HT := hid hT
  clear hT
  go_enter Tryd.func12, Tryd.ntmps12
  go_wp2_with fail
  refine (aw_new w).mono ?_
  rintro e w1 ⟨A1, c1, rfl, ha1, hb1⟩
  have HA := hid ha1
  have HB1 := hid hb1
  clear ha1 hb1
  go_wp2_with fail
  refine (aw_set _ _ (HA.out.below (al1 _ _))).mono ?_
  rintro e w2 ⟨A2, c2, rfl, hbm2, hb2⟩
  have HX1 := hid ((box_new w1 _ _ _ _).below hb2)
  obtain ⟨x10, x11, x12⟩ := HX1.out.facts
  have HBB := hid hbm2
  have HB2 := hid (below_both HB1.out (bmore hb2))
  have HA2 := hid (HA.out.below (bmore hb2))
  clear hbm2 hb2 HA HB1
  obtain ⟨g1, hg1⟩ : ∃ g1, w1.heap.size = g1 := ⟨_, rfl⟩
  rw [hg1] at HX1 x10 x11 x12
  go_wp2_with fail
  refine (aw_clear _ _ (HBB.out.below (al1 _ _))).mono ?_
  rintro e w3 ⟨A3, c3, rfl, hcm3, hb3⟩
  have HX2 := hid ((box_new w2 _ _ _ _).below hb3)
  have HX1' := hid (HX1.out.below (bmore hb3))
  clear x10 x11 x12
  obtain ⟨x10, x11, x12⟩ := HX1'.out.facts
  have HCC := hid hcm3
  have HB3 := hid (below_both HB2.out (bmore hb3))
  have HA3 := hid (HA2.out.below (bmore hb3))
  have HBB3 := hid (HBB.out.below (bmore hb3))
  clear hcm3 hb3 HB2 HA2 HBB HX1
  obtain ⟨g2, hg2⟩ : ∃ g2, w2.heap.size = g2 := ⟨_, rfl⟩
  rw [hg2] at HX2
  go_wp2_with fail
  refine (aw_set2 _ _ (HA3.out.below (al1 _ _))).mono ?_
  rintro e w4 ⟨A4, n4, c4, rfl, hb4⟩
  have HX3 := hid ((box_new w3 _ _ _ _).below hb4)
  have HX2' := hid (HX2.out.below (bmore hb4))
  clear x10 x11 x12
  obtain ⟨x20, x21, x22⟩ := HX2'.out.facts
  have HB4 := hid (below_both HB3.out (bmore hb4))
  have HBB4 := hid (HBB3.out.below (bmore hb4))
  have HCC4 := hid (HCC.out.below (bmore hb4))
  clear hb4 HB3 HA3 HBB3 HCC HX1' HX2
  obtain ⟨g3, hg3⟩ : ∃ g3, w3.heap.size = g3 := ⟨_, rfl⟩
  rw [hg3] at HX3
  obtain ⟨x30, x31, x32⟩ := HX3.out.facts
  go_wp2_with fail
  have HTW := hid (fun W (h : Below w4.heap.size w4 W) => (HT.out.below HB4.out).below h)
  refine (aw_exts _ _ (HCC4.out.below (al1 _ _)) (HTW.out _ (al1 _ _))).mono ?_
  rintro e w5 ⟨va, rfl, hva, hb5⟩
  clear x20 x21 x22 x30 x31 x32
  have HB5 := hid (below_both HB4.out (bmore hb5))
  have HX5 := hid (HX2'.out.below (bmore hb5))
  have HBB5 := hid (HBB4.out.below (bmore hb5))
  obtain ⟨x20, x21, x22⟩ := HX5.out.facts
  obtain ⟨bb, off, rfl, hlt, y0, y1⟩ := bm_words HBB5.out
  have HVA := hid hva
  obtain ⟨Av, cv, rfl⟩ := ext_form hva
  clear hb5 hva HBB4 HCC4 HX2' HX3 HB4 HTW
  go_wp2_with fail
  refine (aw_next 0 60 (.inl ⟨rfl, rfl⟩) _ _ HBB5.out (HT.out.below HB5.out)).mono ?_
  rintro e w6 ⟨rfl, hb6⟩
  clear x20 x21 x22 hlt y0 y1
  have HB6 := hid (below_both HB5.out hb6)
  have HX6 := hid (HX5.out.below hb6)
  have HBB6 := hid (HBB5.out.below hb6)
  have HVA6 := hid (HVA.out.below hb6)
  obtain ⟨x20, x21, x22⟩ := HX6.out.facts
  clear hb6 HB5 HX5 HBB5 HVA
  go_wp2_with fail
  refine (aw_next 68 (-1) (.inr ⟨rfl, rfl⟩) _ _ HBB6.out (HT.out.below HB6.out)).mono ?_
  rintro e w7 ⟨rfl, hb7⟩
  clear x20 x21 x22
  have HB7 := hid (below_both HB6.out hb7)
  have HX7 := hid (HX6.out.below hb7)
  have HBB7 := hid (HBB6.out.below hb7)
  have HVA7 := hid (HVA6.out.below hb7)
  obtain ⟨x20, x21, x22⟩ := HX7.out.facts
  clear hb7 HB6 HX6 HBB6 HVA6
  go_wp2_with fail
  refine (aw_count _ _ HBB7.out).mono ?_
  rintro e w8 ⟨rfl, hb8⟩
  clear x20 x21 x22
  have HB8 := hid (below_both HB7.out hb8)
  have HVA8 := hid (HVA7.out.below hb8)
  clear hb8 HB7 HX7 HBB7 HVA7
  go_wp2_with fail
  refine (aw_same _ _ _ (HVA8.out.below (al1 _ _)) (ext_lit2 w8)).mono ?_
  rintro e w9 ⟨rfl, hb9⟩
  have HB9 := hid (below_both HB8.out (bmore hb9))
  clear hb9 HB8 HVA8
  go_wp2_with fail
  refine (aw_check _ _ (bm_lit8 w9)).mono ?_
  rintro e w10 ⟨rfl, hb10⟩
  have HB10 := hid (below_both HB9.out (bmore hb10))
  clear hb10 HB9
  go_wp2
  go_ret
  exact ⟨rfl, HB10.out⟩
end Go.Proofs.YtbifhcjkdfocaaaDoor
