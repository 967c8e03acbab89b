/- awake answers true. -/
import Derived.Test.YtkchenhkolpinaaL
namespace Go.Proofs.Ytkchenhkolpinaa
open Go.RowKit

theorem bm {W w1 : World} {o : Obj} (hb : Below (W.alloc o).heap.size (W.alloc o) w1) : Below W.heap.size W w1 := below_more hb (Nat.le_refl _)
theorem al2 (W : World) (o p : Obj) : Below W.heap.size W ((W.alloc o).alloc p) := ((Below.refl _ _).alloc (Nat.le_refl _) _).alloc (by simp) _

set_option maxHeartbeats 8000000 in
set_option maxRecDepth 100000 in
theorem awake_any (w : World) : Calls Try.prog 13 #[] w fun e w' => e = .returned (.bool true) ∧ Below w.heap.size w w' := by
  go_enter Try.func13, Try.ntmps13
  go_wp2_with (go_at_call 33; refine (e_any _ _ _).mono ?_; rintro e w' ⟨rfl, rfl⟩)
  refine (aw_norm1 _ _ (ext_lit (by simp) (r64s (by decide)) (by decide))).mono ?_
  rintro e w1 ⟨va, rfl, hva, hb⟩
  have hB : Below w.heap.size w w1 := (bm (bm (bm (bm hb))))
  have hT1 : Below w.heap.size w w1 := hB
  clear hb hB
  go_wp2_with (go_at_call 33; refine (e_any _ _ _).mono ?_; rintro e w' ⟨rfl, rfl⟩)
  refine (aw_split _ _ (ext_lit (by simp) (r64s (by decide)) (by decide))).mono ?_
  rintro e w2 ⟨vb, rfl, hvb, hb⟩
  have hB : Below w1.heap.size w1 w2 := (bm (bm (bm hb)))
  have hT2 : Below w.heap.size w w2 := below_both hT1 hB
  clear hT1
  have hva := hva.below hB
  clear hb hB
  go_wp2_with (go_at_call 33; refine (e_any _ _ _).mono ?_; rintro e w' ⟨rfl, rfl⟩)
  refine (aw_norm2 _ _ (ext_lit (by simp) (r64s (by decide)) (by decide))).mono ?_
  rintro e w3 ⟨vz, rfl, hb⟩
  have hB : Below w2.heap.size w2 w3 := (bm (bm hb))
  have hT3 : Below w.heap.size w w3 := below_both hT2 hB
  clear hT2
  have hva := hva.below hB
  have hvb := hvb.below hB
  clear hb hB
  go_wp2_with (go_at_call 33; refine (e_any _ _ _).mono ?_; rintro e w' ⟨rfl, rfl⟩)
  refine (aw_same [(0, 2), (5, 6)] _ _ _ (hva.below (by repeat (first | exact Below.refl _ _ | (refine Below.alloc ?_ (by simp <;> omega) _)))) (ext_lit (by simp) (r64s (by decide)) (by decide)) (by decide)).mono ?_
  rintro e w4 ⟨rfl, hb⟩
  have hB : Below w3.heap.size w3 w4 := (bm (bm (bm hb)))
  have hT4 : Below w.heap.size w w4 := below_both hT3 hB
  clear hT3
  have hva := hva.below hB
  have hvb := hvb.below hB
  clear hb hB
  go_wp2_with (go_at_call 33; refine (e_any _ _ _).mono ?_; rintro e w' ⟨rfl, rfl⟩)
  refine (aw_same [(0, 2), (2, 2), (4, 1), (10, 2)] _ _ _ (hvb.below (by repeat (first | exact Below.refl _ _ | (refine Below.alloc ?_ (by simp <;> omega) _)))) (ext_lit (by simp) (r64s (by decide)) (by decide)) (by decide)).mono ?_
  rintro e w5 ⟨rfl, hb⟩
  have hB : Below w4.heap.size w4 w5 := (bm (bm (bm (bm (bm hb)))))
  have hT5 : Below w.heap.size w w5 := below_both hT4 hB
  clear hT4
  have hva := hva.below hB
  clear hb hB
  go_wp2_with (go_at_call 33; refine (e_any _ _ _).mono ?_; rintro e w' ⟨rfl, rfl⟩)
  refine (aw_check [(0, 2), (5, 6)] _ 11 0 _ hva (by decide) (by unfold R64; omega) (by decide)).mono ?_
  rintro e w6 ⟨rfl, hb⟩
  have hB : Below w5.heap.size w5 w6 := hb
  have hT6 : Below w.heap.size w w6 := below_both hT5 hB
  clear hT5
  have hva := hva.below hB
  clear hb hB
  go_wp2_with (go_at_call 33; refine (e_any _ _ _).mono ?_; rintro e w' ⟨rfl, rfl⟩)
  refine (aw_check [(0, 2), (5, 6)] _ 10 2 _ hva (by decide) (by unfold R64; omega) (by decide)).mono ?_
  rintro e w7 ⟨rfl, hb⟩
  have hB : Below w6.heap.size w6 w7 := hb
  have hT7 : Below w.heap.size w w7 := below_both hT6 hB
  clear hT6
  have hva := hva.below hB
  clear hb hB
  go_wp2_with (go_at_call 33; refine (e_any _ _ _).mono ?_; rintro e w' ⟨rfl, rfl⟩)
  refine (aw_check [(0, 2), (2, 1)] _ 5 3 _ (ext_lit (by simp) (r64s (by decide)) (by decide)) (by decide) (by unfold R64; omega) (by decide)).mono ?_
  rintro e w8 ⟨rfl, hb⟩
  have hB : Below w7.heap.size w7 w8 := (bm (bm (bm hb)))
  have hT8 : Below w.heap.size w w8 := below_both hT7 hB
  clear hT7
  have hva := hva.below hB
  clear hb hB
  go_wp2_with (go_at_call 33; refine (e_any _ _ _).mono ?_; rintro e w' ⟨rfl, rfl⟩)
  refine (aw_union _ _ _ ((ext_lit (by simp) (r64s (by decide)) (by decide)).below (al2 _ _ _)) (ext_lit (by simp) (r64s (by decide)) (by decide))).mono ?_
  rintro e w9 ⟨vu, rfl, hvu, hb⟩
  have hB : Below w8.heap.size w8 w9 := (bm (bm (bm (bm hb))))
  have hT9 : Below w.heap.size w w9 := below_both hT8 hB
  clear hT8
  have hva := hva.below hB
  clear hb hB
  go_wp2_with (go_at_call 33; refine (e_any _ _ _).mono ?_; rintro e w' ⟨rfl, rfl⟩)
  refine (aw_same [(0, 3)] _ _ _ (hvu.below (by repeat (first | exact Below.refl _ _ | (refine Below.alloc ?_ (by simp <;> omega) _)))) (ext_lit (by simp) (r64s (by decide)) (by decide)) (by decide)).mono ?_
  rintro e w10 ⟨rfl, hb⟩
  have hB : Below w9.heap.size w9 w10 := (bm (bm hb))
  have hT10 : Below w.heap.size w w10 := below_both hT9 hB
  clear hT9
  have hva := hva.below hB
  clear hb hB
  clear hvu
  go_wp2_with (go_at_call 33; refine (e_any _ _ _).mono ?_; rintro e w' ⟨rfl, rfl⟩)
  refine (aw_subtract _ _ _ ((ext_lit (by simp) (r64s (by decide)) (by decide)).below (al2 _ _ _)) (ext_lit (by simp) (r64s (by decide)) (by decide))).mono ?_
  rintro e w11 ⟨vu, rfl, hvu, hb⟩
  have hB : Below w10.heap.size w10 w11 := (bm (bm (bm (bm hb))))
  have hT11 : Below w.heap.size w w11 := below_both hT10 hB
  clear hT10
  have hva := hva.below hB
  clear hb hB
  go_wp2_with (go_at_call 33; refine (e_any _ _ _).mono ?_; rintro e w' ⟨rfl, rfl⟩)
  refine (aw_same [(0, 3), (5, 5)] _ _ _ (hvu.below (by repeat (first | exact Below.refl _ _ | (refine Below.alloc ?_ (by simp <;> omega) _)))) (ext_lit (by simp) (r64s (by decide)) (by decide)) (by decide)).mono ?_
  rintro e w12 ⟨rfl, hb⟩
  have hB : Below w11.heap.size w11 w12 := (bm (bm (bm hb)))
  have hT12 : Below w.heap.size w w12 := below_both hT11 hB
  clear hT11
  have hva := hva.below hB
  clear hb hB
  clear hvu
  go_wp2_with (go_at_call 33; refine (e_any _ _ _).mono ?_; rintro e w' ⟨rfl, rfl⟩)
  refine (aw_complement _ _ (ext_lit (by simp) (r64s (by decide)) (by decide))).mono ?_
  rintro e w13 ⟨vu, rfl, hvu, hb⟩
  have hB : Below w12.heap.size w12 w13 := (bm (bm hb))
  have hT13 : Below w.heap.size w w13 := below_both hT12 hB
  clear hT12
  have hva := hva.below hB
  clear hb hB
  go_wp2_with (go_at_call 33; refine (e_any _ _ _).mono ?_; rintro e w' ⟨rfl, rfl⟩)
  refine (aw_same [(0, 3), (5, 3)] _ _ _ (hvu.below (by repeat (first | exact Below.refl _ _ | (refine Below.alloc ?_ (by simp <;> omega) _)))) (ext_lit (by simp) (r64s (by decide)) (by decide)) (by decide)).mono ?_
  rintro e w14 ⟨rfl, hb⟩
  have hB : Below w13.heap.size w13 w14 := (bm (bm (bm hb)))
  have hT14 : Below w.heap.size w w14 := below_both hT13 hB
  clear hT13
  have hva := hva.below hB
  clear hb hB
  clear hvu
  go_wp2_with (go_at_call 33; refine (e_any _ _ _).mono ?_; rintro e w' ⟨rfl, rfl⟩)
  refine (aw_count _ _ (ext_lit (by simp) (r64s (by decide)) (by decide))).mono ?_
  rintro e w15 ⟨rfl, hb⟩
  have hB : Below w14.heap.size w14 w15 := (bm (bm hb))
  have hT15 : Below w.heap.size w w15 := below_both hT14 hB
  clear hT14
  have hva := hva.below hB
  clear hb hB
  go_wp2_with (go_at_call 33; refine (e_any _ _ _).mono ?_; rintro e w' ⟨rfl, rfl⟩)
  refine (aw_contains [(0, 2), (5, 6)] _ 10 true _ hva (by decide) (by decide)).mono ?_
  rintro e w16 ⟨rfl, hb⟩
  have hB : Below w15.heap.size w15 w16 := hb
  have hT16 : Below w.heap.size w w16 := below_both hT15 hB
  clear hT15
  have hva := hva.below hB
  clear hb hB
  go_wp2_with (go_at_call 33; refine (e_any _ _ _).mono ?_; rintro e w' ⟨rfl, rfl⟩)
  refine (aw_contains [(0, 2), (5, 6)] _ 11 false _ hva (by decide) (by decide)).mono ?_
  rintro e w17 ⟨rfl, hb⟩
  have hB : Below w16.heap.size w16 w17 := hb
  have hT17 : Below w.heap.size w w17 := below_both hT16 hB
  clear hT16
  clear hb hB
  go_wp2_with (go_at_call 33; refine (e_any _ _ _).mono ?_; rintro e w' ⟨rfl, rfl⟩)
  go_ret
  exact ⟨rfl, hT17⟩
end Go.Proofs.Ytkchenhkolpinaa
