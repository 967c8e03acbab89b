/- awake. -/
import Derived.Test.YtoefbgkeinhibaaSr
import Derived.Test.YtoefbgkeinhibaaSs
namespace Go.Proofs.Ytoefbgkeinhibaa
open Go.RowKit Go.Lib

theorem cut9 {G : World → Nat → Nat → Nat → Prop} {R : Prop} (F : World → Nat → Nat → Nat → Prop) (main : (∀ X a b c, F X a b c → G X a b c) → R) (cont : ∀ X a b c, F X a b c → G X a b c) : R := main cont
set_option maxHeartbeats 16000000 in
set_option maxRecDepth 100000 in
theorem awake_any (w : World) : Calls Try.prog 13 #[] w (TrueQ w) := by
  have S1 : ∀ W, Calls Try.prog 39 #[.int .u8 1] W fun e w' => e = .returned (.agg #[.int .u8 1, .int .u8 0, .int .u8 0, .int .u8 0, .int .u8 0, .int .u8 0, .int .u8 0, .int .u8 0]) ∧ Below W.heap.size W w' := fun W => sectorOf_any 1 W
  have S2 : ∀ W, Calls Try.prog 39 #[.int .u8 2] W fun e w' => e = .returned (.agg #[.int .u8 2, .int .u8 0, .int .u8 0, .int .u8 0, .int .u8 0, .int .u8 0, .int .u8 0, .int .u8 0]) ∧ Below W.heap.size W w' := fun W => sectorOf_any 2 W
  have S3 : ∀ W, Calls Try.prog 39 #[.int .u8 3] W fun e w' => e = .returned (.agg #[.int .u8 3, .int .u8 0, .int .u8 0, .int .u8 0, .int .u8 0, .int .u8 0, .int .u8 0, .int .u8 0]) ∧ Below W.heap.size W w' := fun W => sectorOf_any 3 W
  have HS1 := hid S1
  have HS2 := hid S2
  have HS3 := hid S3
  clear S1 S2 S3
  go_enter Try.func13, Try.ntmps13
  go_upto_region 2 with (first
    | (go_at_call 39; refine (HS1.out _).mono ?_; rintro e Y1 ⟨rfl, hb1⟩; have HB1 := hid hb1; clear hb1)
    | (go_at_call 39; refine (HS2.out _).mono ?_; rintro e Y2 ⟨rfl, hb2⟩; have HB2 := hid hb2; clear hb2)
    | (go_at_call 39; refine (HS3.out _).mono ?_; rintro e Y3 ⟨rfl, hb3⟩; have HB3 := hid hb3; clear hb3))
  obtain ⟨W4, hW4⟩ : ∃ X, (((Y3.alloc (.cells #[.int .u8 1, .int .u8 0, .int .u8 0, .int .u8 0, .int .u8 0, .int .u8 0, .int .u8 0, .int .u8 0] 73)).alloc (.cells #[.int .u8 2, .int .u8 0, .int .u8 0, .int .u8 0, .int .u8 0, .int .u8 0, .int .u8 0, .int .u8 0] 73)).alloc (.cells #[.int .u8 3, .int .u8 0, .int .u8 0, .int .u8 0, .int .u8 0, .int .u8 0, .int .u8 0, .int .u8 0] 73)).alloc (.cells #[.int .u8 0, .int .u8 0, .int .u8 0, .int .u8 0, .int .u8 0, .int .u8 0, .int .u8 0, .int .u8 0] 73) = X := ⟨_, rfl⟩
  obtain ⟨ga, hga⟩ : ∃ g, Y3.heap.size = g := ⟨_, rfl⟩
  rw [hW4, hga]
  have hxa : W4.heap[ga]? = some (.cells #[.int .u8 1, .int .u8 0, .int .u8 0, .int .u8 0, .int .u8 0, .int .u8 0, .int .u8 0, .int .u8 0] 73) := by rw [← hW4, ← hga, Below.heap_alloc _ _ _ (by simp; omega), Below.heap_alloc _ _ _ (by simp; omega), Below.heap_alloc _ _ _ (by simp)]; exact heap_alloc_new _ _
  have hxb : W4.heap[ga + 1]? = some (.cells #[.int .u8 2, .int .u8 0, .int .u8 0, .int .u8 0, .int .u8 0, .int .u8 0, .int .u8 0, .int .u8 0] 73) := by rw [← hW4, ← hga, Below.heap_alloc _ _ _ (by simp), Below.heap_alloc _ _ _ (by simp)]; simpa using heap_alloc_new (Y3.alloc (.cells #[.int .u8 1, .int .u8 0, .int .u8 0, .int .u8 0, .int .u8 0, .int .u8 0, .int .u8 0, .int .u8 0] 73)) (.cells #[.int .u8 2, .int .u8 0, .int .u8 0, .int .u8 0, .int .u8 0, .int .u8 0, .int .u8 0, .int .u8 0] 73)
  have hxc : W4.heap[ga + 1 + 1]? = some (.cells #[.int .u8 3, .int .u8 0, .int .u8 0, .int .u8 0, .int .u8 0, .int .u8 0, .int .u8 0, .int .u8 0] 73) := by rw [← hW4, ← hga, Below.heap_alloc _ _ _ (by simp)]; simpa using heap_alloc_new ((Y3.alloc (.cells #[.int .u8 1, .int .u8 0, .int .u8 0, .int .u8 0, .int .u8 0, .int .u8 0, .int .u8 0, .int .u8 0] 73)).alloc (.cells #[.int .u8 2, .int .u8 0, .int .u8 0, .int .u8 0, .int .u8 0, .int .u8 0, .int .u8 0, .int .u8 0] 73)) (.cells #[.int .u8 3, .int .u8 0, .int .u8 0, .int .u8 0, .int .u8 0, .int .u8 0, .int .u8 0, .int .u8 0] 73)
  have hxo : W4.heap[ga + 1 + 1 + 1]? = some (.cells #[.int .u8 0, .int .u8 0, .int .u8 0, .int .u8 0, .int .u8 0, .int .u8 0, .int .u8 0, .int .u8 0] 73) := by rw [← hW4, ← hga]; simpa using heap_alloc_new (((Y3.alloc (.cells #[.int .u8 1, .int .u8 0, .int .u8 0, .int .u8 0, .int .u8 0, .int .u8 0, .int .u8 0, .int .u8 0] 73)).alloc (.cells #[.int .u8 2, .int .u8 0, .int .u8 0, .int .u8 0, .int .u8 0, .int .u8 0, .int .u8 0, .int .u8 0] 73)).alloc (.cells #[.int .u8 3, .int .u8 0, .int .u8 0, .int .u8 0, .int .u8 0, .int .u8 0, .int .u8 0, .int .u8 0] 73)) (.cells #[.int .u8 0, .int .u8 0, .int .u8 0, .int .u8 0, .int .u8 0, .int .u8 0, .int .u8 0, .int .u8 0] 73)
  have HBW : Hid (Below w.heap.size w W4) := hid (by
    rw [← hW4]
    have h := below_both (below_both HB1.out HB2.out) HB3.out
    exact ((((h.alloc h.size _).alloc (Nat.le_trans h.size (by simp)) _).alloc (Nat.le_trans h.size (by simp; omega)) _).alloc (Nat.le_trans h.size (by simp; omega)) _))
  obtain ⟨gb, hgb⟩ : ∃ g, ga + 1 = g := ⟨_, rfl⟩
  rw [hgb] at hxb hxc hxo ⊢
  obtain ⟨gc, hgc⟩ : ∃ g, gb + 1 = g := ⟨_, rfl⟩
  rw [hgc] at hxc hxo ⊢
  obtain ⟨go_, hgo⟩ : ∃ g, gc + 1 = g := ⟨_, rfl⟩
  rw [hgo] at hxo ⊢
  have HBX := hid (fun X (hX : Below W4.heap.size W4 X) => (show X.heap[ga]? = some (.cells #[.int .u8 1, .int .u8 0, .int .u8 0, .int .u8 0, .int .u8 0, .int .u8 0, .int .u8 0, .int .u8 0] 73) ∧ X.heap[gb]? = some (.cells #[.int .u8 2, .int .u8 0, .int .u8 0, .int .u8 0, .int .u8 0, .int .u8 0, .int .u8 0, .int .u8 0] 73) ∧ X.heap[gc]? = some (.cells #[.int .u8 3, .int .u8 0, .int .u8 0, .int .u8 0, .int .u8 0, .int .u8 0, .int .u8 0, .int .u8 0] 73) ∧ X.heap[go_]? = some (.cells #[.int .u8 0, .int .u8 0, .int .u8 0, .int .u8 0, .int .u8 0, .int .u8 0, .int .u8 0, .int .u8 0] 73) from ⟨(hX.block _ (box_lt hxa)).trans hxa, (hX.block _ (box_lt hxb)).trans hxb, (hX.block _ (box_lt hxc)).trans hxc, (hX.block _ (box_lt hxo)).trans hxo⟩))
  clear hW4 hga hxa hxb hxc hxo hgb hgc hgo HB1 HB2 HB3 HS1 HS2 HS3
  go_upto_region 3 with (go_at_call 20; refine (new3 W4).mono ?_; rintro e Y5 ⟨A5, c5, B5, d5, rfl, ho5, hb5⟩; have HO5 := hid ho5; have HB5 := hid hb5; clear ho5 hb5)
  obtain ⟨W5, hW5⟩ : ∃ X, Y5.alloc (.cells #[.slice A5 3 c5, .slice B5 0 d5] 25) = X := ⟨_, rfl⟩
  obtain ⟨pd, hpd⟩ : ∃ g, Y5.heap.size = g := ⟨_, rfl⟩
  have hb55 : Below Y5.heap.size Y5 W5 := by rw [← hW5]; exact al1 _ _
  have hxd : W5.heap[pd]? = some (.cells #[.slice A5 3 c5, .slice B5 0 d5] 25) := by rw [← hW5, ← hpd]; exact heap_alloc_new _ _
  rw [hW5, hpd]
  have HB45 : Hid (Below W4.heap.size W4 W5) := hid (below_both HB5.out hb55)
  have HDD := hid (fun X (hX : Below W5.heap.size W5 X) => (show X.heap[pd]? = some (.cells #[.slice A5 3 c5, .slice B5 0 d5] 25) ∧ Dk X (.agg #[.slice A5 3 c5, .slice B5 0 d5]) st3 [] from ⟨(hX.block _ (box_lt hxd)).trans hxd, (HO5.out.dk.below hb55).below hX⟩))
  clear hW5 hpd hb55 hxd HO5 HB5
  refine aw_r3 _ (fun _ _ d _ _ h => by cases d <;> exact h) W4 W5 ga gb gc go_ pd A5 c5 B5 d5 HB45 HBX HDD ?_
  intro W6 h3 h6 h8 pe A9 c9 B9 d9 hF
  obtain ⟨hb6, hxe, hde⟩ := hF
  have HB46 : Hid (Below W4.heap.size W4 W6) := hid (below_both HB45.out hb6)
  have HB6 := hid hb6
  have HEE := hid (fun X (hX : Below W6.heap.size W6 X) => (show X.heap[pe]? = some (.cells #[.slice A9 3 c9, .slice B9 3 d9] 25) ∧ Dk X (.agg #[.slice A9 3 c9, .slice B9 3 d9]) st3 ca3 from ⟨(hX.block _ (box_lt hxe)).trans hxe, hde.below hX⟩))
  have e0 := cell_of_row _ _ 0 _ _ _ hxe
  have e1 := cell_of_row _ _ 1 _ _ _ hxe
  have HC16 := hid (aw_call16 hde)
  clear hb6 hxe hde
  go_upto_region 5 with (go_at_call 16; refine HC16.out.mono ?_; rintro e W7 ⟨A7, c7, rfl, hs7, hb7⟩; have HS7 := hid hs7; have HB7 := hid hb7; clear hs7 hb7)
  have HB47 : Hid (Below W4.heap.size W4 W7) := hid (below_both HB46.out HB7.out)
  obtain ⟨za, zb, zc, zo⟩ := HBX.out W7 HB47.out
  have qa0 := cell_of_row _ _ 0 _ _ _ za
  have qa1 := cell_of_row _ _ 1 _ _ _ za
  have qa2 := cell_of_row _ _ 2 _ _ _ za
  have qa3 := cell_of_row _ _ 3 _ _ _ za
  have qa4 := cell_of_row _ _ 4 _ _ _ za
  have qa5 := cell_of_row _ _ 5 _ _ _ za
  have qa6 := cell_of_row _ _ 6 _ _ _ za
  have qa7 := cell_of_row _ _ 7 _ _ _ za
  have qc0 := cell_of_row _ _ 0 _ _ _ zc
  have qc1 := cell_of_row _ _ 1 _ _ _ zc
  have qc2 := cell_of_row _ _ 2 _ _ _ zc
  have qc3 := cell_of_row _ _ 3 _ _ _ zc
  have qc4 := cell_of_row _ _ 4 _ _ _ zc
  have qc5 := cell_of_row _ _ 5 _ _ _ zc
  have qc6 := cell_of_row _ _ 6 _ _ _ zc
  have qc7 := cell_of_row _ _ 7 _ _ _ zc
  have qo0 := cell_of_row _ _ 0 _ _ _ zo
  have qo1 := cell_of_row _ _ 1 _ _ _ zo
  have qo2 := cell_of_row _ _ 2 _ _ _ zo
  have qo3 := cell_of_row _ _ 3 _ _ _ zo
  have qo4 := cell_of_row _ _ 4 _ _ _ zo
  have qo5 := cell_of_row _ _ 5 _ _ _ zo
  have qo6 := cell_of_row _ _ 6 _ _ _ zo
  have qo7 := cell_of_row _ _ 7 _ _ _ zo
  clear za zb zc zo
  have HC19 : Hid (Calls Try.prog 19 #[.slice A7 3 c7, .slice (some ⟨W7.heap.size, 0, none⟩) 3 3] (W7.alloc (.cells #[.int .u8 1, .int .u8 0, .int .u8 0, .int .u8 0, .int .u8 0, .int .u8 0, .int .u8 0, .int .u8 0, .int .u8 3, .int .u8 0, .int .u8 0, .int .u8 0, .int .u8 0, .int .u8 0, .int .u8 0, .int .u8 0, .int .u8 0, .int .u8 0, .int .u8 0, .int .u8 0, .int .u8 0, .int .u8 0, .int .u8 0, .int .u8 0] 73)) fun e w' => e = .returned (.bool true) ∧ Below (W7.alloc (.cells #[.int .u8 1, .int .u8 0, .int .u8 0, .int .u8 0, .int .u8 0, .int .u8 0, .int .u8 0, .int .u8 0, .int .u8 3, .int .u8 0, .int .u8 0, .int .u8 0, .int .u8 0, .int .u8 0, .int .u8 0, .int .u8 0, .int .u8 0, .int .u8 0, .int .u8 0, .int .u8 0, .int .u8 0, .int .u8 0, .int .u8 0, .int .u8 0] 73)).heap.size (W7.alloc (.cells #[.int .u8 1, .int .u8 0, .int .u8 0, .int .u8 0, .int .u8 0, .int .u8 0, .int .u8 0, .int .u8 0, .int .u8 3, .int .u8 0, .int .u8 0, .int .u8 0, .int .u8 0, .int .u8 0, .int .u8 0, .int .u8 0, .int .u8 0, .int .u8 0, .int .u8 0, .int .u8 0, .int .u8 0, .int .u8 0, .int .u8 0, .int .u8 0] 73)) w') := hid (aw_same (HS7.out.below (al1 _ _)) (sec_lit (l := [sA, sC, zs]) (secABC (by decide)) (by decide) (heap_alloc_new _ _)))
  clear e0 e1
  go_upto_region 7 with (go_at_call 19; refine HC19.out.mono ?_; rintro e W8 ⟨rfl, hb8⟩; have HB8 := hid hb8; clear hb8)
  clear qa0 qa1 qa2 qa3 qa4 qa5 qa6 qa7 qc0 qc1 qc2 qc3 qc4 qc5 qc6 qc7 qo0 qo1 qo2 qo3 qo4 qo5 qo6 qo7
  have HB68 : Hid (Below W6.heap.size W6 W8) := hid (below_both HB7.out (below_both (al1 _ _) HB8.out))
  have HB48 : Hid (Below W4.heap.size W4 W8) := hid (below_both HB46.out HB68.out)
  refine aw_r7 _ (fun _ _ d _ _ h => by cases d <;> exact h) W4 W6 W7 W8 ga gb gc go_ pd pe h3 h6 h8 c5 d5 c7 c9 d9 A5 B5 A7 A9 B9 HB48 HB68 HBX HEE ?_
  intro W9 k1 k2 k3 k4 k5 A74 c74 A84 c84 A94 c94 hb9
  have HB89 := hid hb9
  have HB49 : Hid (Below W4.heap.size W4 W9) := hid (below_both HB48.out hb9)
  have HB59 : Hid (Below W5.heap.size W5 W9) := hid (below_both HB6.out (below_both HB68.out hb9))
  clear hb9
  go_upto_region 9 with fail
  have HW0 := hid (fun (A : Option Addr) (n c : Nat) (W : World) => (show Calls Try.prog 40 #[.int .i64 0, .slice A n c] W fun e w' => e = .returned (.agg #[.int .i64 0, .int .i64 0, .slice A n c]) ∧ Below W.heap.size W w' from writeOp_any 0 A n c W))
  have HSY := hid (fun (W : World) => syncOp_any W)
  have HK9 := hid (fun (X : World) (hX : Below W9.heap.size W9 X) => (show X.cell? ⟨ga, 0, none⟩ = some (.int .u8 1) ∧ X.cell? ⟨ga, 1, none⟩ = some (.int .u8 0) ∧ X.cell? ⟨ga, 2, none⟩ = some (.int .u8 0) ∧ X.cell? ⟨ga, 3, none⟩ = some (.int .u8 0) ∧ X.cell? ⟨ga, 4, none⟩ = some (.int .u8 0) ∧ X.cell? ⟨ga, 5, none⟩ = some (.int .u8 0) ∧ X.cell? ⟨ga, 6, none⟩ = some (.int .u8 0) ∧ X.cell? ⟨ga, 7, none⟩ = some (.int .u8 0) ∧ X.cell? ⟨gb, 0, none⟩ = some (.int .u8 2) ∧ X.cell? ⟨gb, 1, none⟩ = some (.int .u8 0) ∧ X.cell? ⟨gb, 2, none⟩ = some (.int .u8 0) ∧ X.cell? ⟨gb, 3, none⟩ = some (.int .u8 0) ∧ X.cell? ⟨gb, 4, none⟩ = some (.int .u8 0) ∧ X.cell? ⟨gb, 5, none⟩ = some (.int .u8 0) ∧ X.cell? ⟨gb, 6, none⟩ = some (.int .u8 0) ∧ X.cell? ⟨gb, 7, none⟩ = some (.int .u8 0) from (by
    obtain ⟨e0, e1, _⟩ := HBX.out X (below_both HB49.out hX)
    exact ⟨cell_of_row _ _ 0 _ _ _ e0, cell_of_row _ _ 1 _ _ _ e0, cell_of_row _ _ 2 _ _ _ e0, cell_of_row _ _ 3 _ _ _ e0, cell_of_row _ _ 4 _ _ _ e0, cell_of_row _ _ 5 _ _ _ e0, cell_of_row _ _ 6 _ _ _ e0, cell_of_row _ _ 7 _ _ _ e0, cell_of_row _ _ 0 _ _ _ e1, cell_of_row _ _ 1 _ _ _ e1, cell_of_row _ _ 2 _ _ _ e1, cell_of_row _ _ 3 _ _ _ e1, cell_of_row _ _ 4 _ _ _ e1, cell_of_row _ _ 5 _ _ _ e1, cell_of_row _ _ 6 _ _ _ e1, cell_of_row _ _ 7 _ _ _ e1⟩)))
  apply cut9 (fun X a b c => Below W9.heap.size W9 X ∧ X.heap[a]? = some (.cells #[.int .u8 1, .int .u8 0, .int .u8 0, .int .u8 0, .int .u8 0, .int .u8 0, .int .u8 0, .int .u8 0] 73) ∧ X.heap[b]? = some (.cells #[.int .u8 2, .int .u8 0, .int .u8 0, .int .u8 0, .int .u8 0, .int .u8 0, .int .u8 0, .int .u8 0] 73) ∧ X.heap[c]? = some (.cells #[.int .i64 0, .int .i64 0, .slice (some ⟨a, 0, none⟩) 1 1, .int .i64 1, .int .i64 0, .slice none 0 0, .int .i64 0, .int .i64 0, .slice (some ⟨b, 0, none⟩) 1 1] 27))
  · intro HC
    have HC := hid HC
    refine region_tail 8 (fun X => X.cell? ⟨ga, 0, none⟩ = some (.int .u8 1) ∧ X.cell? ⟨ga, 1, none⟩ = some (.int .u8 0) ∧ X.cell? ⟨ga, 2, none⟩ = some (.int .u8 0) ∧ X.cell? ⟨ga, 3, none⟩ = some (.int .u8 0) ∧ X.cell? ⟨ga, 4, none⟩ = some (.int .u8 0) ∧ X.cell? ⟨ga, 5, none⟩ = some (.int .u8 0) ∧ X.cell? ⟨ga, 6, none⟩ = some (.int .u8 0) ∧ X.cell? ⟨ga, 7, none⟩ = some (.int .u8 0) ∧ X.cell? ⟨gb, 0, none⟩ = some (.int .u8 2) ∧ X.cell? ⟨gb, 1, none⟩ = some (.int .u8 0) ∧ X.cell? ⟨gb, 2, none⟩ = some (.int .u8 0) ∧ X.cell? ⟨gb, 3, none⟩ = some (.int .u8 0) ∧ X.cell? ⟨gb, 4, none⟩ = some (.int .u8 0) ∧ X.cell? ⟨gb, 5, none⟩ = some (.int .u8 0) ∧ X.cell? ⟨gb, 6, none⟩ = some (.int .u8 0) ∧ X.cell? ⟨gb, 7, none⟩ = some (.int .u8 0)) (by kernel_rfl) ?_
    obtain ⟨X0, hX0⟩ : ∃ X, W9.drew = X := ⟨_, rfl⟩
    have hB0 : Below W9.heap.size W9 X0 := by rw [← hX0]; exact (Below.refl W9.heap.size W9).drew
    have hHeld := HK9.out X0 hB0
    rw [hX0]
    clear hX0
    refine' wpAnyT_take (i := 0) (oi := ?oiu1) (v := ?vu1) ?hiu1 (by kernel_rfl) (by kernel_rfl) ?hqu1 ?hyu1 hHeld ?restu1
    case hiu1 => (simp only [List.getElem?_toArray, List.getElem?_cons_zero]; rfl)
    case hqu1 => exact fun _ _ _ h => h
    case hyu1 => (refine Or.inl ⟨by rfl, ?_⟩; intro w' hSw; (try dsimp only at hSw); go_simp; try with_reducible rfl)
    (try simp only [Act.put, List.setIfInBounds_toArray, List.set_cons_zero, List.set_cons_succ])
    refine' wpAnyT_take (i := 4) (oi := ?oiu2) (v := ?vu2) ?hiu2 (by kernel_rfl) (by kernel_rfl) ?hqu2 ?hyu2 hHeld ?restu2
    case hiu2 => (simp only [List.getElem?_toArray, List.getElem?_cons_zero, List.getElem?_cons_succ]; rfl)
    case hqu2 => exact fun _ _ _ h => h
    case hyu2 => (refine Or.inl ⟨by rfl, ?_⟩; intro w' hSw; (try dsimp only at hSw); go_simp; try with_reducible rfl)
    (try simp only [Act.put, List.setIfInBounds_toArray, List.set_cons_zero, List.set_cons_succ])
    refine wpAnyT_all (l := [1, 5]) (by kernel_rfl) (by decide) ?_
    intro i hi
    simp only [List.mem_cons, List.not_mem_nil, or_false] at hi
    rcases hi with rfl | rfl
    · refine ⟨_, by (simp only [List.getElem?_toArray, List.getElem?_cons_zero, List.getElem?_cons_succ]; rfl), fun K hK => ?_⟩
      go_simp
      obtain ⟨Yu103, hY⟩ : ∃ X, X0.alloc (.cells #[.int .u8 1, .int .u8 0, .int .u8 0, .int .u8 0, .int .u8 0, .int .u8 0, .int .u8 0, .int .u8 0] 73) = X := ⟨_, rfl⟩
      obtain ⟨m1, hh⟩ : ∃ h, X0.heap.size = h := ⟨_, rfl⟩
      have hbb103 : Below X0.heap.size X0 Yu103 := by rw [← hY]; exact al1 _ _
      have HZm1 : Hid (Yu103.heap[m1]? = some (.cells #[.int .u8 1, .int .u8 0, .int .u8 0, .int .u8 0, .int .u8 0, .int .u8 0, .int .u8 0, .int .u8 0] 73)) := hid (by rw [← hY, ← hh]; exact heap_alloc_new _ _)
      rw [hY, hh]
      clear hY hh
      clear hHeld
      have hHeld := HK9.out Yu103 (below_both hB0 hbb103)
      refine hK.out _ _ (fun _ => hHeld) ?_
      clear hK K
      (try simp only [Act.put, List.setIfInBounds_toArray, List.set_cons_zero, List.set_cons_succ])
      refine wpAnyT_all (l := [2, 5]) (by kernel_rfl) (by decide) ?_
      intro i hi
      simp only [List.mem_cons, List.not_mem_nil, or_false] at hi
      rcases hi with rfl | rfl
      · refine ⟨_, by (simp only [List.getElem?_toArray, List.getElem?_cons_zero, List.getElem?_cons_succ]; rfl), fun K hK => ?_⟩
        go_simp
        go_at_call 40
        refine (HW0.out (some ⟨m1, 0, none⟩) 1 1 Yu103).mono ?_
        rintro e Yu104 ⟨rfl, hbb104⟩
        clear hHeld
        have hHeld := HK9.out Yu104 (below_both hB0 (below_both hbb103 hbb104))
        refine hK.out _ _ (fun _ => hHeld) ?_
        clear hK K
        (try simp only [Act.put, List.setIfInBounds_toArray, List.set_cons_zero, List.set_cons_succ])
        refine wpAnyT_all (l := [3, 5]) (by kernel_rfl) (by decide) ?_
        intro i hi
        simp only [List.mem_cons, List.not_mem_nil, or_false] at hi
        rcases hi with rfl | rfl
        · refine ⟨_, by (simp only [List.getElem?_toArray, List.getElem?_cons_zero, List.getElem?_cons_succ]; rfl), fun K hK => ?_⟩
          go_simp
          go_at_call 38
          refine (HSY.out Yu104).mono ?_
          rintro e Yu105 ⟨rfl, hbb105⟩
          clear hHeld
          have hHeld := HK9.out Yu105 (below_both hB0 (below_both (below_both hbb103 hbb104) hbb105))
          refine hK.out _ _ (fun _ => hHeld) ?_
          clear hK K
          (try simp only [Act.put, List.setIfInBounds_toArray, List.set_cons_zero, List.set_cons_succ])
          refine' wpAnyT_one (i := 5) (o := ?oiu3) (by kernel_rfl) ?hiu3 (fun K hK => ?stu3)
          case hiu3 => (simp only [List.getElem?_toArray, List.getElem?_cons_zero, List.getElem?_cons_succ]; rfl)
          go_simp
          obtain ⟨Yu107, hY⟩ : ∃ X, Yu105.alloc (.cells #[.int .u8 2, .int .u8 0, .int .u8 0, .int .u8 0, .int .u8 0, .int .u8 0, .int .u8 0, .int .u8 0] 73) = X := ⟨_, rfl⟩
          obtain ⟨m2, hh⟩ : ∃ h, Yu105.heap.size = h := ⟨_, rfl⟩
          have hbb107 : Below Yu105.heap.size Yu105 Yu107 := by rw [← hY]; exact al1 _ _
          have HZm2 : Hid (Yu107.heap[m2]? = some (.cells #[.int .u8 2, .int .u8 0, .int .u8 0, .int .u8 0, .int .u8 0, .int .u8 0, .int .u8 0, .int .u8 0] 73)) := hid (by rw [← hY, ← hh]; exact heap_alloc_new _ _)
          rw [hY, hh]
          clear hY hh
          clear hHeld
          have hHeld := HK9.out Yu107 (below_both hB0 (below_both (below_both (below_both hbb103 hbb104) hbb105) hbb107))
          refine hK.out _ _ (fun _ => hHeld) ?_
          clear hK K
          (try simp only [Act.put, List.setIfInBounds_toArray, List.set_cons_zero, List.set_cons_succ])
          refine' wpAnyT_one (i := 6) (o := ?oiu4) (by kernel_rfl) ?hiu4 (fun K hK => ?stu4)
          case hiu4 => (simp only [List.getElem?_toArray, List.getElem?_cons_zero, List.getElem?_cons_succ]; rfl)
          go_simp
          go_at_call 40
          refine (HW0.out (some ⟨m2, 0, none⟩) 1 1 Yu107).mono ?_
          rintro e Yu108 ⟨rfl, hbb108⟩
          clear hHeld
          have hHeld := HK9.out Yu108 (below_both hB0 (below_both (below_both (below_both (below_both hbb103 hbb104) hbb105) hbb107) hbb108))
          refine hK.out _ _ (fun _ => hHeld) ?_
          clear hK K
          (try simp only [Act.put, List.setIfInBounds_toArray, List.set_cons_zero, List.set_cons_succ])
          refine' wpAnyT_one (i := 7) (o := ?oiu5) (by kernel_rfl) ?hiu5 (fun K hK => ?stu5)
          case hiu5 => (simp only [List.getElem?_toArray, List.getElem?_cons_zero, List.getElem?_cons_succ]; rfl)
          go_simp
          obtain ⟨Yu109, hY⟩ : ∃ X, Yu108.alloc (.cells #[.int .i64 0, .int .i64 0, .slice (some ⟨m1, 0, none⟩) 1 1, .int .i64 1, .int .i64 0, .slice none 0 0, .int .i64 0, .int .i64 0, .slice (some ⟨m2, 0, none⟩) 1 1] 27) = X := ⟨_, rfl⟩
          obtain ⟨m3, hh⟩ : ∃ h, Yu108.heap.size = h := ⟨_, rfl⟩
          have hbb109 : Below Yu108.heap.size Yu108 Yu109 := by rw [← hY]; exact al1 _ _
          have HZm3 : Hid (Yu109.heap[m3]? = some (.cells #[.int .i64 0, .int .i64 0, .slice (some ⟨m1, 0, none⟩) 1 1, .int .i64 1, .int .i64 0, .slice none 0 0, .int .i64 0, .int .i64 0, .slice (some ⟨m2, 0, none⟩) 1 1] 27)) := hid (by rw [← hY, ← hh]; exact heap_alloc_new _ _)
          rw [hY, hh]
          clear hY hh
          clear hHeld
          have hHeld := HK9.out Yu109 (below_both hB0 (below_both (below_both (below_both (below_both (below_both hbb103 hbb104) hbb105) hbb107) hbb108) hbb109))
          refine hK.out _ _ (fun _ => hHeld) ?_
          clear hK K
          (try simp only [Act.put, List.setIfInBounds_toArray, List.set_cons_zero, List.set_cons_succ])
          refine' wpAnyT_one (i := 8) (o := ?oiu6) (by kernel_rfl) ?hiu6 (fun K hK => ?stu6)
          case hiu6 => (simp only [List.getElem?_toArray, List.getElem?_cons_zero, List.getElem?_cons_succ]; rfl)
          go_simp
          refine hK.out _ _ (fun h => absurd h (by decide)) ?_
          clear hK K
          (try simp only [Act.put, List.setIfInBounds_toArray, List.set_cons_zero, List.set_cons_succ])
          refine wpAnyT_done (by kernel_rfl) ?_ _
          exact HC.out Yu109 m1 m2 m3 ⟨(below_both hB0 (below_both (below_both (below_both (below_both (below_both hbb103 hbb104) hbb105) hbb107) hbb108) hbb109)), (((below_both (below_both (below_both (below_both hbb104 hbb105) hbb107) hbb108) hbb109).block _ (box_lt HZm1.out)).trans HZm1.out), (((below_both hbb108 hbb109).block _ (box_lt HZm2.out)).trans HZm2.out), (((Below.refl _ _).block _ (box_lt HZm3.out)).trans HZm3.out)⟩
        · refine ⟨_, by (simp only [List.getElem?_toArray, List.getElem?_cons_zero, List.getElem?_cons_succ]; rfl), fun K hK => ?_⟩
          go_simp
          obtain ⟨Yu107, hY⟩ : ∃ X, Yu104.alloc (.cells #[.int .u8 2, .int .u8 0, .int .u8 0, .int .u8 0, .int .u8 0, .int .u8 0, .int .u8 0, .int .u8 0] 73) = X := ⟨_, rfl⟩
          obtain ⟨m2, hh⟩ : ∃ h, Yu104.heap.size = h := ⟨_, rfl⟩
          have hbb107 : Below Yu104.heap.size Yu104 Yu107 := by rw [← hY]; exact al1 _ _
          have HZm2 : Hid (Yu107.heap[m2]? = some (.cells #[.int .u8 2, .int .u8 0, .int .u8 0, .int .u8 0, .int .u8 0, .int .u8 0, .int .u8 0, .int .u8 0] 73)) := hid (by rw [← hY, ← hh]; exact heap_alloc_new _ _)
          rw [hY, hh]
          clear hY hh
          clear hHeld
          have hHeld := HK9.out Yu107 (below_both hB0 (below_both (below_both hbb103 hbb104) hbb107))
          refine hK.out _ _ (fun _ => hHeld) ?_
          clear hK K
          (try simp only [Act.put, List.setIfInBounds_toArray, List.set_cons_zero, List.set_cons_succ])
          refine' wpAnyT_one (i := 3) (o := ?oiu7) (by kernel_rfl) ?hiu7 (fun K hK => ?stu7)
          case hiu7 => (simp only [List.getElem?_toArray, List.getElem?_cons_zero, List.getElem?_cons_succ]; rfl)
          go_simp
          go_at_call 38
          refine (HSY.out Yu107).mono ?_
          rintro e Yu105 ⟨rfl, hbb105⟩
          clear hHeld
          have hHeld := HK9.out Yu105 (below_both hB0 (below_both (below_both (below_both hbb103 hbb104) hbb107) hbb105))
          refine hK.out _ _ (fun _ => hHeld) ?_
          clear hK K
          (try simp only [Act.put, List.setIfInBounds_toArray, List.set_cons_zero, List.set_cons_succ])
          refine' wpAnyT_one (i := 6) (o := ?oiu8) (by kernel_rfl) ?hiu8 (fun K hK => ?stu8)
          case hiu8 => (simp only [List.getElem?_toArray, List.getElem?_cons_zero, List.getElem?_cons_succ]; rfl)
          go_simp
          go_at_call 40
          refine (HW0.out (some ⟨m2, 0, none⟩) 1 1 Yu105).mono ?_
          rintro e Yu108 ⟨rfl, hbb108⟩
          clear hHeld
          have hHeld := HK9.out Yu108 (below_both hB0 (below_both (below_both (below_both (below_both hbb103 hbb104) hbb107) hbb105) hbb108))
          refine hK.out _ _ (fun _ => hHeld) ?_
          clear hK K
          (try simp only [Act.put, List.setIfInBounds_toArray, List.set_cons_zero, List.set_cons_succ])
          refine' wpAnyT_one (i := 7) (o := ?oiu9) (by kernel_rfl) ?hiu9 (fun K hK => ?stu9)
          case hiu9 => (simp only [List.getElem?_toArray, List.getElem?_cons_zero, List.getElem?_cons_succ]; rfl)
          go_simp
          obtain ⟨Yu109, hY⟩ : ∃ X, Yu108.alloc (.cells #[.int .i64 0, .int .i64 0, .slice (some ⟨m1, 0, none⟩) 1 1, .int .i64 1, .int .i64 0, .slice none 0 0, .int .i64 0, .int .i64 0, .slice (some ⟨m2, 0, none⟩) 1 1] 27) = X := ⟨_, rfl⟩
          obtain ⟨m3, hh⟩ : ∃ h, Yu108.heap.size = h := ⟨_, rfl⟩
          have hbb109 : Below Yu108.heap.size Yu108 Yu109 := by rw [← hY]; exact al1 _ _
          have HZm3 : Hid (Yu109.heap[m3]? = some (.cells #[.int .i64 0, .int .i64 0, .slice (some ⟨m1, 0, none⟩) 1 1, .int .i64 1, .int .i64 0, .slice none 0 0, .int .i64 0, .int .i64 0, .slice (some ⟨m2, 0, none⟩) 1 1] 27)) := hid (by rw [← hY, ← hh]; exact heap_alloc_new _ _)
          rw [hY, hh]
          clear hY hh
          clear hHeld
          have hHeld := HK9.out Yu109 (below_both hB0 (below_both (below_both (below_both (below_both (below_both hbb103 hbb104) hbb107) hbb105) hbb108) hbb109))
          refine hK.out _ _ (fun _ => hHeld) ?_
          clear hK K
          (try simp only [Act.put, List.setIfInBounds_toArray, List.set_cons_zero, List.set_cons_succ])
          refine' wpAnyT_one (i := 8) (o := ?oiu10) (by kernel_rfl) ?hiu10 (fun K hK => ?stu10)
          case hiu10 => (simp only [List.getElem?_toArray, List.getElem?_cons_zero, List.getElem?_cons_succ]; rfl)
          go_simp
          refine hK.out _ _ (fun h => absurd h (by decide)) ?_
          clear hK K
          (try simp only [Act.put, List.setIfInBounds_toArray, List.set_cons_zero, List.set_cons_succ])
          refine wpAnyT_done (by kernel_rfl) ?_ _
          exact HC.out Yu109 m1 m2 m3 ⟨(below_both hB0 (below_both (below_both (below_both (below_both (below_both hbb103 hbb104) hbb107) hbb105) hbb108) hbb109)), (((below_both (below_both (below_both (below_both hbb104 hbb107) hbb105) hbb108) hbb109).block _ (box_lt HZm1.out)).trans HZm1.out), (((below_both (below_both hbb105 hbb108) hbb109).block _ (box_lt HZm2.out)).trans HZm2.out), (((Below.refl _ _).block _ (box_lt HZm3.out)).trans HZm3.out)⟩
      · refine ⟨_, by (simp only [List.getElem?_toArray, List.getElem?_cons_zero, List.getElem?_cons_succ]; rfl), fun K hK => ?_⟩
        go_simp
        obtain ⟨Yu107, hY⟩ : ∃ X, Yu103.alloc (.cells #[.int .u8 2, .int .u8 0, .int .u8 0, .int .u8 0, .int .u8 0, .int .u8 0, .int .u8 0, .int .u8 0] 73) = X := ⟨_, rfl⟩
        obtain ⟨m2, hh⟩ : ∃ h, Yu103.heap.size = h := ⟨_, rfl⟩
        have hbb107 : Below Yu103.heap.size Yu103 Yu107 := by rw [← hY]; exact al1 _ _
        have HZm2 : Hid (Yu107.heap[m2]? = some (.cells #[.int .u8 2, .int .u8 0, .int .u8 0, .int .u8 0, .int .u8 0, .int .u8 0, .int .u8 0, .int .u8 0] 73)) := hid (by rw [← hY, ← hh]; exact heap_alloc_new _ _)
        rw [hY, hh]
        clear hY hh
        clear hHeld
        have hHeld := HK9.out Yu107 (below_both hB0 (below_both hbb103 hbb107))
        refine hK.out _ _ (fun _ => hHeld) ?_
        clear hK K
        (try simp only [Act.put, List.setIfInBounds_toArray, List.set_cons_zero, List.set_cons_succ])
        refine' wpAnyT_one (i := 2) (o := ?oiu11) (by kernel_rfl) ?hiu11 (fun K hK => ?stu11)
        case hiu11 => (simp only [List.getElem?_toArray, List.getElem?_cons_zero, List.getElem?_cons_succ]; rfl)
        go_simp
        go_at_call 40
        refine (HW0.out (some ⟨m1, 0, none⟩) 1 1 Yu107).mono ?_
        rintro e Yu104 ⟨rfl, hbb104⟩
        clear hHeld
        have hHeld := HK9.out Yu104 (below_both hB0 (below_both (below_both hbb103 hbb107) hbb104))
        refine hK.out _ _ (fun _ => hHeld) ?_
        clear hK K
        (try simp only [Act.put, List.setIfInBounds_toArray, List.set_cons_zero, List.set_cons_succ])
        refine' wpAnyT_one (i := 3) (o := ?oiu12) (by kernel_rfl) ?hiu12 (fun K hK => ?stu12)
        case hiu12 => (simp only [List.getElem?_toArray, List.getElem?_cons_zero, List.getElem?_cons_succ]; rfl)
        go_simp
        go_at_call 38
        refine (HSY.out Yu104).mono ?_
        rintro e Yu105 ⟨rfl, hbb105⟩
        clear hHeld
        have hHeld := HK9.out Yu105 (below_both hB0 (below_both (below_both (below_both hbb103 hbb107) hbb104) hbb105))
        refine hK.out _ _ (fun _ => hHeld) ?_
        clear hK K
        (try simp only [Act.put, List.setIfInBounds_toArray, List.set_cons_zero, List.set_cons_succ])
        refine' wpAnyT_one (i := 6) (o := ?oiu13) (by kernel_rfl) ?hiu13 (fun K hK => ?stu13)
        case hiu13 => (simp only [List.getElem?_toArray, List.getElem?_cons_zero, List.getElem?_cons_succ]; rfl)
        go_simp
        go_at_call 40
        refine (HW0.out (some ⟨m2, 0, none⟩) 1 1 Yu105).mono ?_
        rintro e Yu108 ⟨rfl, hbb108⟩
        clear hHeld
        have hHeld := HK9.out Yu108 (below_both hB0 (below_both (below_both (below_both (below_both hbb103 hbb107) hbb104) hbb105) hbb108))
        refine hK.out _ _ (fun _ => hHeld) ?_
        clear hK K
        (try simp only [Act.put, List.setIfInBounds_toArray, List.set_cons_zero, List.set_cons_succ])
        refine' wpAnyT_one (i := 7) (o := ?oiu14) (by kernel_rfl) ?hiu14 (fun K hK => ?stu14)
        case hiu14 => (simp only [List.getElem?_toArray, List.getElem?_cons_zero, List.getElem?_cons_succ]; rfl)
        go_simp
        obtain ⟨Yu109, hY⟩ : ∃ X, Yu108.alloc (.cells #[.int .i64 0, .int .i64 0, .slice (some ⟨m1, 0, none⟩) 1 1, .int .i64 1, .int .i64 0, .slice none 0 0, .int .i64 0, .int .i64 0, .slice (some ⟨m2, 0, none⟩) 1 1] 27) = X := ⟨_, rfl⟩
        obtain ⟨m3, hh⟩ : ∃ h, Yu108.heap.size = h := ⟨_, rfl⟩
        have hbb109 : Below Yu108.heap.size Yu108 Yu109 := by rw [← hY]; exact al1 _ _
        have HZm3 : Hid (Yu109.heap[m3]? = some (.cells #[.int .i64 0, .int .i64 0, .slice (some ⟨m1, 0, none⟩) 1 1, .int .i64 1, .int .i64 0, .slice none 0 0, .int .i64 0, .int .i64 0, .slice (some ⟨m2, 0, none⟩) 1 1] 27)) := hid (by rw [← hY, ← hh]; exact heap_alloc_new _ _)
        rw [hY, hh]
        clear hY hh
        clear hHeld
        have hHeld := HK9.out Yu109 (below_both hB0 (below_both (below_both (below_both (below_both (below_both hbb103 hbb107) hbb104) hbb105) hbb108) hbb109))
        refine hK.out _ _ (fun _ => hHeld) ?_
        clear hK K
        (try simp only [Act.put, List.setIfInBounds_toArray, List.set_cons_zero, List.set_cons_succ])
        refine' wpAnyT_one (i := 8) (o := ?oiu15) (by kernel_rfl) ?hiu15 (fun K hK => ?stu15)
        case hiu15 => (simp only [List.getElem?_toArray, List.getElem?_cons_zero, List.getElem?_cons_succ]; rfl)
        go_simp
        refine hK.out _ _ (fun h => absurd h (by decide)) ?_
        clear hK K
        (try simp only [Act.put, List.setIfInBounds_toArray, List.set_cons_zero, List.set_cons_succ])
        refine wpAnyT_done (by kernel_rfl) ?_ _
        exact HC.out Yu109 m1 m2 m3 ⟨(below_both hB0 (below_both (below_both (below_both (below_both (below_both hbb103 hbb107) hbb104) hbb105) hbb108) hbb109)), (((below_both (below_both (below_both (below_both hbb107 hbb104) hbb105) hbb108) hbb109).block _ (box_lt HZm1.out)).trans HZm1.out), (((below_both (below_both (below_both hbb104 hbb105) hbb108) hbb109).block _ (box_lt HZm2.out)).trans HZm2.out), (((Below.refl _ _).block _ (box_lt HZm3.out)).trans HZm3.out)⟩
    · refine ⟨_, by (simp only [List.getElem?_toArray, List.getElem?_cons_zero, List.getElem?_cons_succ]; rfl), fun K hK => ?_⟩
      go_simp
      obtain ⟨Yu107, hY⟩ : ∃ X, X0.alloc (.cells #[.int .u8 2, .int .u8 0, .int .u8 0, .int .u8 0, .int .u8 0, .int .u8 0, .int .u8 0, .int .u8 0] 73) = X := ⟨_, rfl⟩
      obtain ⟨m2, hh⟩ : ∃ h, X0.heap.size = h := ⟨_, rfl⟩
      have hbb107 : Below X0.heap.size X0 Yu107 := by rw [← hY]; exact al1 _ _
      have HZm2 : Hid (Yu107.heap[m2]? = some (.cells #[.int .u8 2, .int .u8 0, .int .u8 0, .int .u8 0, .int .u8 0, .int .u8 0, .int .u8 0, .int .u8 0] 73)) := hid (by rw [← hY, ← hh]; exact heap_alloc_new _ _)
      rw [hY, hh]
      clear hY hh
      clear hHeld
      have hHeld := HK9.out Yu107 (below_both hB0 hbb107)
      refine hK.out _ _ (fun _ => hHeld) ?_
      clear hK K
      (try simp only [Act.put, List.setIfInBounds_toArray, List.set_cons_zero, List.set_cons_succ])
      refine' wpAnyT_one (i := 1) (o := ?oiu16) (by kernel_rfl) ?hiu16 (fun K hK => ?stu16)
      case hiu16 => (simp only [List.getElem?_toArray, List.getElem?_cons_zero, List.getElem?_cons_succ]; rfl)
      go_simp
      obtain ⟨Yu103, hY⟩ : ∃ X, Yu107.alloc (.cells #[.int .u8 1, .int .u8 0, .int .u8 0, .int .u8 0, .int .u8 0, .int .u8 0, .int .u8 0, .int .u8 0] 73) = X := ⟨_, rfl⟩
      obtain ⟨m1, hh⟩ : ∃ h, Yu107.heap.size = h := ⟨_, rfl⟩
      have hbb103 : Below Yu107.heap.size Yu107 Yu103 := by rw [← hY]; exact al1 _ _
      have HZm1 : Hid (Yu103.heap[m1]? = some (.cells #[.int .u8 1, .int .u8 0, .int .u8 0, .int .u8 0, .int .u8 0, .int .u8 0, .int .u8 0, .int .u8 0] 73)) := hid (by rw [← hY, ← hh]; exact heap_alloc_new _ _)
      rw [hY, hh]
      clear hY hh
      clear hHeld
      have hHeld := HK9.out Yu103 (below_both hB0 (below_both hbb107 hbb103))
      refine hK.out _ _ (fun _ => hHeld) ?_
      clear hK K
      (try simp only [Act.put, List.setIfInBounds_toArray, List.set_cons_zero, List.set_cons_succ])
      refine' wpAnyT_one (i := 2) (o := ?oiu17) (by kernel_rfl) ?hiu17 (fun K hK => ?stu17)
      case hiu17 => (simp only [List.getElem?_toArray, List.getElem?_cons_zero, List.getElem?_cons_succ]; rfl)
      go_simp
      go_at_call 40
      refine (HW0.out (some ⟨m1, 0, none⟩) 1 1 Yu103).mono ?_
      rintro e Yu104 ⟨rfl, hbb104⟩
      clear hHeld
      have hHeld := HK9.out Yu104 (below_both hB0 (below_both (below_both hbb107 hbb103) hbb104))
      refine hK.out _ _ (fun _ => hHeld) ?_
      clear hK K
      (try simp only [Act.put, List.setIfInBounds_toArray, List.set_cons_zero, List.set_cons_succ])
      refine' wpAnyT_one (i := 3) (o := ?oiu18) (by kernel_rfl) ?hiu18 (fun K hK => ?stu18)
      case hiu18 => (simp only [List.getElem?_toArray, List.getElem?_cons_zero, List.getElem?_cons_succ]; rfl)
      go_simp
      go_at_call 38
      refine (HSY.out Yu104).mono ?_
      rintro e Yu105 ⟨rfl, hbb105⟩
      clear hHeld
      have hHeld := HK9.out Yu105 (below_both hB0 (below_both (below_both (below_both hbb107 hbb103) hbb104) hbb105))
      refine hK.out _ _ (fun _ => hHeld) ?_
      clear hK K
      (try simp only [Act.put, List.setIfInBounds_toArray, List.set_cons_zero, List.set_cons_succ])
      refine' wpAnyT_one (i := 6) (o := ?oiu19) (by kernel_rfl) ?hiu19 (fun K hK => ?stu19)
      case hiu19 => (simp only [List.getElem?_toArray, List.getElem?_cons_zero, List.getElem?_cons_succ]; rfl)
      go_simp
      go_at_call 40
      refine (HW0.out (some ⟨m2, 0, none⟩) 1 1 Yu105).mono ?_
      rintro e Yu108 ⟨rfl, hbb108⟩
      clear hHeld
      have hHeld := HK9.out Yu108 (below_both hB0 (below_both (below_both (below_both (below_both hbb107 hbb103) hbb104) hbb105) hbb108))
      refine hK.out _ _ (fun _ => hHeld) ?_
      clear hK K
      (try simp only [Act.put, List.setIfInBounds_toArray, List.set_cons_zero, List.set_cons_succ])
      refine' wpAnyT_one (i := 7) (o := ?oiu20) (by kernel_rfl) ?hiu20 (fun K hK => ?stu20)
      case hiu20 => (simp only [List.getElem?_toArray, List.getElem?_cons_zero, List.getElem?_cons_succ]; rfl)
      go_simp
      obtain ⟨Yu109, hY⟩ : ∃ X, Yu108.alloc (.cells #[.int .i64 0, .int .i64 0, .slice (some ⟨m1, 0, none⟩) 1 1, .int .i64 1, .int .i64 0, .slice none 0 0, .int .i64 0, .int .i64 0, .slice (some ⟨m2, 0, none⟩) 1 1] 27) = X := ⟨_, rfl⟩
      obtain ⟨m3, hh⟩ : ∃ h, Yu108.heap.size = h := ⟨_, rfl⟩
      have hbb109 : Below Yu108.heap.size Yu108 Yu109 := by rw [← hY]; exact al1 _ _
      have HZm3 : Hid (Yu109.heap[m3]? = some (.cells #[.int .i64 0, .int .i64 0, .slice (some ⟨m1, 0, none⟩) 1 1, .int .i64 1, .int .i64 0, .slice none 0 0, .int .i64 0, .int .i64 0, .slice (some ⟨m2, 0, none⟩) 1 1] 27)) := hid (by rw [← hY, ← hh]; exact heap_alloc_new _ _)
      rw [hY, hh]
      clear hY hh
      clear hHeld
      have hHeld := HK9.out Yu109 (below_both hB0 (below_both (below_both (below_both (below_both (below_both hbb107 hbb103) hbb104) hbb105) hbb108) hbb109))
      refine hK.out _ _ (fun _ => hHeld) ?_
      clear hK K
      (try simp only [Act.put, List.setIfInBounds_toArray, List.set_cons_zero, List.set_cons_succ])
      refine' wpAnyT_one (i := 8) (o := ?oiu21) (by kernel_rfl) ?hiu21 (fun K hK => ?stu21)
      case hiu21 => (simp only [List.getElem?_toArray, List.getElem?_cons_zero, List.getElem?_cons_succ]; rfl)
      go_simp
      refine hK.out _ _ (fun h => absurd h (by decide)) ?_
      clear hK K
      (try simp only [Act.put, List.setIfInBounds_toArray, List.set_cons_zero, List.set_cons_succ])
      refine wpAnyT_done (by kernel_rfl) ?_ _
      exact HC.out Yu109 m1 m2 m3 ⟨(below_both hB0 (below_both (below_both (below_both (below_both (below_both hbb107 hbb103) hbb104) hbb105) hbb108) hbb109)), (((below_both (below_both (below_both hbb104 hbb105) hbb108) hbb109).block _ (box_lt HZm1.out)).trans HZm1.out), (((below_both (below_both (below_both (below_both hbb103 hbb104) hbb105) hbb108) hbb109).block _ (box_lt HZm2.out)).trans HZm2.out), (((Below.refl _ _).block _ (box_lt HZm3.out)).trans HZm3.out)⟩
  intro W10 m1 m2 m3 hF
  obtain ⟨hb10, z1, z2, z3⟩ := hF
  have HB10 := hid hb10
  have HOPS := hid (fun X (hX : Below W10.heap.size W10 X) => aw_ops ((hX.block _ (box_lt z1)).trans z1) ((hX.block _ (box_lt z2)).trans z2) ((hX.block _ (box_lt z3)).trans z3))
  have HB510 : Hid (Below W5.heap.size W5 W10) := hid (below_both HB59.out hb10)
  have HB410 : Hid (Below W4.heap.size W4 W10) := hid (below_both HB49.out hb10)
  obtain ⟨hxd, hdd⟩ := HDD.out W10 HB510.out
  have e0 := cell_of_row _ _ 0 _ _ _ hxd
  have e1 := cell_of_row _ _ 1 _ _ _ hxd
  have HI1 : Hid (Calls Try.prog 34 #[.agg #[.slice A5 3 c5, .slice B5 0 d5], .slice (some ⟨m3, 0, none⟩) 3 3, .int .i64 3, .slice (some ⟨W10.heap.size, 0, none⟩) 1 1] (W10.alloc (.cells #[.int .i64 1] 3)) fun e w' => ∃ A c B d U uc, e = .returned (.tuple #[.agg #[.slice A 3 c, .slice B 0 d], .slice U 0 uc, .int .i64 0]) ∧ Dk w' (.agg #[.slice A 3 c, .slice B 0 d]) [sB, zs, zs] [] ∧ Below (W10.alloc (.cells #[.int .i64 1] 3)).heap.size (W10.alloc (.cells #[.int .i64 1] 3)) w') := hid (aw_call34 (l := [sB, zs, zs]) (u := []) (hdd.below (al1 _ _)) (HOPS.out _ (al1 _ _)) (heap_alloc_new _ _) (⟨by decide, by decide⟩ : R64 3) aw_i1)
  clear hb10 z1 z2 z3 hxd hdd
  go_upto_region 11 with (go_at_call 34; refine HI1.out.mono ?_; rintro e Y11 ⟨A11, c11, B11, d11, U11, uc11, rfl, hd11, hb11⟩; have HD11 := hid hd11; have HB11 := hid hb11; clear hd11 hb11)
  obtain ⟨W11, hW11⟩ : ∃ X, Y11.alloc (.cells #[.slice A11 3 c11, .slice B11 0 d11] 25) = X := ⟨_, rfl⟩
  obtain ⟨pf, hpf⟩ : ∃ g, Y11.heap.size = g := ⟨_, rfl⟩
  have hba : Below Y11.heap.size Y11 W11 := by rw [← hW11]; exact al1 _ _
  have hxf : W11.heap[pf]? = some (.cells #[.slice A11 3 c11, .slice B11 0 d11] 25) := by rw [← hW11, ← hpf]; exact heap_alloc_new _ _
  rw [hW11, hpf]
  have HB1011 : Hid (Below W10.heap.size W10 W11) := hid (below_both (below_both (al1 _ _) HB11.out) hba)
  have HFF := hid (fun X (hX : Below W11.heap.size W11 X) => (show X.heap[pf]? = some (.cells #[.slice A11 3 c11, .slice B11 0 d11] 25) ∧ Sec X (.slice A11 3 c11) [sB, zs, zs] from ⟨(hX.block _ (box_lt hxf)).trans hxf, ((dk_parts HD11.out).1.below hba).below hX⟩))
  obtain ⟨hxd, hdd⟩ := HDD.out W11 (below_both HB510.out HB1011.out)
  clear e0 e1
  have e0 := cell_of_row _ _ 0 _ _ _ hxd
  have e1 := cell_of_row _ _ 1 _ _ _ hxd
  have HI2 : Hid (Calls Try.prog 34 #[.agg #[.slice A5 3 c5, .slice B5 0 d5], .slice (some ⟨m3, 0, none⟩) 3 3, .int .i64 2, .slice (some ⟨W11.heap.size, 0, none⟩) 1 1] (W11.alloc (.cells #[.int .i64 1] 3)) fun e w' => ∃ A c B d U uc, e = .returned (.tuple #[.agg #[.slice A 3 c, .slice B 0 d], .slice U 1 uc, .int .i64 0]) ∧ Dk w' (.agg #[.slice A 3 c, .slice B 0 d]) [sA, zs, zs] [] ∧ Below (W11.alloc (.cells #[.int .i64 1] 3)).heap.size (W11.alloc (.cells #[.int .i64 1] 3)) w') := hid (aw_call34 (l := [sA, zs, zs]) (u := [1]) (hdd.below (al1 _ _)) (HOPS.out _ (below_both HB1011.out (al1 _ _))) (heap_alloc_new _ _) (⟨by decide, by decide⟩ : R64 2) aw_i2)
  clear hW11 hpf hba hxf hxd hdd
  go_upto_region 12 with (go_at_call 34; refine HI2.out.mono ?_; rintro e Y12 ⟨A12, c12, B12, d12, U12, uc12, rfl, hd12, hb12⟩; have HD12 := hid hd12; have HB12 := hid hb12; clear hd12 hb12)
  obtain ⟨W12, hW12⟩ : ∃ X, Y12.alloc (.cells #[.slice A12 3 c12, .slice B12 0 d12] 25) = X := ⟨_, rfl⟩
  obtain ⟨pg, hpg⟩ : ∃ g, Y12.heap.size = g := ⟨_, rfl⟩
  have hba : Below Y12.heap.size Y12 W12 := by rw [← hW12]; exact al1 _ _
  have hxg : W12.heap[pg]? = some (.cells #[.slice A12 3 c12, .slice B12 0 d12] 25) := by rw [← hW12, ← hpg]; exact heap_alloc_new _ _
  rw [hW12, hpg]
  have HB1112 : Hid (Below W11.heap.size W11 W12) := hid (below_both (below_both (al1 _ _) HB12.out) hba)
  have HGG := hid (fun X (hX : Below W12.heap.size W12 X) => (show X.heap[pg]? = some (.cells #[.slice A12 3 c12, .slice B12 0 d12] 25) ∧ Sec X (.slice A12 3 c12) [sA, zs, zs] from ⟨(hX.block _ (box_lt hxg)).trans hxg, ((dk_parts HD12.out).1.below hba).below hX⟩))
  have HB1012 : Hid (Below W10.heap.size W10 W12) := hid (below_both HB1011.out HB1112.out)
  have HB412 : Hid (Below W4.heap.size W4 W12) := hid (below_both HB410.out HB1012.out)
  obtain ⟨hxd, hdd⟩ := HDD.out W12 (below_both HB510.out HB1012.out)
  clear e0 e1
  have e0 := cell_of_row _ _ 0 _ _ _ hxd
  have e1 := cell_of_row _ _ 1 _ _ _ hxd
  obtain ⟨za, zb, zc, zo⟩ := HBX.out W12 HB412.out
  have qa0 := cell_of_row _ _ 0 _ _ _ za
  have qa1 := cell_of_row _ _ 1 _ _ _ za
  have qa2 := cell_of_row _ _ 2 _ _ _ za
  have qa3 := cell_of_row _ _ 3 _ _ _ za
  have qa4 := cell_of_row _ _ 4 _ _ _ za
  have qa5 := cell_of_row _ _ 5 _ _ _ za
  have qa6 := cell_of_row _ _ 6 _ _ _ za
  have qa7 := cell_of_row _ _ 7 _ _ _ za
  clear za zb zc zo
  have HI3 : Hid (Calls Try.prog 14 #[.agg #[.slice A5 3 c5, .slice B5 0 d5], .int .i64 3, .slice (some ⟨W12.heap.size, 0, none⟩) 1 1] (W12.alloc (.cells #[.int .u8 1, .int .u8 0, .int .u8 0, .int .u8 0, .int .u8 0, .int .u8 0, .int .u8 0, .int .u8 0] 73)) fun e w' => ∃ A c B d, e = .returned (.tuple #[.agg #[.slice A 0 c, .slice B 0 d], .int .i64 2]) ∧ Below (W12.alloc (.cells #[.int .u8 1, .int .u8 0, .int .u8 0, .int .u8 0, .int .u8 0, .int .u8 0, .int .u8 0, .int .u8 0] 73)).heap.size (W12.alloc (.cells #[.int .u8 1, .int .u8 0, .int .u8 0, .int .u8 0, .int .u8 0, .int .u8 0, .int .u8 0, .int .u8 0] 73)) w') := hid (aw_call14 (hdd.below (al1 _ _)) (heap_alloc_new _ _))
  clear hW12 hpg hba hxg hxd hdd
  go_upto_region 13 with (go_at_call 14; refine HI3.out.mono ?_; rintro e Y13 ⟨A13, c13, B13, d13, rfl, hb13⟩; have HB13 := hid hb13; clear hb13)
  clear e0 e1
  clear qa0 qa1 qa2 qa3 qa4 qa5 qa6 qa7
  obtain ⟨W13, hW13⟩ : ∃ X, Y13.alloc (.cells #[.slice A13 0 c13, .slice B13 0 d13] 25) = X := ⟨_, rfl⟩
  rw [hW13]
  have HB1213 : Hid (Below W12.heap.size W12 W13) := hid (below_both (below_both (al1 _ _) HB13.out) (by rw [← hW13]; exact al1 _ _))
  have HB413 : Hid (Below W4.heap.size W4 W13) := hid (below_both HB412.out HB1213.out)
  obtain ⟨hf, hsf⟩ := HFF.out W13 (below_both HB1112.out HB1213.out)
  have hf0 := cell_of_row _ _ 0 _ _ _ hf
  obtain ⟨za, zb, zc, zo⟩ := HBX.out W13 HB413.out
  have qa0 := cell_of_row _ _ 0 _ _ _ za
  have qa1 := cell_of_row _ _ 1 _ _ _ za
  have qa2 := cell_of_row _ _ 2 _ _ _ za
  have qa3 := cell_of_row _ _ 3 _ _ _ za
  have qa4 := cell_of_row _ _ 4 _ _ _ za
  have qa5 := cell_of_row _ _ 5 _ _ _ za
  have qa6 := cell_of_row _ _ 6 _ _ _ za
  have qa7 := cell_of_row _ _ 7 _ _ _ za
  have qb0 := cell_of_row _ _ 0 _ _ _ zb
  have qb1 := cell_of_row _ _ 1 _ _ _ zb
  have qb2 := cell_of_row _ _ 2 _ _ _ zb
  have qb3 := cell_of_row _ _ 3 _ _ _ zb
  have qb4 := cell_of_row _ _ 4 _ _ _ zb
  have qb5 := cell_of_row _ _ 5 _ _ _ zb
  have qb6 := cell_of_row _ _ 6 _ _ _ zb
  have qb7 := cell_of_row _ _ 7 _ _ _ zb
  have qo0 := cell_of_row _ _ 0 _ _ _ zo
  have qo1 := cell_of_row _ _ 1 _ _ _ zo
  have qo2 := cell_of_row _ _ 2 _ _ _ zo
  have qo3 := cell_of_row _ _ 3 _ _ _ zo
  have qo4 := cell_of_row _ _ 4 _ _ _ zo
  have qo5 := cell_of_row _ _ 5 _ _ _ zo
  have qo6 := cell_of_row _ _ 6 _ _ _ zo
  have qo7 := cell_of_row _ _ 7 _ _ _ zo
  clear za zb zc zo
  have HT1 : Hid (Calls Try.prog 19 #[.slice A11 3 c11, .slice (some ⟨W13.heap.size, 0, none⟩) 3 3] (W13.alloc (.cells #[.int .u8 2, .int .u8 0, .int .u8 0, .int .u8 0, .int .u8 0, .int .u8 0, .int .u8 0, .int .u8 0, .int .u8 0, .int .u8 0, .int .u8 0, .int .u8 0, .int .u8 0, .int .u8 0, .int .u8 0, .int .u8 0, .int .u8 0, .int .u8 0, .int .u8 0, .int .u8 0, .int .u8 0, .int .u8 0, .int .u8 0, .int .u8 0] 73)) fun e w' => e = .returned (.bool true) ∧ Below (W13.alloc (.cells #[.int .u8 2, .int .u8 0, .int .u8 0, .int .u8 0, .int .u8 0, .int .u8 0, .int .u8 0, .int .u8 0, .int .u8 0, .int .u8 0, .int .u8 0, .int .u8 0, .int .u8 0, .int .u8 0, .int .u8 0, .int .u8 0, .int .u8 0, .int .u8 0, .int .u8 0, .int .u8 0, .int .u8 0, .int .u8 0, .int .u8 0, .int .u8 0] 73)).heap.size (W13.alloc (.cells #[.int .u8 2, .int .u8 0, .int .u8 0, .int .u8 0, .int .u8 0, .int .u8 0, .int .u8 0, .int .u8 0, .int .u8 0, .int .u8 0, .int .u8 0, .int .u8 0, .int .u8 0, .int .u8 0, .int .u8 0, .int .u8 0, .int .u8 0, .int .u8 0, .int .u8 0, .int .u8 0, .int .u8 0, .int .u8 0, .int .u8 0, .int .u8 0] 73)) w') := hid (aw_same (hsf.below (al1 _ _)) (sec_lit (l := [sB, zs, zs]) (secABC (by decide)) (by decide) (heap_alloc_new _ _)))
  clear hf hsf hW13
  go_wp2_with (first
    | (go_at_call 19; have HC0 := HB14.out; refine HT2.out.mono ?_; rintro e W15 ⟨rfl, hb15⟩; have HB15 := hid (below_both (al1 _ _) hb15); clear hb15)
    | (go_at_call 19; refine HT1.out.mono ?_; rintro e W14 ⟨rfl, hb14⟩; have HB14 := hid (below_both HB1213.out (below_both (al1 _ _) hb14)); clear hb14; obtain ⟨hg, hsg⟩ := HGG.out W14 HB14.out; have hg0 := cell_of_row _ _ 0 _ _ _ hg; have HT2 : Hid (Calls Try.prog 19 #[.slice A12 3 c12, .slice (some ⟨W14.heap.size, 0, none⟩) 3 3] (W14.alloc (.cells #[.int .u8 1, .int .u8 0, .int .u8 0, .int .u8 0, .int .u8 0, .int .u8 0, .int .u8 0, .int .u8 0, .int .u8 0, .int .u8 0, .int .u8 0, .int .u8 0, .int .u8 0, .int .u8 0, .int .u8 0, .int .u8 0, .int .u8 0, .int .u8 0, .int .u8 0, .int .u8 0, .int .u8 0, .int .u8 0, .int .u8 0, .int .u8 0] 73)) fun e w' => e = .returned (.bool true) ∧ Below (W14.alloc (.cells #[.int .u8 1, .int .u8 0, .int .u8 0, .int .u8 0, .int .u8 0, .int .u8 0, .int .u8 0, .int .u8 0, .int .u8 0, .int .u8 0, .int .u8 0, .int .u8 0, .int .u8 0, .int .u8 0, .int .u8 0, .int .u8 0, .int .u8 0, .int .u8 0, .int .u8 0, .int .u8 0, .int .u8 0, .int .u8 0, .int .u8 0, .int .u8 0] 73)).heap.size (W14.alloc (.cells #[.int .u8 1, .int .u8 0, .int .u8 0, .int .u8 0, .int .u8 0, .int .u8 0, .int .u8 0, .int .u8 0, .int .u8 0, .int .u8 0, .int .u8 0, .int .u8 0, .int .u8 0, .int .u8 0, .int .u8 0, .int .u8 0, .int .u8 0, .int .u8 0, .int .u8 0, .int .u8 0, .int .u8 0, .int .u8 0, .int .u8 0, .int .u8 0] 73)) w') := hid (aw_same (hsg.below (al1 _ _)) (sec_lit (l := [sA, zs, zs]) (secABC (by decide)) (by decide) (heap_alloc_new _ _))); clear hg hsg; obtain ⟨za, zb, zc, zo⟩ := HBX.out W14 (below_both HB412.out HB14.out); have ka0 := cell_of_row _ _ 0 _ _ _ za; have ka1 := cell_of_row _ _ 1 _ _ _ za; have ka2 := cell_of_row _ _ 2 _ _ _ za; have ka3 := cell_of_row _ _ 3 _ _ _ za; have ka4 := cell_of_row _ _ 4 _ _ _ za; have ka5 := cell_of_row _ _ 5 _ _ _ za; have ka6 := cell_of_row _ _ 6 _ _ _ za; have ka7 := cell_of_row _ _ 7 _ _ _ za; have ko0 := cell_of_row _ _ 0 _ _ _ zo; have ko1 := cell_of_row _ _ 1 _ _ _ zo; have ko2 := cell_of_row _ _ 2 _ _ _ zo; have ko3 := cell_of_row _ _ 3 _ _ _ zo; have ko4 := cell_of_row _ _ 4 _ _ _ zo; have ko5 := cell_of_row _ _ 5 _ _ _ zo; have ko6 := cell_of_row _ _ 6 _ _ _ zo; have ko7 := cell_of_row _ _ 7 _ _ _ zo; clear za zb zc zo))
  go_ret
  exact ⟨rfl, below_both HBW.out (below_both HB412.out (below_both HB14.out HB15.out))⟩
end Go.Proofs.Ytoefbgkeinhibaa
