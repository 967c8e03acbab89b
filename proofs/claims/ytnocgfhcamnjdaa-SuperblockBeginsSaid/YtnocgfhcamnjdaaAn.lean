/- Superblock: block.sectors 29. -/
import Derived.Test.YtnocgfhcamnjdaaAm
namespace Go.Proofs.Ytnocgfhcamnjdaa
open Go.RowKit Go.Lib

/-- The cells of a block: its content and its generation. -/
def cBlk (C : List Nat) (k : Nat) : List Value := C.map byteV ++ [.int .u32 (k : Int)]
theorem run_sliceAt67a (g : Nat) (W : World) : (Instr.sliceAt 67 (.pointer (some ⟨g, 0, none⟩)) none none none).run Try.prog W = .ok (.slice (some ⟨g, 0, none⟩) 32 32) W := by
  simp [Instr.sliceAt, Instr.sureAddr, run_underlying Try.underlying67, Instr.sliceBounds, Sem.run_bind]
  rw [add_at]
set_option maxHeartbeats 4000000 in
set_option maxRecDepth 100000 in
theorem sectors_any (C : List Nat) (k : Nat) (w : World) (hC : C.length = 32) (h8 : B8 C) (hk : k < 4294967296) :
    Calls Try.prog 29 #[.agg (cBlk C k).toArray] w (MadeS w (secsN k 8 C)) := by
  obtain ⟨BB, hBB⟩ : ∃ l, cBlk C k = l := ⟨_, rfl⟩
  obtain ⟨g, hg⟩ : ∃ g, w.heap.size = g := ⟨_, rfl⟩
  obtain ⟨W1, hW1⟩ : ∃ X, w.alloc (.cells BB.toArray 71) = X := ⟨_, rfl⟩
  have hb1 : Below w.heap.size w W1 := by rw [← hW1]; exact al1 _ _
  have hx1 : W1.heap[g]? = some (.cells BB.toArray 71) := by rw [← hW1, ← hg]; exact heap_alloc_new _ _
  have hgl : g < W1.heap.size := box_lt hx1
  have hcl : ∀ X, Below W1.heap.size W1 X → ∀ j, X.cell? ⟨g, j, none⟩ = BB[j]? := fun X hX j => by
    rw [cell_of_row _ _ _ _ _ _ ((hX.block g hgl).trans hx1), List.getElem?_toArray]
  have HP : Hid (∀ X, Below W1.heap.size W1 X → Calls Try.prog 43 #[.int .u32 (k : Int), .slice (some ⟨g, 0, none⟩) 32 32] X (MadeS X (secsN k 8 C))) := hid (fun X hX => by
    refine pack_any k hk C _ X ?_ hC
    refine ⟨h8, nilOk_some _ _ _, ?_⟩
    refine ⟨_, _, by rw [List.length_map, hC], by rw [List.length_map, hC]; exact Nat.le_refl _, by unfold maxLen; omega, g, 0, fun _ => ⟨rfl, Nat.lt_of_lt_of_le hgl hX.size⟩, fun i r hi j u hj => ?_⟩
    rw [hcl X hX, ← hBB]
    unfold cBlk
    rw [List.getElem?_map] at hi
    cases hq : C[i]? with
    | none => rw [hq] at hi; cases hi
    | some x =>
      rw [hq] at hi
      injection hi with hi
      subst hi
      match j, hj with
      | 0, hj =>
        injection hj with hj
        subst hj
        rw [Nat.zero_add, Nat.mul_one, Nat.add_zero, List.getElem?_append_left (by rw [List.length_map]; exact (List.getElem?_eq_some_iff.1 hq).1), List.getElem?_map, hq]
        rfl
      | j + 1, hj => simp at hj)
  have HK : Hid (∀ X, Below W1.heap.size W1 X → X.cell? ⟨g, 32, none⟩ = some (.int .u32 (k : Int))) := hid (fun X hX => by
    rw [hcl X hX, ← hBB]
    unfold cBlk
    rw [List.getElem?_append_right (by rw [List.length_map, hC]; exact Nat.le_refl _), List.length_map, hC]
    rfl)
  have HB1 := hid hb1
  have HW1 := hid hW1
  have HG := hid hg
  have hsa := run_sliceAt67a g
  rw [hBB]
  clear hb1 hx1 hW1 hg hBB hgl hcl hC h8
  go_enter Try.func29, Try.ntmps29
  go_upto_region 1 with fail
  rw [HW1.out, HG.out]
  refine region_tail 4 (fun X => X.cell? ⟨g, 32, none⟩ = some (.int .u32 (k : Int))) (by kernel_rfl) ?_
  obtain ⟨X0, hX0⟩ : ∃ X, W1.drew = X := ⟨_, rfl⟩
  have hBX0 : Below W1.heap.size W1 X0 := by rw [← hX0]; exact (Below.refl W1.heap.size W1).drew
  rw [hX0]
  clear hX0
  have hHeld := HK.out X0 hBX0
  have HBX0 := hid (HB1.out.trans (hBX0.mono HB1.out.size))
  refine' wpAnyT_take (i := 0) (oi := ?oix0) (v := ?vx0) ?hix0 (by kernel_rfl) (by kernel_rfl) ?hqx0 ?hyx0 hHeld ?restx0
  case hix0 => (simp only [List.getElem?_toArray, List.getElem?_cons_zero]; rfl)
  case hqx0 => exact fun _ _ _ h => h
  case hyx0 => (refine Or.inl ⟨by rfl, ?_⟩; intro w' hSw; (try dsimp only at hSw); go_simp; try with_reducible rfl)
  (try simp only [Act.put, List.setIfInBounds_toArray, List.set_cons_zero, List.set_cons_succ])
  refine' wpAnyT_take (i := 1) (oi := ?oix1) (v := ?vx1) ?hix1 (by kernel_rfl) (by kernel_rfl) ?hqx1 ?hyx1 hHeld ?restx1
  case hix1 => (simp only [List.getElem?_toArray, List.getElem?_cons_zero, List.getElem?_cons_succ]; rfl)
  case hqx1 => exact fun _ _ _ h => h
  case hyx1 => (refine Or.inl ⟨by rfl, ?_⟩; intro w' hSw; (try dsimp only at hSw); go_simp; try with_reducible rfl)
  (try simp only [Act.put, List.setIfInBounds_toArray, List.set_cons_zero, List.set_cons_succ])
  refine' wpAnyT_take (i := 2) (oi := ?oix2) (v := ?vx2) ?hix2 (by kernel_rfl) (by kernel_rfl) ?hqx2 ?hyx2 hHeld ?restx2
  case hix2 => (simp only [List.getElem?_toArray, List.getElem?_cons_zero, List.getElem?_cons_succ]; rfl)
  case hqx2 => exact fun _ _ _ h => h
  case hyx2 => (refine Or.inl ⟨by rfl, ?_⟩; intro w' hSw; (try dsimp only at hSw); go_simp; try with_reducible rfl)
  (try simp only [Act.put, List.setIfInBounds_toArray, List.set_cons_zero, List.set_cons_succ])
  refine' wpAnyT_take (i := 3) (oi := ?oix3) (v := ?vx3) ?hix3 (by kernel_rfl) (by kernel_rfl) ?hqx3 ?hyx3 hHeld ?restx3
  case hix3 => (simp only [List.getElem?_toArray, List.getElem?_cons_zero, List.getElem?_cons_succ]; rfl)
  case hqx3 => exact fun _ _ _ h => h
  case hyx3 => (refine Or.inl ⟨by rfl, ?_⟩; intro w' hSw; (try dsimp only at hSw); go_simp; try with_reducible rfl)
  (try simp only [Act.put, List.setIfInBounds_toArray, List.set_cons_zero, List.set_cons_succ])
  refine' wpAnyT_one (i := 4) (o := ?oix4) (by kernel_rfl) ?hix4 (fun K hK => ?stx4)
  case hix4 => (simp only [List.getElem?_toArray, List.getElem?_cons_zero, List.getElem?_cons_succ]; rfl)
  go_simp
  go_at_call 43
  refine (HP.out X0 hBX0).mono ?_
  rintro e X1 ⟨u, rfl, hown, hbx⟩
  have HO := hid hown
  have HBX := hid hbx
  have hHeld := trivial
  clear hown hbx
  refine hK.out _ _ (fun h => absurd h (by decide)) ?_
  clear hK K
  (try simp only [Act.put, List.setIfInBounds_toArray, List.set_cons_zero, List.set_cons_succ])
  refine' wpAnyT_one (i := 5) (o := ?oix5) (by kernel_rfl) ?hix5 (fun K hK => ?stx5)
  case hix5 => (simp only [List.getElem?_toArray, List.getElem?_cons_zero, List.getElem?_cons_succ]; rfl)
  go_simp
  refine hK.out _ _ (fun h => absurd h (by decide)) ?_
  clear hK K
  (try simp only [Act.put, List.setIfInBounds_toArray, List.set_cons_zero, List.set_cons_succ])
  refine wpAnyT_done (by kernel_rfl) ?_ _
  go_wp2_with fail
  go_ret
  exact ⟨_, rfl, own_base HO.out HBX0.out.size, HBX0.out.trans (HBX.out.mono HBX0.out.size)⟩
end Go.Proofs.Ytnocgfhcamnjdaa
