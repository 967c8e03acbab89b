/- Superblock: payload 35. -/
import Derived.Test.YtnocgfhcamnjdaaAf
namespace Go.Proofs.Ytnocgfhcamnjdaa
open Go.RowKit Go.Lib

theorem run_sliceAt67 (g m : Nat) (x : Int) (hx : x = ((1 + m : Nat) : Int)) (hm : m ≤ 31) (W : World) : (Instr.sliceAt 67 (.pointer (some ⟨g, 0, none⟩)) (some (.int .i64 1)) (some (.int .u8 x)) none).run Try.prog W = .ok (.slice (some ⟨g, 1, none⟩) m 31) W := by
  subst hx
  simp [Instr.sliceAt, Instr.sureAddr, run_underlying Try.underlying67, Instr.sliceBounds, Sem.run_bind, run_sliceBound_if]
  rw [if_pos (by omega), if_pos (by omega)]
  rw [show (1 + (m : Int)).toNat - 1 = m by omega, add_at]
set_option maxHeartbeats 2000000 in
set_option maxRecDepth 100000 in
theorem payload_any (C : List Nat) (w : World) (hC : C.length = 32) (_h8 : B8 C) (hm : C.getD 0 0 ≤ 31) :
    Calls Try.prog 35 #[.agg (C.map byteV).toArray] w fun e w' => ∃ u, e = .returned u ∧ w'.ownsRow w.heap.size 5 1 u (payL C).length ((payL C).map byteV) ∧ Below w.heap.size w w' := by
  obtain ⟨i0, hi, hz0, hz1, hz2⟩ := info_parts info5
  obtain ⟨m, hmm⟩ : ∃ m, C.getD 0 0 = m := ⟨_, rfl⟩
  have hpl : (payL C).length = m := by unfold payL; rw [List.length_take, List.length_drop, hmm]; omega
  rw [hmm] at hm
  have hc0 : C[0]? = some m := by
    rw [List.getElem?_eq_getElem (by omega), ← hmm, List.getD_eq_getElem?_getD, List.getElem?_eq_getElem (by omega)]
    rfl
  obtain ⟨g, hg⟩ : ∃ g, w.heap.size = g := ⟨_, rfl⟩
  obtain ⟨W1, hW1⟩ : ∃ X, w.alloc (.cells (C.map byteV).toArray 67) = X := ⟨_, rfl⟩
  have hb1 : Below w.heap.size w W1 := by rw [← hW1]; exact al1 _ _
  have hx1 : W1.heap[g]? = some (.cells (C.map byteV).toArray 67) := by rw [← hW1, ← hg]; exact heap_alloc_new _ _
  have c0 : W1.cell? ⟨g, 0, none⟩ = some (.int .u8 (m : Int)) := by
    rw [cell_of_row _ _ _ _ _ _ hx1, List.getElem?_toArray, List.getElem?_map, hc0]
    rfl
  have hnc : ∀ (t : Nat) (u : Value), ((payL C).map byteV)[t]? = some u → W1.cell? ((⟨g, 1, none⟩ : Addr).add t) = some u := fun t u hu => by
    rw [add_at, cell_of_row _ _ _ _ _ _ hx1, List.getElem?_toArray]
    unfold payL at hu
    rw [List.getElem?_map, List.getElem?_take] at hu
    split at hu
    · rw [List.getElem?_drop] at hu
      rw [List.getElem?_map]
      exact hu
    · cases hu
  have hadd : IntKind.u8.wrap (1 + (m : Int)) = 1 + (m : Int) := by
    rw [IntKind.wrap_u8]
    omega
  have HB1 := hid hb1
  have HW1 := hid hW1
  have HG := hid hg
  have HPL := hid hpl
  have hws : w.heap.size ≤ W1.heap.size := hb1.size
  have hsa : ∀ W, (Instr.sliceAt 67 (.pointer (some ⟨g, 0, none⟩)) (some (.int .i64 1)) (some (.int .u8 (1 + (m : Int)))) none).run Try.prog W = .ok (.slice (some ⟨g, 1, none⟩) m 31) W := fun W => run_sliceAt67 g m _ (by omega) hm W
  clear hb1 hx1 hW1 hg hc0 hmm hpl
  go_enter Try.func35, Try.ntmps35
  go_upto_region 1 with fail
  rw [HW1.out, HG.out]
  go_wp2_with (at_builtin; refine wpList_append_own _ rfl _ _ 22 rfl w.heap.size 5 i0 _ 1 1 Try.underlying22 hi hz0 hz1 hz2 rfl (by decide) _ 0 [] rfl (World.ownsRow_nil _ _ _ _) ⟨g, 1, none⟩ m 31 ((payL C).map byteV) rfl (by rw [List.length_map, HPL.out, Nat.mul_one]) hnc (byteV_one _) (by unfold maxLen; omega) (by omega) hws ?_)
  intro v' w2 hown2 hgrow _
  have HB2 : Hid (Below w.heap.size w w2) := hid (HB1.out.grown hgrow hws (fun k hk => by simp [Value.ownBlock] at hk))
  have HO2 := hid hown2
  clear hown2 hgrow hnc
  go_wp2_with fail
  go_ret
  exact ⟨_, rfl, by have h := HO2.out; rw [HPL.out]; simpa using h, HB2.out⟩
end Go.Proofs.Ytnocgfhcamnjdaa
