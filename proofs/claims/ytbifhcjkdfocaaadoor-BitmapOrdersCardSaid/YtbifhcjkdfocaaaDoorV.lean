/- The reference's Same at two bitmaps that are equal. -/
import Derived.Test.YtbifhcjkdfocaaaDoorM
namespace Go.Proofs.YtbifhcjkdfocaaaDoor
open Go.RowKit

set_option maxHeartbeats 4000000 in
theorem same_true (s : Int) (ws : List Nat) (va vb : Value) (w : World) (ha : Bm w va s ws) (hb : Bm w vb s ws) (hln : ws.length ≤ 10000) :
    Calls Tryd.prog 15 #[va, vb] w fun e w' => e = .returned (.bool true) ∧ Below w.heap.size w w' := by
  obtain ⟨hsa, hra, A, ca, rfl, hcapa, hcma, ba, offa, hAa, hca⟩ := ha
  obtain ⟨hsb, hrb, B, cb, rfl, hcapb, hcmb, bb, offb, hBb, hcb⟩ := hb
  have HMA := hid hca
  have HMB := hid hcb
  clear hca hcb hra hrb
  obtain ⟨w1, h1⟩ : ∃ w1, w.alloc (.cells #[.int .i64 s, .slice A ws.length ca] 24) = w1 := ⟨_, rfl⟩
  have z1 : w1.heap.size = w.heap.size + 1 := by rw [← h1]; simp
  obtain ⟨w4, h4⟩ : ∃ w4, w1.alloc (.cells #[.int .i64 s, .slice B ws.length cb] 24) = w4 := ⟨_, rfl⟩
  have z4 : w4.heap.size = w.heap.size + 2 := by rw [← h4]; simp; omega
  have rA : w4.heap[w.heap.size]? = some (.cells #[.int .i64 s, .slice A ws.length ca] 24 (0, 0)) := by
    rw [← h4]; refine (Below.heap_alloc _ _ _ (by omega)).trans ?_
    rw [← h1]; exact heap_alloc_new w _
  have rB : w4.heap[w.heap.size + 1]? = some (.cells #[.int .i64 s, .slice B ws.length cb] 24 (0, 0)) := by
    rw [← h4, ← z1]; exact heap_alloc_new w1 _
  have hB4 : Below w.heap.size w w4 := by
    rw [← h4, ← h1]
    exact ((Below.refl _ w).alloc (Nat.le_refl _) _).alloc (by simp) _
  have a0 := cell_of_row _ _ 0 _ _ _ rA
  have a1 := cell_of_row _ _ 1 _ _ _ rA
  have b0 := cell_of_row _ _ 0 _ _ _ rB
  have b1 := cell_of_row _ _ 1 _ _ _ rB
  have HB4 := hid hB4
  clear rA rB hB4
  go_enter Tryd.func15, Tryd.ntmps15
  go_wp2
  go_loopw [4, 5] (fun r i wr => ∃ k : Nat, k ≤ ws.length ∧ i = .int .i64 k ∧ r = .bool false ∧ Hid (∃ n, wr = w4.drewN n)) (fun _ i _ => ws.length - (intOf i).toNat)
  case atStart => exact ⟨0, Nat.zero_le _, rfl, rfl, hid ⟨0, rfl⟩⟩
  case round =>
    obtain ⟨k, hk, rfl, rfl, HN⟩ := hrel
    obtain ⟨n0, rfl⟩ := HN.out
    by_cases hlt : k < ws.length
    · obtain ⟨hA1, hba⟩ := hAa (by omega)
      obtain ⟨hB1, hbb⟩ := hBb (by omega)
      subst hA1
      subst hB1
      obtain ⟨x, hx⟩ : ∃ x, ws[k]? = some x := ⟨ws[k], List.getElem?_eq_getElem hlt⟩
      have cx := (HB4.out.cell (p := ⟨ba, offa + k, none⟩) hba).trans (HMA.out _ _ hx)
      have cy := (HB4.out.cell (p := ⟨bb, offb + k, none⟩) hbb).trans (HMB.out _ _ hx)
      have hne : ((x : Int) != x) = false := by simp
      clear hx
      go_wp2
      go_quiet (fail)
      go_wp2
      go_roundw
      case rel => exact ⟨k + 1, by omega, by go_num, rfl, hid ⟨_, rfl⟩⟩
      case measure => simp [intOf]; omega
    · obtain rfl : k = ws.length := by omega
      go_wp2
      refine bodyPost_ret (results_tmp rfl _ _ _) rfl ?_
      exact ⟨rfl, below_drewN HB4.out _⟩
end Go.Proofs.YtbifhcjkdfocaaaDoor
