/- Or and AndNot. -/
import Derived.Test.YtbifhcjkdfocaaaDoorO
namespace Go.Proofs.YtbifhcjkdfocaaaDoor
open Go.RowKit

set_option maxHeartbeats 4000000 in
set_option maxRecDepth 100000 in
theorem or_any (sa sb : Int) (wa wb : List Nat) (va vb : Value) (w : World) (ha : Bm w va sa wa) (hb : Bm w vb sb wb) :
    Calls Tryd.prog 28 #[va, vb] w (MadeB w (combErr sa wa sb wb) sa fun i => bit wa i || bit wb i) := by
  have HC := hid (fun W (h : Below w.heap.size w W) => combine_any 55 _ _ merges_or sa sb wa wb va vb W (ha.below h) (hb.below h))
  obtain ⟨A, ca, rfl⟩ := ha.form
  obtain ⟨B, cb, rfl⟩ := hb.form
  clear ha hb
  obtain ⟨er, her⟩ : ∃ er, combErr sa wa sb wb = er := ⟨_, rfl⟩
  rw [her] at HC ⊢
  clear her
  obtain ⟨w1, h1⟩ : ∃ w1, w.alloc (.cells #[.int .i64 sa, .slice A wa.length ca] 24) = w1 := ⟨_, rfl⟩
  have z1 : w1.heap.size = w.heap.size + 1 := by rw [← h1]; simp
  obtain ⟨w2, h2⟩ : ∃ w2, w1.alloc (.cells #[.int .i64 sb, .slice B wb.length cb] 24) = w2 := ⟨_, rfl⟩
  have z2 : w2.heap.size = w.heap.size + 2 := by rw [← h2]; simp; omega
  obtain ⟨w4, h4⟩ : ∃ w4, w2.alloc (.cells #[.int .i64 0, .slice none 0 0] 24) = w4 := ⟨_, rfl⟩
  have z4 : w4.heap.size = w.heap.size + 3 := by rw [← h4]; simp; omega
  have rA : w4.heap[w.heap.size]? = some (.cells #[.int .i64 sa, .slice A wa.length ca] 24 (0, 0)) := by
    rw [← h4]; refine (Below.heap_alloc _ _ _ (by omega)).trans ?_
    rw [← h2]; refine (Below.heap_alloc _ _ _ (by omega)).trans ?_
    rw [← h1]; exact heap_alloc_new w _
  have rB : w4.heap[w.heap.size + 1]? = some (.cells #[.int .i64 sb, .slice B wb.length cb] 24 (0, 0)) := by
    rw [← h4]; refine (Below.heap_alloc _ _ _ (by omega)).trans ?_
    rw [← h2, ← z1]; exact heap_alloc_new w1 _
  have rR : w4.heap[w.heap.size + 2]? = some (.cells #[.int .i64 0, .slice none 0 0] 24 (0, 0)) := by
    rw [← h4, ← z2]; exact heap_alloc_new w2 _
  have hB4 : Below w.heap.size w w4 := by
    rw [← h4, ← h2, ← h1]
    exact (((Below.refl _ w).alloc (Nat.le_refl _) _).alloc (by simp) _).alloc (by simp; omega) _
  have a0 := cell_of_row _ _ 0 _ _ _ rA
  have a1 := cell_of_row _ _ 1 _ _ _ rA
  have b0 := cell_of_row _ _ 0 _ _ _ rB
  have b1 := cell_of_row _ _ 1 _ _ _ rB
  have RA := hid rA
  have RB := hid rB
  have RR := hid rR
  have HB4 := hid hB4
  clear rA rB rR hB4
  go_enter Tryd.func28, Tryd.ntmps28
  go_wp2
  go_region_with (first | (go_at_call 44; refine (union_any _).mono ?_; rintro e w5 ⟨rfl, hb5⟩; have hb45 : Below w4.heap.size w4 w5 := ⟨hb5.os, hb5.tape, hb5.output, hb5.size, hb5.block⟩; have a0 := (hb45.cell (p := ⟨w.heap.size, 0, none⟩) (show w.heap.size < w4.heap.size by omega)).trans a0; have a1 := (hb45.cell (p := ⟨w.heap.size, 1, none⟩) (show w.heap.size < w4.heap.size by omega)).trans a1; have b0 := (hb45.cell (p := ⟨w.heap.size + 1, 0, none⟩) (show w.heap.size + 1 < w4.heap.size by omega)).trans b0; have b1 := (hb45.cell (p := ⟨w.heap.size + 1, 1, none⟩) (show w.heap.size + 1 < w4.heap.size by omega)).trans b1) | (go_at_call 47; refine (HC.out _ (below_from HB4.out ⟨hb45.os, hb45.tape, hb45.output, hb45.size, hb45.block⟩)).mono ?_; rintro e w6 ⟨v, ws, rfl, hbm, hif, hb6⟩; have hb46 : Below w4.heap.size w4 w6 := hb45.trans (Below.mono ⟨hb6.os, hb6.tape, hb6.output, hb6.size, hb6.block⟩ hb45.size); obtain ⟨f0, f1, f2, f3, HR6⟩ := res_facts hb46 RR.out (by omega); have HBM := hid hbm; obtain ⟨A', c', rfl⟩ := hbm.form; have HB6 := hid hb46; have HIF := hid hif; obtain ⟨S, hS⟩ : ∃ S, (if er = 0 then sa else 0) = S := ⟨_, rfl⟩; rw [hS] at HBM; rw [hS]; have HS := hid hS; clear hS hbm hif hb6 hb46))
  all_goals
    go_wp2
    refine bodyPost_ret (results_bm rfl _ _ _ _ _ _ _ rfl (box2_set HR6.out)) rfl ?_
    refine ⟨_, ws, rfl, ?_, HIF.out, box2_below (below_from HB4.out HB6.out) (by omega)⟩
    rw [HS.out]
    exact bm_box2 HBM.out HR6.out (fun z h => by cases h) (fun z h => by cases h)

set_option maxHeartbeats 4000000 in
set_option maxRecDepth 100000 in
theorem andNot_any (sa sb : Int) (wa wb : List Nat) (va vb : Value) (w : World) (ha : Bm w va sa wa) (hb : Bm w vb sb wb) :
    Calls Tryd.prog 32 #[va, vb] w (MadeB w (combErr sa wa sb wb) sa fun i => bit wa i && !bit wb i) := by
  have HC := hid (fun W (h : Below w.heap.size w W) => combine_any 57 _ _ merges_andNot sa sb wa wb va vb W (ha.below h) (hb.below h))
  obtain ⟨A, ca, rfl⟩ := ha.form
  obtain ⟨B, cb, rfl⟩ := hb.form
  clear ha hb
  obtain ⟨er, her⟩ : ∃ er, combErr sa wa sb wb = er := ⟨_, rfl⟩
  rw [her] at HC ⊢
  clear her
  obtain ⟨w1, h1⟩ : ∃ w1, w.alloc (.cells #[.int .i64 sa, .slice A wa.length ca] 24) = w1 := ⟨_, rfl⟩
  have z1 : w1.heap.size = w.heap.size + 1 := by rw [← h1]; simp
  obtain ⟨w2, h2⟩ : ∃ w2, w1.alloc (.cells #[.int .i64 sb, .slice B wb.length cb] 24) = w2 := ⟨_, rfl⟩
  have z2 : w2.heap.size = w.heap.size + 2 := by rw [← h2]; simp; omega
  obtain ⟨w4, h4⟩ : ∃ w4, w2.alloc (.cells #[.int .i64 0, .slice none 0 0] 24) = w4 := ⟨_, rfl⟩
  have z4 : w4.heap.size = w.heap.size + 3 := by rw [← h4]; simp; omega
  have rA : w4.heap[w.heap.size]? = some (.cells #[.int .i64 sa, .slice A wa.length ca] 24 (0, 0)) := by
    rw [← h4]; refine (Below.heap_alloc _ _ _ (by omega)).trans ?_
    rw [← h2]; refine (Below.heap_alloc _ _ _ (by omega)).trans ?_
    rw [← h1]; exact heap_alloc_new w _
  have rB : w4.heap[w.heap.size + 1]? = some (.cells #[.int .i64 sb, .slice B wb.length cb] 24 (0, 0)) := by
    rw [← h4]; refine (Below.heap_alloc _ _ _ (by omega)).trans ?_
    rw [← h2, ← z1]; exact heap_alloc_new w1 _
  have rR : w4.heap[w.heap.size + 2]? = some (.cells #[.int .i64 0, .slice none 0 0] 24 (0, 0)) := by
    rw [← h4, ← z2]; exact heap_alloc_new w2 _
  have hB4 : Below w.heap.size w w4 := by
    rw [← h4, ← h2, ← h1]
    exact (((Below.refl _ w).alloc (Nat.le_refl _) _).alloc (by simp) _).alloc (by simp; omega) _
  have a0 := cell_of_row _ _ 0 _ _ _ rA
  have a1 := cell_of_row _ _ 1 _ _ _ rA
  have b0 := cell_of_row _ _ 0 _ _ _ rB
  have b1 := cell_of_row _ _ 1 _ _ _ rB
  have RA := hid rA
  have RB := hid rB
  have RR := hid rR
  have HB4 := hid hB4
  clear rA rB rR hB4
  go_enter Tryd.func32, Tryd.ntmps32
  go_wp2
  go_region_with (first | (go_at_call 46; refine (difference_any _).mono ?_; rintro e w5 ⟨rfl, hb5⟩; have hb45 : Below w4.heap.size w4 w5 := ⟨hb5.os, hb5.tape, hb5.output, hb5.size, hb5.block⟩; have a0 := (hb45.cell (p := ⟨w.heap.size, 0, none⟩) (show w.heap.size < w4.heap.size by omega)).trans a0; have a1 := (hb45.cell (p := ⟨w.heap.size, 1, none⟩) (show w.heap.size < w4.heap.size by omega)).trans a1; have b0 := (hb45.cell (p := ⟨w.heap.size + 1, 0, none⟩) (show w.heap.size + 1 < w4.heap.size by omega)).trans b0; have b1 := (hb45.cell (p := ⟨w.heap.size + 1, 1, none⟩) (show w.heap.size + 1 < w4.heap.size by omega)).trans b1) | (go_at_call 47; refine (HC.out _ (below_from HB4.out ⟨hb45.os, hb45.tape, hb45.output, hb45.size, hb45.block⟩)).mono ?_; rintro e w6 ⟨v, ws, rfl, hbm, hif, hb6⟩; have hb46 : Below w4.heap.size w4 w6 := hb45.trans (Below.mono ⟨hb6.os, hb6.tape, hb6.output, hb6.size, hb6.block⟩ hb45.size); obtain ⟨f0, f1, f2, f3, HR6⟩ := res_facts hb46 RR.out (by omega); have HBM := hid hbm; obtain ⟨A', c', rfl⟩ := hbm.form; have HB6 := hid hb46; have HIF := hid hif; obtain ⟨S, hS⟩ : ∃ S, (if er = 0 then sa else 0) = S := ⟨_, rfl⟩; rw [hS] at HBM; rw [hS]; have HS := hid hS; clear hS hbm hif hb6 hb46))
  all_goals
    go_wp2
    refine bodyPost_ret (results_bm rfl _ _ _ _ _ _ _ rfl (box2_set HR6.out)) rfl ?_
    refine ⟨_, ws, rfl, ?_, HIF.out, box2_below (below_from HB4.out HB6.out) (by omega)⟩
    rw [HS.out]
    exact bm_box2 HBM.out HR6.out (fun z h => by cases h) (fun z h => by cases h)
end Go.Proofs.YtbifhcjkdfocaaaDoor
