/- union, difference; Or, And, AndNot. -/
import Derived.Test.YtbifhcjkdfocaaaDoorM
import Derived.Test.YtbifhcjkdfocaaaDoorN
import Derived.Deep.RegionWith
import Derived.Laws.EntriesVeiled
namespace Go.Proofs.YtbifhcjkdfocaaaDoor
open Go.RowKit

theorem merges_or : Merges 55 (fun p q => p || q) (fun x y => x ||| y) :=
  ⟨rfl, fun x y j _ _ => Nat.testBit_or x y j, or_small, fun x y w hx hy => or_call x y w hx hy, enters_of Tryd.func55 (by kernel_rfl) rfl⟩
theorem merges_and : Merges 50 (fun p q => p && q) (fun x y => x &&& y) :=
  ⟨rfl, fun x y j _ _ => Nat.testBit_and x y j, fun x y hx _ => and_small x y hx, fun x y w hx hy => and_call x y w hx hy, enters_of Tryd.func50 (by kernel_rfl) rfl⟩
theorem merges_andNot : Merges 57 (fun p q => p && !q) (fun x y => x &&& (18446744073709551615 - y)) :=
  ⟨rfl, fun x y j hx hy => andNot_bits x y j hx hy, fun x y hx _ => and_small x _ hx, fun x y w hx hy => andNot_call x y w hx hy, enters_of Tryd.func57 (by kernel_rfl) rfl⟩

theorem und64 : Tryd.prog.underlying 64 = some (.struct (Tryd.prog.fieldsOf 64)) := by kernel_rfl
theorem size64 : (Tryd.prog.info? 64).map (·.size) = some 1 := by kernel_rfl

theorem box1_set {W : World} {g : Nat} {x a : Value} {t : TypeId} {fr : Nat × Nat} (h : W.heap[g]? = some (.cells #[x] t fr)) : (W.setCell ⟨g, 0, none⟩ a).heap[g]? = some (.cells #[a] t fr) := by
  simp [World.setCell, Array.getElem?_modify, h]
theorem union_any (w : World) : Calls Tryd.prog 44 #[] w fun e w' => e = .returned (.agg #[.func (.func 55) #[] #[]]) ∧ Below w.heap.size w w' := by
  obtain ⟨w1, h1⟩ : ∃ w1, w.alloc (.cells #[Value.nilFunc] 64) = w1 := ⟨_, rfl⟩
  have r1 : w1.heap[w.heap.size]? = some (.cells #[Value.nilFunc] 64 (0, 0)) := by rw [← h1]; exact heap_alloc_new w _
  have f0 := cell_of_row _ _ 0 _ _ _ r1
  have f1 : w1.frozen? ⟨w.heap.size, 0, none⟩ = false := by unfold World.frozen?; rw [r1]; simp
  have HB : Hid (Below w.heap.size w w1) := hid (by rw [← h1]; exact (Below.refl _ w).alloc (Nat.le_refl _) _)
  have R1 := hid r1
  clear r1
  go_enter Tryd.func44, Tryd.ntmps44
  go_wp2
  refine bodyPost_ret (results_cell_row rfl _ _ w.heap.size 64 #[.func (.func 55) #[] #[]] (0, 0) _ rfl (box1_set R1.out) und64 rfl size64) rfl ?_
  exact ⟨rfl, HB.out.setCell (p := ⟨w.heap.size, 0, none⟩) (Nat.le_refl _) _⟩
theorem difference_any (w : World) : Calls Tryd.prog 46 #[] w fun e w' => e = .returned (.agg #[.func (.func 57) #[] #[]]) ∧ Below w.heap.size w w' := by
  obtain ⟨w1, h1⟩ : ∃ w1, w.alloc (.cells #[Value.nilFunc] 64) = w1 := ⟨_, rfl⟩
  have r1 : w1.heap[w.heap.size]? = some (.cells #[Value.nilFunc] 64 (0, 0)) := by rw [← h1]; exact heap_alloc_new w _
  have f0 := cell_of_row _ _ 0 _ _ _ r1
  have f1 : w1.frozen? ⟨w.heap.size, 0, none⟩ = false := by unfold World.frozen?; rw [r1]; simp
  have HB : Hid (Below w.heap.size w w1) := hid (by rw [← h1]; exact (Below.refl _ w).alloc (Nat.le_refl _) _)
  have R1 := hid r1
  clear r1
  go_enter Tryd.func46, Tryd.ntmps46
  go_wp2
  refine bodyPost_ret (results_cell_row rfl _ _ w.heap.size 64 #[.func (.func 57) #[] #[]] (0, 0) _ rfl (box1_set R1.out) und64 rfl size64) rfl ?_
  exact ⟨rfl, HB.out.setCell (p := ⟨w.heap.size, 0, none⟩) (Nat.le_refl _) _⟩

theorem bm_box2 {W : World} {v : Value} {s : Int} {ws : List Nat} {g : Nat} {x y a b : Value} {t : TypeId} {fr : Nat × Nat} (h : Bm W v s ws) (hr : W.heap[g]? = some (.cells #[x, y] t fr)) (hx : ∀ z : Int, x ≠ .int .u64 z) (hy : ∀ z : Int, y ≠ .int .u64 z) :
    Bm ((W.setCell ⟨g, 0, none⟩ a).setCell ⟨g, 1, none⟩ b) v s ws := by
  obtain ⟨hs, hw, A, cap, hv, h1, h2, bk, off, hA, hc⟩ := h
  refine ⟨hs, hw, A, cap, hv, h1, h2, bk, off, fun h0 => ⟨(hA h0).1, by have := (hA h0).2; simpa using this⟩, fun i z hi => ?_⟩
  have hne : bk ≠ g := fun e => by
    subst e
    have hcell := hc i z hi
    rw [cell_of_row _ _ _ _ _ _ hr] at hcell
    rcases (show off + i = 0 ∨ off + i = 1 ∨ 2 ≤ off + i from by omega) with e | e | e
    · rw [e] at hcell
      simp at hcell
      exact hx _ hcell
    · rw [e] at hcell
      simp at hcell
      exact hy _ hcell
    · rw [Array.getElem?_eq_none (by simp; omega)] at hcell
      cases hcell
  exact (World.cell?_of_block (a := ⟨bk, off + i, none⟩) (box2_other hne)).trans (hc i z hi)

set_option maxHeartbeats 4000000 in
set_option maxRecDepth 100000 in
theorem and_any (sa sb : Int) (wa wb : List Nat) (va vb : Value) (w : World) (ha : Bm w va sa wa) (hb : Bm w vb sb wb) :
    Calls Tryd.prog 30 #[va, vb] w (MadeB w (combErr sa wa sb wb) sa fun i => bit wa i && bit wb i) := by
  have HC := hid (fun W (h : Below w.heap.size w W) => combine_any 50 _ _ merges_and sa sb wa wb va vb W (ha.below h) (hb.below h))
  obtain ⟨A, ca, rfl⟩ := ha.form
  obtain ⟨B, cb, rfl⟩ := hb.form
  clear ha hb
  obtain ⟨er, her⟩ : ∃ er, combErr sa wa sb wb = er := ⟨_, rfl⟩
  rw [her] at HC ⊢
  clear her
  obtain ⟨w1, h1⟩ : ∃ w1, w.alloc (.cells #[.int .i64 sa, .slice A wa.length ca] 24) = w1 := ⟨_, rfl⟩
  have z1 : w1.heap.size = w.heap.size + 1 := by rw [← h1]; simp
  obtain ⟨w2, h2⟩ : ∃ w2, w1.alloc (.cells #[.int .i64 sb, .slice B wb.length cb] 24) = w2 := ⟨_, rfl⟩
  have z2 : w2.heap.size = w.heap.size + 2 := by rw [← h2]; simp; omega
  obtain ⟨w4, h4⟩ : ∃ w4, w2.alloc (.cells #[.int .i64 0, .slice none 0 0] 24) = w4 := ⟨_, rfl⟩
  have z4 : w4.heap.size = w.heap.size + 3 := by rw [← h4]; simp; omega
  have rA : w4.heap[w.heap.size]? = some (.cells #[.int .i64 sa, .slice A wa.length ca] 24 (0, 0)) := by
    rw [← h4]; refine (Below.heap_alloc _ _ _ (by omega)).trans ?_
    rw [← h2]; refine (Below.heap_alloc _ _ _ (by omega)).trans ?_
    rw [← h1]; exact heap_alloc_new w _
  have rB : w4.heap[w.heap.size + 1]? = some (.cells #[.int .i64 sb, .slice B wb.length cb] 24 (0, 0)) := by
    rw [← h4]; refine (Below.heap_alloc _ _ _ (by omega)).trans ?_
    rw [← h2, ← z1]; exact heap_alloc_new w1 _
  have rR : w4.heap[w.heap.size + 2]? = some (.cells #[.int .i64 0, .slice none 0 0] 24 (0, 0)) := by
    rw [← h4, ← z2]; exact heap_alloc_new w2 _
  have hB4 : Below w.heap.size w w4 := by
    rw [← h4, ← h2, ← h1]
    exact (((Below.refl _ w).alloc (Nat.le_refl _) _).alloc (by simp) _).alloc (by simp; omega) _
  have a0 := cell_of_row _ _ 0 _ _ _ rA
  have a1 := cell_of_row _ _ 1 _ _ _ rA
  have b0 := cell_of_row _ _ 0 _ _ _ rB
  have b1 := cell_of_row _ _ 1 _ _ _ rB
  have RA := hid rA
  have RB := hid rB
  have RR := hid rR
  have HB4 := hid hB4
  clear rA rB rR hB4
  go_enter Tryd.func30, Tryd.ntmps30
  go_wp2_with (go_at_call 47; refine (HC.out _ HB4.out).mono ?_; rintro e w6 ⟨v, ws, rfl, hbm, hif, hb6⟩; obtain ⟨f0, f1, f2, f3, HR6⟩ := res_facts hb6 RR.out (by omega); have HBM := hid hbm; obtain ⟨A', c', rfl⟩ := hbm.form; have HB6 := hid hb6; have HIF := hid hif; obtain ⟨S, hS⟩ : ∃ S, (if er = 0 then sa else 0) = S := ⟨_, rfl⟩; rw [hS] at HBM; rw [hS]; have HS := hid hS; clear hS hbm hif hb6)
  refine bodyPost_ret (results_bm rfl _ _ _ _ _ _ _ rfl (box2_set HR6.out)) rfl ?_
  refine ⟨_, ws, rfl, ?_, HIF.out, box2_below (below_from HB4.out HB6.out) (by omega)⟩
  rw [HS.out]
  exact bm_box2 HBM.out HR6.out (fun z h => by cases h) (fun z h => by cases h)
end Go.Proofs.YtbifhcjkdfocaaaDoor
