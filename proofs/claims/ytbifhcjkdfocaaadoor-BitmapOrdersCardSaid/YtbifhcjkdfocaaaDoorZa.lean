/- The reference's both. -/
import Derived.Test.YtbifhcjkdfocaaaDoorM
import Derived.Test.YtbifhcjkdfocaaaDoorF
namespace Go.Proofs.YtbifhcjkdfocaaaDoor
open Go.RowKit

theorem comb_3a {sa sb : Int} {wa wb : List Nat} (h : ¬ chk sa wa = 0) : combErr sa wa sb wb = 3 := by unfold combErr; rw [if_neg (fun k => h k.1)]
theorem comb_3b {sa sb : Int} {wa wb : List Nat} (h : ¬ chk sb wb = 0) : combErr sa wa sb wb = 3 := by unfold combErr; rw [if_neg (fun k => h k.2)]
theorem comb_22 {sa sb : Int} {wa wb : List Nat} (h : chk sa wa = 0) (k : chk sb wb = 0) (hne : ¬ sa = sb) : combErr sa wa sb wb = 22 := by unfold combErr; rw [if_pos ⟨h, k⟩, if_neg hne]
theorem comb_0 {sa : Int} {wa wb : List Nat} (h : chk sa wa = 0) (k : chk sa wb = 0) : combErr sa wa sa wb = 0 := by unfold combErr; rw [if_pos ⟨h, k⟩, if_pos rfl]

set_option maxHeartbeats 4000000 in
set_option maxRecDepth 100000 in
theorem both_any (sa sb : Int) (wa wb : List Nat) (va vb : Value) (w : World) (ha : Bm w va sa wa) (hb : Bm w vb sb wb) :
    Calls Tryd.prog 48 #[va, vb] w fun e w' => e = .returned (.int .i64 (combErr sa wa sb wb)) ∧ Below w.heap.size w w' := by
  have HCA := hid (fun w1 (h : Below w.heap.size w w1) => refCheck_any sa wa va w1 (ha.below h))
  have HCB := hid (fun w1 (h : Below w.heap.size w w1) => refCheck_any sb wb vb w1 (hb.below h))
  obtain ⟨hs1, hs2⟩ : R64 sa := ha.1
  obtain ⟨ht1, ht2⟩ : R64 sb := hb.1
  obtain ⟨A, ca, rfl⟩ := ha.form
  obtain ⟨B, cb, rfl⟩ := hb.form
  clear ha hb
  obtain ⟨w1, h1⟩ : ∃ w1, w.alloc (.cells #[.int .i64 sa, .slice A wa.length ca] 24) = w1 := ⟨_, rfl⟩
  have z1 : w1.heap.size = w.heap.size + 1 := by rw [← h1]; simp
  obtain ⟨w4, h4⟩ : ∃ w4, w1.alloc (.cells #[.int .i64 sb, .slice B wb.length cb] 24) = w4 := ⟨_, rfl⟩
  have z4 : w4.heap.size = w.heap.size + 2 := by rw [← h4]; simp; omega
  have rA : w4.heap[w.heap.size]? = some (.cells #[.int .i64 sa, .slice A wa.length ca] 24 (0, 0)) := by
    rw [← h4]; refine (Below.heap_alloc _ _ _ (by omega)).trans ?_
    rw [← h1]; exact heap_alloc_new w _
  have rB : w4.heap[w.heap.size + 1]? = some (.cells #[.int .i64 sb, .slice B wb.length cb] 24 (0, 0)) := by
    rw [← h4, ← z1]; exact heap_alloc_new w1 _
  have hB4 : Below w.heap.size w w4 := by
    rw [← h4, ← h1]
    exact ((Below.refl _ w).alloc (Nat.le_refl _) _).alloc (by simp) _
  have a0 := cell_of_row _ _ 0 _ _ _ rA
  have a1 := cell_of_row _ _ 1 _ _ _ rA
  have RA := hid rA
  have RB := hid rB
  have HB4 := hid hB4
  clear rA rB hB4
  by_cases ga : chk sa wa = 0
  · by_cases gb : chk sb wb = 0
    · by_cases hss : sa = sb
      · subst hss
        have hce := hid (comb_0 ga gb)
        rw [ga] at HCA
        rw [gb] at HCB
        clear ga gb
        go_enter Tryd.func48, Tryd.ntmps48
        go_wp2_with fail
        refine (HCA.out _ HB4.out).mono ?_
        rintro e w5 ⟨rfl, hb5⟩
        obtain ⟨p0, p1, _, _, _⟩ := res_facts hb5 RA.out (by omega)
        obtain ⟨q0, q1, _, _, _⟩ := res_facts hb5 RB.out (by omega)
        have HB5 := hid (below_from HB4.out hb5)
        have HW5 := hid hb5
        have hz5 := hb5.size
        clear a0 a1 hb5
        go_wp2_with fail
        refine (HCB.out _ HB5.out).mono ?_
        rintro e w6 ⟨rfl, hb6⟩
        obtain ⟨p0, p1, _, _, _⟩ := res_facts hb6 ((HW5.out.block _ (by omega)).trans RA.out) (by omega)
        obtain ⟨q0, q1, _, _, _⟩ := res_facts hb6 ((HW5.out.block _ (by omega)).trans RB.out) (by omega)
        have HB6 := hid (below_both HB5.out hb6)
        clear hb6
        go_wp2
        go_ret
        exact ⟨ret_int hce.out.symm, HB6.out⟩
      · have hce := hid (comb_22 ga gb hss)
        rw [ga] at HCA
        rw [gb] at HCB
        clear ga gb
        go_enter Tryd.func48, Tryd.ntmps48
        go_wp2_with fail
        refine (HCA.out _ HB4.out).mono ?_
        rintro e w5 ⟨rfl, hb5⟩
        obtain ⟨p0, p1, _, _, _⟩ := res_facts hb5 RA.out (by omega)
        obtain ⟨q0, q1, _, _, _⟩ := res_facts hb5 RB.out (by omega)
        have HB5 := hid (below_from HB4.out hb5)
        have HW5 := hid hb5
        have hz5 := hb5.size
        clear a0 a1 hb5
        go_wp2_with fail
        refine (HCB.out _ HB5.out).mono ?_
        rintro e w6 ⟨rfl, hb6⟩
        obtain ⟨p0, p1, _, _, _⟩ := res_facts hb6 ((HW5.out.block _ (by omega)).trans RA.out) (by omega)
        obtain ⟨q0, q1, _, _, _⟩ := res_facts hb6 ((HW5.out.block _ (by omega)).trans RB.out) (by omega)
        have HB6 := hid (below_both HB5.out hb6)
        clear hb6
        go_wp2
        go_ret
        exact ⟨ret_int hce.out.symm, HB6.out⟩
    · have e3 : chk sb wb = 3 := by rcases chk_cases sb wb with h | h <;> omega
      have hce := hid (comb_3b (sa := sa) (wa := wa) gb)
      rw [ga] at HCA
      rw [e3] at HCB
      clear ga gb e3
      go_enter Tryd.func48, Tryd.ntmps48
      go_wp2_with fail
      refine (HCA.out _ HB4.out).mono ?_
      rintro e w5 ⟨rfl, hb5⟩
      obtain ⟨q0, q1, _, _, _⟩ := res_facts hb5 RB.out (by omega)
      have HB5 := hid (below_from HB4.out hb5)
      clear a0 a1 hb5
      go_wp2_with fail
      refine (HCB.out _ HB5.out).mono ?_
      rintro e w6 ⟨rfl, hb6⟩
      have HB6 := hid (below_both HB5.out hb6)
      clear hb6
      go_wp2
      go_ret
      exact ⟨ret_int hce.out.symm, HB6.out⟩
  · have e3 : chk sa wa = 3 := by rcases chk_cases sa wa with h | h <;> omega
    have hce := hid (comb_3a (sb := sb) (wb := wb) ga)
    rw [e3] at HCA
    clear ga e3
    go_enter Tryd.func48, Tryd.ntmps48
    go_wp2_with fail
    refine (HCA.out _ HB4.out).mono ?_
    rintro e w5 ⟨rfl, hb5⟩
    have HB5 := hid (below_from HB4.out hb5)
    clear a0 a1 hb5
    go_wp2
    go_ret
    exact ⟨ret_int hce.out.symm, HB5.out⟩
end Go.Proofs.YtbifhcjkdfocaaaDoor
