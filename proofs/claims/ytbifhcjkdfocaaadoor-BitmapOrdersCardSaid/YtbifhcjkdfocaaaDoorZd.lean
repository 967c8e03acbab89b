/- The reference's Set, Clear, FromExtents; SameExtents at equal lists. -/
import Derived.Test.YtbifhcjkdfocaaaDoorZc
namespace Go.Proofs.YtbifhcjkdfocaaaDoor
open Go.RowKit

set_option maxHeartbeats 4000000 in
set_option maxRecDepth 100000 in
theorem refSet_any (s a c : Int) (ws : List Nat) (v : Value) (w : World) (hv : Bm w v s ws) (ha : R64 a) (hc : R64 c) :
    Calls Tryd.prog 25 #[v, .agg #[.int .i64 a, .int .i64 c]] w (MadeB w (chgErr s ws a c) s fun i => bit ws i || inL [(a, c)] i) := by
  have HC := hid (fun W (h : Below w.heap.size w W) => refChange_set s a c ws v W (hv.below h) ha hc)
  obtain ⟨A, ca, rfl⟩ := hv.form
  clear hv
  obtain ⟨er, her⟩ : ∃ er, chgErr s ws a c = er := ⟨_, rfl⟩
  rw [her] at HC ⊢
  clear her
  obtain ⟨w1, h1⟩ : ∃ w1, w.alloc (.cells #[.int .i64 s, .slice A ws.length ca] 24) = w1 := ⟨_, rfl⟩
  have z1 : w1.heap.size = w.heap.size + 1 := by rw [← h1]; simp
  obtain ⟨w2, h2⟩ : ∃ w2, w1.alloc (.cells #[.int .i64 a, .int .i64 c] 39) = w2 := ⟨_, rfl⟩
  have z2 : w2.heap.size = w.heap.size + 2 := by rw [← h2]; simp; omega
  obtain ⟨w4, h4⟩ : ∃ w4, w2.alloc (.cells #[.int .i64 0, .slice none 0 0] 24) = w4 := ⟨_, rfl⟩
  have z4 : w4.heap.size = w.heap.size + 3 := by rw [← h4]; simp; omega
  have rA : w4.heap[w.heap.size]? = some (.cells #[.int .i64 s, .slice A ws.length ca] 24 (0, 0)) := by
    rw [← h4]; refine (Below.heap_alloc _ _ _ (by omega)).trans ?_
    rw [← h2]; refine (Below.heap_alloc _ _ _ (by omega)).trans ?_
    rw [← h1]; exact heap_alloc_new w _
  have rB : w4.heap[w.heap.size + 1]? = some (.cells #[.int .i64 a, .int .i64 c] 39 (0, 0)) := by
    rw [← h4]; refine (Below.heap_alloc _ _ _ (by omega)).trans ?_
    rw [← h2, ← z1]; exact heap_alloc_new w1 _
  have rR : w4.heap[w.heap.size + 2]? = some (.cells #[.int .i64 0, .slice none 0 0] 24 (0, 0)) := by
    rw [← h4, ← z2]; exact heap_alloc_new w2 _
  have hB4 : Below w.heap.size w w4 := by
    rw [← h4, ← h2, ← h1]
    exact (((Below.refl _ w).alloc (Nat.le_refl _) _).alloc (by simp) _).alloc (by simp; omega) _
  have a0 := cell_of_row _ _ 0 _ _ _ rA
  have a1 := cell_of_row _ _ 1 _ _ _ rA
  have b0 := cell_of_row _ _ 0 _ _ _ rB
  have b1 := cell_of_row _ _ 1 _ _ _ rB
  have RR := hid rR
  have HB4 := hid hB4
  clear rA rB rR hB4
  go_enter Tryd.func25, Tryd.ntmps25
  go_wp2_with fail
  refine (HC.out _ HB4.out).mono ?_
  rintro e w6 ⟨v, ws, rfl, hbm, hif, hb6⟩
  obtain ⟨f0, f1, f2, f3, HR6⟩ := res_facts hb6 RR.out (by omega)
  have HBM := hid hbm
  obtain ⟨A', c', rfl⟩ := hbm.form
  have HB6 := hid hb6
  have HIF := hid hif
  obtain ⟨S, hS⟩ : ∃ S, (if er = 0 then s else 0) = S := ⟨_, rfl⟩
  rw [hS] at HBM
  rw [hS]
  have HS := hid hS
  clear hS hbm hif hb6 a0 a1 b0 b1
  go_wp2
  refine bodyPost_ret (results_bm rfl _ _ _ _ _ _ _ rfl (box2_set HR6.out)) rfl ?_
  refine ⟨_, ws, rfl, ?_, HIF.out, box2_below (below_from HB4.out HB6.out) (by omega)⟩
  rw [HS.out]
  exact bm_box2 HBM.out HR6.out (fun z h => by cases h) (fun z h => by cases h)

set_option maxHeartbeats 4000000 in
set_option maxRecDepth 100000 in
theorem refClear_any (s a c : Int) (ws : List Nat) (v : Value) (w : World) (hv : Bm w v s ws) (ha : R64 a) (hc : R64 c) :
    Calls Tryd.prog 27 #[v, .agg #[.int .i64 a, .int .i64 c]] w (MadeB w (chgErr s ws a c) s fun i => bit ws i && !inL [(a, c)] i) := by
  have HC := hid (fun W (h : Below w.heap.size w W) => refChange_clear s a c ws v W (hv.below h) ha hc)
  obtain ⟨A, ca, rfl⟩ := hv.form
  clear hv
  obtain ⟨er, her⟩ : ∃ er, chgErr s ws a c = er := ⟨_, rfl⟩
  rw [her] at HC ⊢
  clear her
  obtain ⟨w1, h1⟩ : ∃ w1, w.alloc (.cells #[.int .i64 s, .slice A ws.length ca] 24) = w1 := ⟨_, rfl⟩
  have z1 : w1.heap.size = w.heap.size + 1 := by rw [← h1]; simp
  obtain ⟨w2, h2⟩ : ∃ w2, w1.alloc (.cells #[.int .i64 a, .int .i64 c] 39) = w2 := ⟨_, rfl⟩
  have z2 : w2.heap.size = w.heap.size + 2 := by rw [← h2]; simp; omega
  obtain ⟨w4, h4⟩ : ∃ w4, w2.alloc (.cells #[.int .i64 0, .slice none 0 0] 24) = w4 := ⟨_, rfl⟩
  have z4 : w4.heap.size = w.heap.size + 3 := by rw [← h4]; simp; omega
  have rA : w4.heap[w.heap.size]? = some (.cells #[.int .i64 s, .slice A ws.length ca] 24 (0, 0)) := by
    rw [← h4]; refine (Below.heap_alloc _ _ _ (by omega)).trans ?_
    rw [← h2]; refine (Below.heap_alloc _ _ _ (by omega)).trans ?_
    rw [← h1]; exact heap_alloc_new w _
  have rB : w4.heap[w.heap.size + 1]? = some (.cells #[.int .i64 a, .int .i64 c] 39 (0, 0)) := by
    rw [← h4]; refine (Below.heap_alloc _ _ _ (by omega)).trans ?_
    rw [← h2, ← z1]; exact heap_alloc_new w1 _
  have rR : w4.heap[w.heap.size + 2]? = some (.cells #[.int .i64 0, .slice none 0 0] 24 (0, 0)) := by
    rw [← h4, ← z2]; exact heap_alloc_new w2 _
  have hB4 : Below w.heap.size w w4 := by
    rw [← h4, ← h2, ← h1]
    exact (((Below.refl _ w).alloc (Nat.le_refl _) _).alloc (by simp) _).alloc (by simp; omega) _
  have a0 := cell_of_row _ _ 0 _ _ _ rA
  have a1 := cell_of_row _ _ 1 _ _ _ rA
  have b0 := cell_of_row _ _ 0 _ _ _ rB
  have b1 := cell_of_row _ _ 1 _ _ _ rB
  have RR := hid rR
  have HB4 := hid hB4
  clear rA rB rR hB4
  go_enter Tryd.func27, Tryd.ntmps27
  go_wp2_with fail
  refine (HC.out _ HB4.out).mono ?_
  rintro e w6 ⟨v, ws, rfl, hbm, hif, hb6⟩
  obtain ⟨f0, f1, f2, f3, HR6⟩ := res_facts hb6 RR.out (by omega)
  have HBM := hid hbm
  obtain ⟨A', c', rfl⟩ := hbm.form
  have HB6 := hid hb6
  have HIF := hid hif
  obtain ⟨S, hS⟩ : ∃ S, (if er = 0 then s else 0) = S := ⟨_, rfl⟩
  rw [hS] at HBM
  rw [hS]
  have HS := hid hS
  clear hS hbm hif hb6 a0 a1 b0 b1
  go_wp2
  refine bodyPost_ret (results_bm rfl _ _ _ _ _ _ _ rfl (box2_set HR6.out)) rfl ?_
  refine ⟨_, ws, rfl, ?_, HIF.out, box2_below (below_from HB4.out HB6.out) (by omega)⟩
  rw [HS.out]
  exact bm_box2 HBM.out HR6.out (fun z h => by cases h) (fun z h => by cases h)

theorem fitAll_one (s a c : Int) : fitAll s [(a, c)] = fitsB a c s := by simp [fitAll]
theorem feErr_take {s : Int} {l : List (Int × Int)} {k : Nat} {e : Int × Int} (h : l[k]? = some e) (he : ¬ fitAll s [e] = true) : feErr s l = 2 := by
  refine feErr_bad (fun hh => ?_)
  refine fitAll_not h ?_ hh.2.2
  obtain ⟨a, c⟩ := e
  rw [fitAll_one] at he
  simpa using he

set_option maxHeartbeats 4000000 in
set_option maxRecDepth 100000 in
theorem refFromExtents_any (s : Int) (l : List (Int × Int)) (v : Value) (w : World) (hv : Ext w v l) :
    Calls Tryd.prog 35 #[.int .i64 s, v] w (MadeB w (feErr s l) s (fun i => inL l i)) := by
  have hln := ext_len hv
  obtain ⟨hr, A, cap, rfl, hcap, hcm, b, off, hA, hc⟩ := hv
  have HC := hid hc
  have HR := hid hr
  clear hc hr
  obtain ⟨w0, hw0⟩ : ∃ w0, w.alloc (.cells #[.int .i64 0, .slice none 0 0] 24) = w0 := ⟨_, rfl⟩
  have hz0 : w0.heap.size = w.heap.size + 1 := by rw [← hw0]; simp
  have r0 : w0.heap[w.heap.size]? = some (.cells #[.int .i64 0, .slice none 0 0] 24 (0, 0)) := by rw [← hw0]; exact heap_alloc_new w _
  have hB0 : Below w.heap.size w w0 := by rw [← hw0]; exact (Below.refl _ w).alloc (Nat.le_refl _) _
  have R0 := hid r0
  have HB0 := hid hB0
  clear r0 hB0
  have HN := hid (refNew_any s w0)
  have HNE := hid (show newErr s = 0 ∧ 0 ≤ s ∧ s ≤ 4096 ∨ newErr s = 2 ∧ feErr s l = 2 by
    by_cases h : 0 ≤ s ∧ s ≤ 4096
    · exact .inl ⟨newErr_ok h.1 h.2, h⟩
    · exact .inr ⟨newErr_bad h, feErr_bad (fun hh => h ⟨hh.1, hh.2.1⟩)⟩)
  obtain ⟨ne, hne⟩ : ∃ ne, newErr s = ne := ⟨_, rfl⟩
  rw [hne] at HN HNE
  clear hne
  go_enter Tryd.func35, Tryd.ntmps35
  go_wp2_with fail
  refine HN.out.mono ?_
  rintro e w1 ⟨v1, ws1, rfl, hbm1, hif1, hb1⟩
  have hz1 := hb1.size
  have hlt1 : w.heap.size < w1.heap.size := by omega
  obtain ⟨S1, hS1⟩ : ∃ S1, (if ne = 0 then s else 0) = S1 := ⟨_, rfl⟩
  rw [hS1] at hbm1
  have hbm2 := fun o => hbm1.below ((Below.refl _ w1).alloc (Nat.le_refl _) o)
  obtain ⟨A1, c1, rfl⟩ := hbm1.form
  have HST : Hid (ne = 0 ∧ 0 ≤ s ∧ s ≤ 4096 ∧ S1 = s ∧ Good s ws1 ∧ (∀ i : Nat, (i : Int) < s → bit ws1 i = false) ∨ ne = 2 ∧ S1 = 0 ∧ ws1 = [] ∧ feErr s l = 2) := hid (by
    rcases HNE.out with ⟨h, h1, h2⟩ | ⟨h, h2⟩
    · rw [if_pos h] at hif1 hS1
      exact .inl ⟨h, h1, h2, hS1.symm, hif1.1, hif1.2⟩
    · have h0 : ¬ ne = 0 := by omega
      rw [if_neg h0] at hif1 hS1
      exact .inr ⟨h, hS1.symm, hif1, h2⟩)
  have HBM := hid (hbm2 (.cells #[.int .i64 S1, .slice A1 ws1.length c1] 24))
  have HR1 := hid ((hb1.block _ (by omega)).trans R0.out)
  have HB1 := hid (below_both HB0.out hb1)
  clear hbm1 hbm2 hif1 hb1 hS1 HN HNE
  go_wp2_with fail
  obtain ⟨q, hq⟩ : ∃ q, w1.heap.size = q := ⟨_, rfl⟩
  obtain ⟨w2, hw2⟩ : ∃ w2, w1.alloc (.cells #[.int .i64 S1, .slice A1 ws1.length c1] 24) = w2 := ⟨_, rfl⟩
  have hz2 : w2.heap.size = q + 1 := by rw [← hw2]; simp; omega
  have HQ2 : Hid (w2.heap[q]? = some (.cells #[.int .i64 S1, .slice A1 ws1.length c1] 24 (0, 0))) := hid (by rw [← hw2, ← hq]; exact heap_alloc_new w1 _)
  have hB12 : Below w1.heap.size w1 w2 := by rw [← hw2]; exact (Below.refl _ w1).alloc (Nat.le_refl _) _
  have HR2 := hid ((hB12.block _ hlt1).trans HR1.out)
  have HB2 := hid (below_both HB1.out hB12)
  have HBM2 : Hid (Bm w2 (.agg #[.int .i64 S1, .slice A1 ws1.length c1]) S1 ws1) := by rw [← hw2]; exact HBM
  rw [hw2, hq]
  rw [hq] at hlt1
  clear HBM HR1 HB1 hB12 hw2 hq hz1
  go_loopw [7, 8] (fun er i wr => ∃ (k : Nat) (us : List Nat) (E S : Int) (A2 : Option Addr) (c2 : Nat), k ≤ l.length ∧ i = .int .i64 k ∧ er = .int .i64 E ∧ q < wr.heap.size ∧
    Hid (E = 0 ∧ 0 ≤ s ∧ s ≤ 4096 ∧ S = s ∧ Good s us ∧ (∀ i : Nat, (i : Int) < s → bit us i = inL (l.take k) i) ∧ fitAll s (l.take k) = true ∨ E = 2 ∧ S = 0 ∧ us = [] ∧ feErr s l = 2) ∧
    Hid (wr.heap[q]? = some (.cells #[.int .i64 S, .slice A2 us.length c2] 24 (0, 0))) ∧ Hid (Bm wr (.agg #[.int .i64 S, .slice A2 us.length c2]) S us) ∧
    Hid (wr.heap[w.heap.size]? = some (.cells #[.int .i64 0, .slice none 0 0] 24 (0, 0))) ∧ Hid (Below w.heap.size w wr)) (fun _ i _ => l.length - (intOf i).toNat)
  case atStart => exact ⟨0, ws1, ne, S1, A1, c1, Nat.zero_le _, rfl, rfl, by omega, hid (HST.out.imp (fun ⟨h1, h2, h3, h4, h5, h6⟩ => ⟨h1, h2, h3, h4, h5, h6, rfl⟩) id), HQ2, HBM2, HR2, HB2⟩
  case round =>
    clear HQ2 HBM2 HR2 HB2 HST hz2
    obtain ⟨k, us, E, S, A2, c2, hk, rfl, rfl, hqs, HST, HQ, HBM, HRR, HBW⟩ := hrel
    have hBs := HBW.out.size
    have q0 := cell_of_row _ _ 0 _ _ _ HQ.out
    have q1 := cell_of_row _ _ 1 _ _ _ HQ.out
    have f0 := cell_of_row _ _ 0 _ _ _ HRR.out
    have f1 := cell_of_row _ _ 1 _ _ _ HRR.out
    have f2 : wr.frozen? ⟨w.heap.size, 0, none⟩ = false := by unfold World.frozen?; rw [HRR.out]; simp
    have f3 : wr.frozen? ⟨w.heap.size, 1, none⟩ = false := by unfold World.frozen?; rw [HRR.out]; simp
    by_cases hE : E = 0
    · subst hE
      by_cases hlt : k < l.length
      · obtain ⟨hA1, hb⟩ := hA (by omega)
        subst hA1
        obtain ⟨⟨a, c⟩, he⟩ : ∃ e, l[k]? = some e := ⟨l[k], List.getElem?_eq_getElem hlt⟩
        obtain ⟨hs1, hs2⟩ := HR.out (a, c) (List.mem_of_getElem? he)
        have hc1 := (HBW.out.cell (p := ⟨b, off + k * 2, none⟩) hb).trans (HC.out k _ he).1
        have hc2 := (HBW.out.cell (p := ⟨b, off + k * 2 + 1, none⟩) hb).trans (HC.out k _ he).2
        dsimp only at hc1 hc2 hs1 hs2
        have HE := hid he
        clear he
        have hst : 0 ≤ s ∧ s ≤ 4096 ∧ S = s ∧ Good s us ∧ (∀ i : Nat, (i : Int) < s → bit us i = inL (l.take k) i) ∧ fitAll s (l.take k) = true := by
          rcases HST.out with ⟨_, h⟩ | ⟨h, _⟩
          · exact h
          · omega
        obtain ⟨hs0, hs4, hSs, hgood, hbits, hfit⟩ := hst
        have hSs' := hSs.symm
        subst hSs'
        clear hSs
        have hce := hid (chg_good (s := s) (ws := us) (a := a) (c := c) (chk_good hgood))
        have HBITS := hid hbits
        have HFIT := hid hfit
        have HSET := hid (fun (W : World) (h : Bm W (.agg #[.int .i64 s, .slice A2 us.length c2]) s us) => refSet_any s a c us _ W h hs1 hs2)
        have hfec := feErr_cases s [(a, c)]
        obtain ⟨fe, hfe⟩ : ∃ fe, feErr s [(a, c)] = fe := ⟨_, rfl⟩
        have HFE := hid hfe
        rw [hfe] at hfec hce
        clear hgood hbits hfit hfe
        go_wp2_with fail
        rw [hce.out] at HSET
        have HNEWF := hid (fun (S8 : Int) (us8 : List Nat) (hS8 : (if fe = 0 then s else 0) = S8) (hif8 : if fe = 0 then Good s us8 ∧ ∀ i : Nat, (i : Int) < s → bit us8 i = (bit us i || inL [(a, c)] i) else us8 = []) => show (fe = 0 ∧ 0 ≤ s ∧ s ≤ 4096 ∧ S8 = s ∧ Good s us8 ∧ (∀ i : Nat, (i : Int) < s → bit us8 i = inL (l.take (k + 1)) i) ∧ fitAll s (l.take (k + 1)) = true ∨ fe = 2 ∧ S8 = 0 ∧ us8 = [] ∧ feErr s l = 2) from by
          rcases hfec with h | h
          · rw [if_pos h] at hif8 hS8
            refine .inl ⟨h, hs0, hs4, hS8.symm, hif8.1, fun i hi => ?_, ?_⟩
            · rw [hif8.2 i hi, HBITS.out i hi, take_snoc HE.out, inL_append]
            · rw [take_snoc HE.out]
              refine fitAll_snoc HFIT.out ?_
              have h3 := HFE.out
              rw [h] at h3
              unfold feErr at h3
              by_cases h4 : 0 ≤ s ∧ s ≤ 4096 ∧ fitAll s [(a, c)] = true
              · have := h4.2.2
                rw [fitAll_one] at this
                exact this
              · rw [if_neg h4] at h3; omega
          · have h0 : ¬ fe = 0 := by omega
            rw [if_neg h0] at hif8 hS8
            refine .inr ⟨h, hS8.symm, hif8, feErr_take HE.out (fun h4 => ?_)⟩
            have h3 := HFE.out
            rw [feErr_ok hs0 hs4 h4] at h3
            omega)
        go_region_with (first | (go_at_call 25; refine (HSET.out wr.drew HBM.out).mono ?_; rintro e w8 ⟨v8, us8, rfl, hbm8, hif8, hb8⟩; have hb9 : Below wr.heap.size wr w8 := ⟨hb8.os, hb8.tape, hb8.output, hb8.size, hb8.block⟩; obtain ⟨q0, q1, q2, q3, HQ8⟩ := res_facts hb9 HQ.out hqs; have HRR8 := hid ((hb9.block _ (by omega)).trans HRR.out); have hz8 := hb9.size; have HB8 := hid (HBW.out.trans (hb9.mono HBW.out.size)); obtain ⟨S8, hS8⟩ : ∃ S8, (if fe = 0 then s else 0) = S8 := ⟨_, rfl⟩; have HNEW := hid (HNEWF.out S8 us8 hS8 hif8); rw [hS8] at hbm8; have HBM8 := hid hbm8; obtain ⟨A8, c8, rfl⟩ := hbm8.form; clear hbm8 hif8 hS8 hb8 hb9))
        all_goals
          go_wp2
          go_roundw
          case rel => exact ⟨k + 1, us8, fe, S8, A8, c8, by omega, by go_num, rfl, by simp; omega, HNEW, hid (box2_set HQ8.out), hid (bm_box2 HBM8.out HQ8.out (fun z h => by cases h) (fun z h => by cases h)), hid ((box2_other (by omega)).trans HRR8.out), hid (box2_below HB8.out (by omega))⟩
          case measure => simp [intOf]; omega
      · obtain rfl : k = l.length := by omega
        have hst : 0 ≤ s ∧ s ≤ 4096 ∧ S = s ∧ Good s us ∧ (∀ i : Nat, (i : Int) < s → bit us i = inL (l.take l.length) i) ∧ fitAll s (l.take l.length) = true := by
          rcases HST.out with ⟨_, h⟩ | ⟨h, _⟩
          · exact h
          · omega
        obtain ⟨hs0, hs4, hSs, hgood, hbits, hfit⟩ := hst
        rw [List.take_length] at hbits hfit
        have HSS := hid hSs
        have HG := hid hgood
        have HBITS := hid hbits
        have HFE := hid (feErr_ok hs0 hs4 hfit)
        clear hgood hbits hfit hSs
        go_wp2
        refine bodyPost_ret (results_bm rfl _ _ _ _ _ _ _ rfl (box2_set HRR.out)) rfl ?_
        refine made_ok HFE.out.symm ?_ HG.out HBITS.out (box2_below HBW.out (Nat.le_refl _))
        have := bm_box2 (a := .int .i64 S) (b := .slice A2 us.length c2) HBM.out HRR.out (fun z h => by cases h) (fun z h => by cases h)
        rw [← HSS.out]
        exact this
    · have hst : E = 2 ∧ S = 0 ∧ us = [] ∧ feErr s l = 2 := by
        rcases HST.out with ⟨h, _⟩ | h
        · exact absurd h hE
        · exact h
      obtain ⟨rfl, hS0, hus, hfe⟩ := hst
      have HFE := hid hfe
      have HS0 := hid hS0
      have HUS := hid hus
      clear hfe hS0 hus
      by_cases hlt : k < l.length
      all_goals
        go_wp2
        refine bodyPost_ret (results_bm rfl _ _ _ _ _ _ _ rfl (box2_set HRR.out)) rfl ?_
        rw [HFE.out]
        refine ⟨_, us, rfl, ?_, by rw [if_neg (by omega)]; exact HUS.out, box2_below HBW.out (Nat.le_refl _)⟩
        rw [if_neg (by omega)]
        have := bm_box2 (a := .int .i64 S) (b := .slice A2 us.length c2) HBM.out HRR.out (fun z h => by cases h) (fun z h => by cases h)
        rw [HS0.out] at this ⊢
        exact this
end Go.Proofs.YtbifhcjkdfocaaaDoor
