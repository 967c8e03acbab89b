/- change, Set, Clear. -/
import Derived.Test.YtbifhcjkdfocaaaDoorX
import Derived.Test.YtbifhcjkdfocaaaDoorP
namespace Go.Proofs.YtbifhcjkdfocaaaDoor
open Go.RowKit

noncomputable def chgErr (s : Int) (ws : List Nat) (a c : Int) : Int := if chk s ws = 0 then feErr s [(a, c)] else 3
theorem chg_bad {s : Int} {ws : List Nat} {a c : Int} (h : ¬ chk s ws = 0) : chgErr s ws a c = 3 := by unfold chgErr; rw [if_neg h]
theorem chg_good {s : Int} {ws : List Nat} {a c : Int} (h : chk s ws = 0) : chgErr s ws a c = feErr s [(a, c)] := by unfold chgErr; rw [if_pos h]
theorem ext_one {W : World} {a c : Int} (ha : R64 a) (hc : R64 c) : Ext (W.alloc (.cells #[.int .i64 a, .int .i64 c] 39)) (.slice (some ⟨W.heap.size, 0, none⟩) 1 1) [(a, c)] := by
  refine ⟨fun e he => ?_, some ⟨W.heap.size, 0, none⟩, 1, rfl, Nat.le_refl _, by unfold maxLen; omega, W.heap.size, 0, fun _ => ⟨rfl, by simp⟩, fun i e hi => ?_⟩
  · simp only [List.mem_singleton] at he
    subst he
    exact ⟨ha, hc⟩
  · have hlt := (List.getElem?_eq_some_iff.1 hi).1
    simp at hlt
    subst hlt
    simp at hi
    subst hi
    exact ⟨(cell_of_row _ _ _ _ _ _ (heap_alloc_new W _)).trans rfl, (cell_of_row _ _ _ _ _ _ (heap_alloc_new W _)).trans rfl⟩
theorem feErr_cases (s : Int) (l : List (Int × Int)) : feErr s l = 0 ∨ feErr s l = 2 := by unfold feErr; split <;> simp

set_option maxHeartbeats 4000000 in
set_option maxRecDepth 100000 in
theorem change_any (fb : Nat) (op : Bool → Bool → Bool) (g : Nat → Nat → Nat) (hM : Merges fb op g) (s a c : Int) (ws : List Nat) (v : Value) (w : World) (hv : Bm w v s ws) (ha : R64 a) (hc : R64 c) :
    Calls Tryd.prog 43 #[v, .agg #[.int .i64 a, .int .i64 c], .agg #[.func (.func fb) #[] #[]]] w (MadeB w (chgErr s ws a c) s fun i => op (bit ws i) (inL [(a, c)] i)) := by
  have HCK := hid (fun W (h : Below w.heap.size w W) => check_any s ws v W (hv.below h))
  have HCOMB := hid (fun (W : World) (vb : Value) (wb : List Nat) (h : Below w.heap.size w W) (hb : Bm W vb s wb) => combine_any fb op g hM s s ws wb v vb W (hv.below h) hb)
  obtain ⟨A, ca, rfl⟩ := hv.form
  clear hv
  obtain ⟨w1, h1⟩ : ∃ w1, w.alloc (.cells #[.int .i64 s, .slice A ws.length ca] 24) = w1 := ⟨_, rfl⟩
  have z1 : w1.heap.size = w.heap.size + 1 := by rw [← h1]; simp
  obtain ⟨w2, h2⟩ : ∃ w2, w1.alloc (.cells #[.int .i64 a, .int .i64 c] 39) = w2 := ⟨_, rfl⟩
  have z2 : w2.heap.size = w.heap.size + 2 := by rw [← h2]; simp; omega
  obtain ⟨w3, h3⟩ : ∃ w3, w2.alloc (.cells #[.func (.func fb) #[] #[]] 64) = w3 := ⟨_, rfl⟩
  have z3 : w3.heap.size = w.heap.size + 3 := by rw [← h3]; simp; omega
  obtain ⟨w4, h4⟩ : ∃ w4, w3.alloc (.cells #[.int .i64 0, .slice none 0 0] 24) = w4 := ⟨_, rfl⟩
  have z4 : w4.heap.size = w.heap.size + 4 := by rw [← h4]; simp; omega
  have rA : w4.heap[w.heap.size]? = some (.cells #[.int .i64 s, .slice A ws.length ca] 24 (0, 0)) := by
    rw [← h4]; refine (Below.heap_alloc _ _ _ (by omega)).trans ?_
    rw [← h3]; refine (Below.heap_alloc _ _ _ (by omega)).trans ?_
    rw [← h2]; refine (Below.heap_alloc _ _ _ (by omega)).trans ?_
    rw [← h1]; exact heap_alloc_new w _
  have rB : w4.heap[w.heap.size + 1]? = some (.cells #[.int .i64 a, .int .i64 c] 39 (0, 0)) := by
    rw [← h4]; refine (Below.heap_alloc _ _ _ (by omega)).trans ?_
    rw [← h3]; refine (Below.heap_alloc _ _ _ (by omega)).trans ?_
    rw [← h2, ← z1]; exact heap_alloc_new w1 _
  have rM : w4.heap[w.heap.size + 2]? = some (.cells #[.func (.func fb) #[] #[]] 64 (0, 0)) := by
    rw [← h4]; refine (Below.heap_alloc _ _ _ (by omega)).trans ?_
    rw [← h3, ← z2]; exact heap_alloc_new w2 _
  have rR : w4.heap[w.heap.size + 3]? = some (.cells #[.int .i64 0, .slice none 0 0] 24 (0, 0)) := by
    rw [← h4, ← z3]; exact heap_alloc_new w3 _
  have hB4 : Below w.heap.size w w4 := by
    rw [← h4, ← h3, ← h2, ← h1]
    exact ((((Below.refl _ w).alloc (Nat.le_refl _) _).alloc (by simp) _).alloc (by simp; omega) _).alloc (by simp; omega) _
  have a0 := cell_of_row _ _ 0 _ _ _ rA
  have a1 := cell_of_row _ _ 1 _ _ _ rA
  have RA := hid rA
  have RB := hid rB
  have RM := hid rM
  have RR := hid rR
  have HB4 := hid hB4
  clear rA rB rM rR hB4
  by_cases ga : chk s ws = 0
  · have good := chk_zero ga
    have hlo := good.low
    have hhi := good.high
    have hce := hid (chg_good (a := a) (c := c) ga)
    have HG := hid ga
    have HCE := hid (fun wb (h : chk s wb = 0) => show combErr s ws s wb = 0 by unfold combErr; rw [if_pos ⟨ga, h⟩, if_pos rfl])
    rw [ga] at HCK
    clear ga good
    go_enter Tryd.func43, Tryd.ntmps43
    go_wp2_with fail
    refine (HCK.out _ HB4.out).mono ?_
    rintro e w5 ⟨rfl, hb5⟩
    obtain ⟨p0, p1, _, _, _⟩ := res_facts hb5 RA.out (by omega)
    obtain ⟨b0, b1, _, _, _⟩ := res_facts hb5 RB.out (by omega)
    have m0 := cell_of_row _ _ 0 _ _ _ ((hb5.block _ (by omega)).trans RM.out)
    obtain ⟨f0, f1, f2, f3, HR5⟩ := res_facts hb5 RR.out (by omega)
    have HB5 := hid (below_from HB4.out hb5)
    have hz5 := hb5.size
    have HRA5 := hid ((hb5.block _ (by omega)).trans RA.out)
    have HRM5 := hid ((hb5.block _ (by omega)).trans RM.out)
    have HFE := hid (fromExtents_any s [(a, c)] _ _ (ext_one (W := w5) ha hc))
    clear hb5 a0 a1
    go_wp2_with fail
    refine HFE.out.mono ?_
    rintro e w6 ⟨v6, ws6, rfl, hbm6, hif6, hb6⟩
    have hlt6 := hb6.size
    simp only [World.size_alloc] at hlt6
    have hb56 : Below w5.heap.size w5 w6 := below_more hb6 (Nat.le_refl _)
    obtain ⟨p0, p1, _, _, _⟩ := res_facts hb56 HRA5.out (by omega)
    have m0 := cell_of_row _ _ 0 _ _ _ ((hb56.block _ (by omega)).trans HRM5.out)
    obtain ⟨f0, f1, f2, f3, HR6⟩ := res_facts hb56 HR5.out (by omega)
    have HB6 := hid (below_both HB5.out hb56)
    have hr1 : w.heap.size + 3 < w6.heap.size := by omega
    have hr0 : w.heap.size < w6.heap.size := by omega
    have hr2 : w.heap.size + 2 < w6.heap.size := by omega
    clear hb56 hb6 b0 b1 HR5
    rcases feErr_cases s [(a, c)] with hfe | hfe
    · rw [hfe] at hbm6 hif6 hce ⊢
      rw [if_pos rfl] at hbm6 hif6
      have HBM := hid (fun o => hbm6.below ((Below.refl _ w6).alloc (Nat.le_refl _) o))
      obtain ⟨A6, c6, rfl⟩ := hbm6.form
      have HG6 := hid hif6
      have hc6 := HCE.out ws6 (chk_good hif6.1)
      have HC := hid (fun o => HCOMB.out (w6.alloc o) _ ws6 (HB6.out.trans (((Below.refl _ w6).alloc (Nat.le_refl _) o).mono HB6.out.size)) (HBM.out o))
      rw [hc6] at HC
      clear hbm6 hif6 hfe hc6 HCE HCOMB HFE
      go_wp2_with (go_at_call 47; refine (HC.out _).mono ?_; rintro e w8 ⟨v8, ws8, rfl, hbm8, hif8, hb8⟩; rw [if_pos rfl] at hbm8 hif8; have hb68 := below_more hb8 (Nat.le_refl _); obtain ⟨f0, f1, f2, f3, HR8⟩ := res_facts hb68 HR6.out (by omega); have HBM8 := hid hbm8; obtain ⟨A8, c8, rfl⟩ := hbm8.form; have HB8 := hid (below_both HB6.out hb68); have HIF := hid hif8; clear hbm8 hif8 hb8 hb68)
      refine bodyPost_ret (results_bm rfl _ _ _ _ _ _ _ rfl (box2_set HR8.out)) rfl ?_
      refine made_ok hce.out.symm (bm_box2 HBM8.out HR8.out (fun z h => by cases h) (fun z h => by cases h)) HIF.out.1 (fun i hi => ?_) (box2_below HB8.out (by omega))
      rw [HIF.out.2 i hi, HG6.out.2 i hi]
    · rw [hfe] at hbm6 hif6 hce ⊢
      obtain ⟨A6, c6, rfl⟩ := hbm6.form
      clear hbm6 hif6 hfe HCE HCOMB HFE
      go_wp2
      refine bodyPost_ret (results_bm rfl _ _ _ _ _ _ _ rfl ((Below.heap_alloc _ _ _ (by simp; omega)).trans (box2_set HR6.out))) rfl ?_
      exact made_err hce.out.symm (by omega) ((box2_below HB6.out (by omega)).alloc (by simp; omega) _)
  · have h3' : chk s ws = 3 := by rcases chk_cases s ws with h | h <;> omega
    have hce := hid (chg_bad (a := a) (c := c) ga)
    rw [h3'] at HCK
    clear ga h3'
    go_enter Tryd.func43, Tryd.ntmps43
    go_wp2_with (go_at_call 16; refine (HCK.out _ HB4.out).mono ?_; rintro e w5 ⟨rfl, hb5⟩; obtain ⟨f0, f1, f2, f3, HR5⟩ := res_facts hb5 RR.out (by omega); have HB5 := hid hb5; clear hb5)
    refine bodyPost_ret (results_bm rfl _ _ _ _ _ _ _ rfl (box2_set HR5.out)) rfl ?_
    exact made_err hce.out.symm (by omega) (box2_below (below_from HB4.out HB5.out) (by omega))

set_option maxHeartbeats 4000000 in
set_option maxRecDepth 100000 in
theorem set_any (s a c : Int) (ws : List Nat) (v : Value) (w : World) (hv : Bm w v s ws) (ha : R64 a) (hc : R64 c) :
    Calls Tryd.prog 24 #[v, .agg #[.int .i64 a, .int .i64 c]] w (MadeB w (chgErr s ws a c) s fun i => bit ws i || inL [(a, c)] i) := by
  have HC := hid (fun W (h : Below w.heap.size w W) => change_any 55 _ _ merges_or s a c ws v W (hv.below h) ha hc)
  obtain ⟨A, ca, rfl⟩ := hv.form
  clear hv
  obtain ⟨er, her⟩ : ∃ er, chgErr s ws a c = er := ⟨_, rfl⟩
  rw [her] at HC ⊢
  clear her
  obtain ⟨w1, h1⟩ : ∃ w1, w.alloc (.cells #[.int .i64 s, .slice A ws.length ca] 24) = w1 := ⟨_, rfl⟩
  have z1 : w1.heap.size = w.heap.size + 1 := by rw [← h1]; simp
  obtain ⟨w2, h2⟩ : ∃ w2, w1.alloc (.cells #[.int .i64 a, .int .i64 c] 39) = w2 := ⟨_, rfl⟩
  have z2 : w2.heap.size = w.heap.size + 2 := by rw [← h2]; simp; omega
  obtain ⟨w4, h4⟩ : ∃ w4, w2.alloc (.cells #[.int .i64 0, .slice none 0 0] 24) = w4 := ⟨_, rfl⟩
  have z4 : w4.heap.size = w.heap.size + 3 := by rw [← h4]; simp; omega
  have rA : w4.heap[w.heap.size]? = some (.cells #[.int .i64 s, .slice A ws.length ca] 24 (0, 0)) := by
    rw [← h4]; refine (Below.heap_alloc _ _ _ (by omega)).trans ?_
    rw [← h2]; refine (Below.heap_alloc _ _ _ (by omega)).trans ?_
    rw [← h1]; exact heap_alloc_new w _
  have rB : w4.heap[w.heap.size + 1]? = some (.cells #[.int .i64 a, .int .i64 c] 39 (0, 0)) := by
    rw [← h4]; refine (Below.heap_alloc _ _ _ (by omega)).trans ?_
    rw [← h2, ← z1]; exact heap_alloc_new w1 _
  have rR : w4.heap[w.heap.size + 2]? = some (.cells #[.int .i64 0, .slice none 0 0] 24 (0, 0)) := by
    rw [← h4, ← z2]; exact heap_alloc_new w2 _
  have hB4 : Below w.heap.size w w4 := by
    rw [← h4, ← h2, ← h1]
    exact (((Below.refl _ w).alloc (Nat.le_refl _) _).alloc (by simp) _).alloc (by simp; omega) _
  have a0 := cell_of_row _ _ 0 _ _ _ rA
  have a1 := cell_of_row _ _ 1 _ _ _ rA
  have b0 := cell_of_row _ _ 0 _ _ _ rB
  have b1 := cell_of_row _ _ 1 _ _ _ rB
  have RA := hid rA
  have RB := hid rB
  have RR := hid rR
  have HB4 := hid hB4
  clear rA rB rR hB4
  go_enter Tryd.func24, Tryd.ntmps24
  go_wp2
  go_region_with (first | (go_at_call 44; refine (union_any _).mono ?_; rintro e w5 ⟨rfl, hb5⟩; have hb45 : Below w4.heap.size w4 w5 := ⟨hb5.os, hb5.tape, hb5.output, hb5.size, hb5.block⟩; have a0 := (hb45.cell (p := ⟨w.heap.size, 0, none⟩) (show w.heap.size < w4.heap.size by omega)).trans a0; have a1 := (hb45.cell (p := ⟨w.heap.size, 1, none⟩) (show w.heap.size < w4.heap.size by omega)).trans a1; have b0 := (hb45.cell (p := ⟨w.heap.size + 1, 0, none⟩) (show w.heap.size + 1 < w4.heap.size by omega)).trans b0; have b1 := (hb45.cell (p := ⟨w.heap.size + 1, 1, none⟩) (show w.heap.size + 1 < w4.heap.size by omega)).trans b1) | (go_at_call 43; refine (HC.out _ (below_from HB4.out ⟨hb45.os, hb45.tape, hb45.output, hb45.size, hb45.block⟩)).mono ?_; rintro e w6 ⟨v, ws, rfl, hbm, hif, hb6⟩; have hb46 : Below w4.heap.size w4 w6 := hb45.trans (Below.mono ⟨hb6.os, hb6.tape, hb6.output, hb6.size, hb6.block⟩ hb45.size); obtain ⟨f0, f1, f2, f3, HR6⟩ := res_facts hb46 RR.out (by omega); have HBM := hid hbm; obtain ⟨A', c', rfl⟩ := hbm.form; have HB6 := hid hb46; have HIF := hid hif; obtain ⟨S, hS⟩ : ∃ S, (if er = 0 then s else 0) = S := ⟨_, rfl⟩; rw [hS] at HBM; rw [hS]; have HS := hid hS; clear hS hbm hif hb6 hb46))
  all_goals
    go_wp2
    refine bodyPost_ret (results_bm rfl _ _ _ _ _ _ _ rfl (box2_set HR6.out)) rfl ?_
    refine ⟨_, ws, rfl, ?_, HIF.out, box2_below (below_from HB4.out HB6.out) (by omega)⟩
    rw [HS.out]
    exact bm_box2 HBM.out HR6.out (fun z h => by cases h) (fun z h => by cases h)

set_option maxHeartbeats 4000000 in
set_option maxRecDepth 100000 in
theorem clear_any (s a c : Int) (ws : List Nat) (v : Value) (w : World) (hv : Bm w v s ws) (ha : R64 a) (hc : R64 c) :
    Calls Tryd.prog 26 #[v, .agg #[.int .i64 a, .int .i64 c]] w (MadeB w (chgErr s ws a c) s fun i => bit ws i && !inL [(a, c)] i) := by
  have HC := hid (fun W (h : Below w.heap.size w W) => change_any 57 _ _ merges_andNot s a c ws v W (hv.below h) ha hc)
  obtain ⟨A, ca, rfl⟩ := hv.form
  clear hv
  obtain ⟨er, her⟩ : ∃ er, chgErr s ws a c = er := ⟨_, rfl⟩
  rw [her] at HC ⊢
  clear her
  obtain ⟨w1, h1⟩ : ∃ w1, w.alloc (.cells #[.int .i64 s, .slice A ws.length ca] 24) = w1 := ⟨_, rfl⟩
  have z1 : w1.heap.size = w.heap.size + 1 := by rw [← h1]; simp
  obtain ⟨w2, h2⟩ : ∃ w2, w1.alloc (.cells #[.int .i64 a, .int .i64 c] 39) = w2 := ⟨_, rfl⟩
  have z2 : w2.heap.size = w.heap.size + 2 := by rw [← h2]; simp; omega
  obtain ⟨w4, h4⟩ : ∃ w4, w2.alloc (.cells #[.int .i64 0, .slice none 0 0] 24) = w4 := ⟨_, rfl⟩
  have z4 : w4.heap.size = w.heap.size + 3 := by rw [← h4]; simp; omega
  have rA : w4.heap[w.heap.size]? = some (.cells #[.int .i64 s, .slice A ws.length ca] 24 (0, 0)) := by
    rw [← h4]; refine (Below.heap_alloc _ _ _ (by omega)).trans ?_
    rw [← h2]; refine (Below.heap_alloc _ _ _ (by omega)).trans ?_
    rw [← h1]; exact heap_alloc_new w _
  have rB : w4.heap[w.heap.size + 1]? = some (.cells #[.int .i64 a, .int .i64 c] 39 (0, 0)) := by
    rw [← h4]; refine (Below.heap_alloc _ _ _ (by omega)).trans ?_
    rw [← h2, ← z1]; exact heap_alloc_new w1 _
  have rR : w4.heap[w.heap.size + 2]? = some (.cells #[.int .i64 0, .slice none 0 0] 24 (0, 0)) := by
    rw [← h4, ← z2]; exact heap_alloc_new w2 _
  have hB4 : Below w.heap.size w w4 := by
    rw [← h4, ← h2, ← h1]
    exact (((Below.refl _ w).alloc (Nat.le_refl _) _).alloc (by simp) _).alloc (by simp; omega) _
  have a0 := cell_of_row _ _ 0 _ _ _ rA
  have a1 := cell_of_row _ _ 1 _ _ _ rA
  have b0 := cell_of_row _ _ 0 _ _ _ rB
  have b1 := cell_of_row _ _ 1 _ _ _ rB
  have RA := hid rA
  have RB := hid rB
  have RR := hid rR
  have HB4 := hid hB4
  clear rA rB rR hB4
  go_enter Tryd.func26, Tryd.ntmps26
  go_wp2
  go_region_with (first | (go_at_call 46; refine (difference_any _).mono ?_; rintro e w5 ⟨rfl, hb5⟩; have hb45 : Below w4.heap.size w4 w5 := ⟨hb5.os, hb5.tape, hb5.output, hb5.size, hb5.block⟩; have a0 := (hb45.cell (p := ⟨w.heap.size, 0, none⟩) (show w.heap.size < w4.heap.size by omega)).trans a0; have a1 := (hb45.cell (p := ⟨w.heap.size, 1, none⟩) (show w.heap.size < w4.heap.size by omega)).trans a1; have b0 := (hb45.cell (p := ⟨w.heap.size + 1, 0, none⟩) (show w.heap.size + 1 < w4.heap.size by omega)).trans b0; have b1 := (hb45.cell (p := ⟨w.heap.size + 1, 1, none⟩) (show w.heap.size + 1 < w4.heap.size by omega)).trans b1) | (go_at_call 43; refine (HC.out _ (below_from HB4.out ⟨hb45.os, hb45.tape, hb45.output, hb45.size, hb45.block⟩)).mono ?_; rintro e w6 ⟨v, ws, rfl, hbm, hif, hb6⟩; have hb46 : Below w4.heap.size w4 w6 := hb45.trans (Below.mono ⟨hb6.os, hb6.tape, hb6.output, hb6.size, hb6.block⟩ hb45.size); obtain ⟨f0, f1, f2, f3, HR6⟩ := res_facts hb46 RR.out (by omega); have HBM := hid hbm; obtain ⟨A', c', rfl⟩ := hbm.form; have HB6 := hid hb46; have HIF := hid hif; obtain ⟨S, hS⟩ : ∃ S, (if er = 0 then s else 0) = S := ⟨_, rfl⟩; rw [hS] at HBM; rw [hS]; have HS := hid hS; clear hS hbm hif hb6 hb46))
  all_goals
    go_wp2
    refine bodyPost_ret (results_bm rfl _ _ _ _ _ _ _ rfl (box2_set HR6.out)) rfl ?_
    refine ⟨_, ws, rfl, ?_, HIF.out, box2_below (below_from HB4.out HB6.out) (by omega)⟩
    rw [HS.out]
    exact bm_box2 HBM.out HR6.out (fun z h => by cases h) (fun z h => by cases h)
end Go.Proofs.YtbifhcjkdfocaaaDoor
