/- combine. -/
import Derived.Test.YtbifhcjkdfocaaaDoorE
import Derived.RegionTactic
import Derived.Deep.QuietTactic
import Derived.BigQuiet
import Derived.StillTailTactics
import Derived.Shelf.Abstract
namespace Go.Proofs.YtbifhcjkdfocaaaDoor
open Go.RowKit

/-- The function fb merges words bit by bit. -/
structure Merges (fb : Nat) (op : Bool → Bool → Bool) (g : Nat → Nat → Nat) : Prop where
  zero : op false false = false
  bits : ∀ x y j, x < 18446744073709551616 → y < 18446744073709551616 → (g x y).testBit j = op (x.testBit j) (y.testBit j)
  small : ∀ x y, x < 18446744073709551616 → y < 18446744073709551616 → g x y < 18446744073709551616
  call : ∀ (x y : Nat) (w : World), x < 18446744073709551616 → y < 18446744073709551616 → Calls Tryd.prog fb #[.int .u64 x, .int .u64 y] w fun e w' => e = .returned (.int .u64 (g x y)) ∧ w' = w
  enters : ∀ args w, (callFunc fb args).run Tryd.prog w = .ok (.enter fb args) w

theorem mix_done {fb : Nat} {op : Bool → Bool → Bool} {g : Nat → Nat → Nat} (hM : Merges fb op g) {sa : Int} {wa wb ws : List Nat} (hla : (wa.length : Int) = (sa + 63) / 64) (h0 : 0 ≤ sa) (h1 : sa ≤ 4096) (hl : wb.length = wa.length)
    (ga : Good sa wa) (gb : Good sa wb) (hwa : Wide wa) (hwb : Wide wb) (hlw : ws.length = wa.length) (hz : ∀ (j x y : Nat), j < wa.length → wa[j]? = some x → wb[j]? = some y → ws[j]? = some (g x y)) :
    Wide ws ∧ Good sa ws ∧ ∀ i, bit ws i = op (bit wa i) (bit wb i) := by
  have hat : ∀ j, j < wa.length → ∃ x y, wa[j]? = some x ∧ wb[j]? = some y ∧ x < 18446744073709551616 ∧ y < 18446744073709551616 ∧ ws[j]? = some (g x y) := fun j hj => by
    have e1 : wa[j]? = some wa[j] := List.getElem?_eq_getElem hj
    have e2 : wb[j]? = some (wb[j]'(by omega)) := List.getElem?_eq_getElem (by omega)
    exact ⟨_, _, e1, e2, hwa _ (List.mem_of_getElem? e1), hwb _ (List.mem_of_getElem? e2), hz j _ _ hj e1 e2⟩
  have hbit : ∀ i, bit ws i = op (bit wa i) (bit wb i) := fun i => by
    by_cases hi : i / 64 < wa.length
    · obtain ⟨x, y, e1, e2, hx, hy, e3⟩ := hat _ hi
      unfold bit
      simp only [List.getD, e1, e2, e3, Option.getD_some]
      exact hM.bits x y _ hx hy
    · rw [bit_out (by omega), bit_out (by omega), bit_out (by omega), hM.zero]
  refine ⟨fun u hu => ?_, ⟨h0, h1, by rw [hlw]; exact hla, fun i hi => ?_⟩, hbit⟩
  · obtain ⟨j, hj⟩ := List.mem_iff_getElem?.1 hu
    have hjl := (List.getElem?_eq_some_iff.1 hj).1
    obtain ⟨x, y, _, _, hx, hy, e3⟩ := hat j (by omega)
    rw [e3] at hj
    injection hj with hj
    rw [← hj]
    exact hM.small x y hx hy
  · rw [hbit, ga.clean i hi, gb.clean i hi, hM.zero]

noncomputable def combErr (sa : Int) (wa : List Nat) (sb : Int) (wb : List Nat) : Int := if chk sa wa = 0 ∧ chk sb wb = 0 then (if sa = sb then 0 else 22) else 3

theorem res_facts {w4 w5 : World} {g : Nat} {x y : Value} {t : TypeId} (hB : Below w4.heap.size w4 w5) (hR : w4.heap[g]? = some (.cells #[x, y] t (0, 0))) (hg : g < w4.heap.size) :
    w5.cell? ⟨g, 0, none⟩ = some x ∧ w5.cell? ⟨g, 1, none⟩ = some y ∧ w5.frozen? ⟨g, 0, none⟩ = false ∧ w5.frozen? ⟨g, 1, none⟩ = false ∧ Hid (w5.heap[g]? = some (.cells #[x, y] t (0, 0))) := by
  have h := (hB.block g hg).trans hR
  exact ⟨cell_of_row _ _ 0 _ _ _ h, cell_of_row _ _ 1 _ _ _ h, by unfold World.frozen?; rw [h]; simp, by unfold World.frozen?; rw [h]; simp, hid h⟩
theorem below_from {w w4 w5 : World} (h : Below w.heap.size w w4) (k : Below w4.heap.size w4 w5) : Below w.heap.size w w5 := below_both h k
theorem index74_0 (a b c d : Value) (W : World) : (Instr.index 74 (.agg #[a, b, c, d]) (.int .i64 0)).run Tryd.prog W = .ok (.agg #[a, b]) W := by kernel_rfl
theorem index74_1 (a b c d : Value) (W : World) : (Instr.index 74 (.agg #[a, b, c, d]) (.int .i64 1)).run Tryd.prog W = .ok (.agg #[c, d]) W := by kernel_rfl

set_option maxHeartbeats 4000000 in
set_option maxRecDepth 100000 in
theorem combine_any (fb : Nat) (op : Bool → Bool → Bool) (g : Nat → Nat → Nat) (hM : Merges fb op g) (sa sb : Int) (wa wb : List Nat) (va vb : Value) (w : World) (ha : Bm w va sa wa) (hb : Bm w vb sb wb) :
    Calls Tryd.prog 47 #[va, vb, .agg #[.func (.func fb) #[] #[]]] w (MadeB w (combErr sa wa sb wb) sa fun i => op (bit wa i) (bit wb i)) := by
  have HCA := hid (fun w1 (h : Below w.heap.size w w1) => check_any sa wa va w1 (ha.below h))
  have HCB := hid (fun w1 (h : Below w.heap.size w w1) => check_any sb wb vb w1 (hb.below h))
  obtain ⟨hsa, hra, A, ca, rfl, hcapa, hcma, ba, offa, hAa, hca⟩ := ha
  obtain ⟨hsb, hrb, B, cb, rfl, hcapb, hcmb, bb, offb, hBb, hcb⟩ := hb
  have HRA := hid hra
  have HRB := hid hrb
  have HMA := hid hca
  have HMB := hid hcb
  have HM := hid hM
  clear hra hrb hca hcb hM
  obtain ⟨w1, h1⟩ : ∃ w1, w.alloc (.cells #[.int .i64 sa, .slice A wa.length ca] 24) = w1 := ⟨_, rfl⟩
  have z1 : w1.heap.size = w.heap.size + 1 := by rw [← h1]; simp
  obtain ⟨w2, h2⟩ : ∃ w2, w1.alloc (.cells #[.int .i64 sb, .slice B wb.length cb] 24) = w2 := ⟨_, rfl⟩
  have z2 : w2.heap.size = w.heap.size + 2 := by rw [← h2]; simp; omega
  obtain ⟨w3, h3⟩ : ∃ w3, w2.alloc (.cells #[.func (.func fb) #[] #[]] 64) = w3 := ⟨_, rfl⟩
  have z3 : w3.heap.size = w.heap.size + 3 := by rw [← h3]; simp; omega
  obtain ⟨w4, h4⟩ : ∃ w4, w3.alloc (.cells #[.int .i64 0, .slice none 0 0] 24) = w4 := ⟨_, rfl⟩
  have z4 : w4.heap.size = w.heap.size + 4 := by rw [← h4]; simp; omega
  have rA : w4.heap[w.heap.size]? = some (.cells #[.int .i64 sa, .slice A wa.length ca] 24 (0, 0)) := by
    rw [← h4]; refine (Below.heap_alloc _ _ _ (by omega)).trans ?_
    rw [← h3]; refine (Below.heap_alloc _ _ _ (by omega)).trans ?_
    rw [← h2]; refine (Below.heap_alloc _ _ _ (by omega)).trans ?_
    rw [← h1]; exact heap_alloc_new w _
  have rB : w4.heap[w.heap.size + 1]? = some (.cells #[.int .i64 sb, .slice B wb.length cb] 24 (0, 0)) := by
    rw [← h4]; refine (Below.heap_alloc _ _ _ (by omega)).trans ?_
    rw [← h3]; refine (Below.heap_alloc _ _ _ (by omega)).trans ?_
    rw [← h2, ← z1]; exact heap_alloc_new w1 _
  have rM : w4.heap[w.heap.size + 2]? = some (.cells #[.func (.func fb) #[] #[]] 64 (0, 0)) := by
    rw [← h4]; refine (Below.heap_alloc _ _ _ (by omega)).trans ?_
    rw [← h3, ← z2]; exact heap_alloc_new w2 _
  have rR : w4.heap[w.heap.size + 3]? = some (.cells #[.int .i64 0, .slice none 0 0] 24 (0, 0)) := by
    rw [← h4, ← z3]; exact heap_alloc_new w3 _
  have hB4 : Below w.heap.size w w4 := by
    rw [← h4, ← h3, ← h2, ← h1]
    exact ((((Below.refl _ w).alloc (Nat.le_refl _) _).alloc (by simp) _).alloc (by simp; omega) _).alloc (by simp; omega) _
  have a0 := cell_of_row _ _ 0 _ _ _ rA
  have a1 := cell_of_row _ _ 1 _ _ _ rA
  have b0 := cell_of_row _ _ 0 _ _ _ rB
  have b1 := cell_of_row _ _ 1 _ _ _ rB
  have RA := hid rA
  have RB := hid rB
  have RM := hid rM
  have RR := hid rR
  have HB4 := hid hB4
  clear rA rB rM rR hB4
  have ix0 := fun W => index74_0 (.int .i64 sa) (.slice A wa.length ca) (.int .i64 sb) (.slice B wb.length cb) W
  have ix1 := fun W => index74_1 (.int .i64 sa) (.slice A wa.length ca) (.int .i64 sb) (.slice B wb.length cb) W
  by_cases ga : chk sa wa = 0
  · by_cases gb : chk sb wb = 0
    · have gooda := chk_zero ga
      have goodb := chk_zero gb
      have hla := gooda.len
      have hlb := goodb.len
      have hloa := gooda.low
      have hhia := gooda.high
      have GA := hid gooda
      have GB := hid goodb
      rw [ga] at HCA
      rw [gb] at HCB
      have hce := hid (show combErr sa wa sb wb = if sa = sb then 0 else 22 by unfold combErr; rw [if_pos ⟨ga, gb⟩])
      clear ga gb gooda goodb
      go_enter Tryd.func47, Tryd.ntmps47
      go_wp2
      go_loopw [7, 16] (fun r i wr => ∃ k : Nat, k ≤ 2 ∧ i = .int .i64 k ∧ r = .int .i64 0 ∧ Hid (Below w4.heap.size w4 wr)) (fun _ i _ => 2 - (intOf i).toNat)
      case atStart => exact ⟨0, by omega, rfl, rfl, hid (Below.refl _ _)⟩
      case round =>
        obtain ⟨k, hk, rfl, rfl, hB⟩ := hrel
        have hBs := hB.out.size
        rcases (show k = 0 ∨ k = 1 ∨ k = 2 from by omega) with rfl | rfl | rfl
        · go_wp2_with (go_at_call 16; refine (HCA.out _ (HB4.out.trans ((hB.out.alloc hBs _).mono (by omega)))).mono ?_; rintro e w5 ⟨rfl, hb5⟩)
          go_roundw
          case rel => exact ⟨1, by omega, by go_num, rfl, hid (hB.out.trans (below_more hb5 hBs))⟩
          case measure => simp [intOf]
        · go_wp2_with (go_at_call 16; refine (HCB.out _ (HB4.out.trans ((hB.out.alloc hBs _).mono (by omega)))).mono ?_; rintro e w5 ⟨rfl, hb5⟩)
          go_roundw
          case rel => exact ⟨2, by omega, by go_num, rfl, hid (hB.out.trans (below_more hb5 hBs))⟩
          case measure => simp [intOf]
        · obtain ⟨p0, p1, _, _, _⟩ := res_facts hB.out RA.out (by omega)
          obtain ⟨q0, q1, _, _, _⟩ := res_facts hB.out RB.out (by omega)
          obtain ⟨f0, f1, f2, f3, HR5⟩ := res_facts hB.out RR.out (by omega)
          clear a0 a1 b0 b1
          by_cases hss : sa = sb
          · subst hss
            have hll : wb.length = wa.length := by omega
            have hln : wa.length ≤ 64 := by omega
            have HLA := hid hla
            clear hla hlb
            have hmk := make22 wr wa.length (by omega)
            have hwk := wk_made wr wa.length
            have hB5 : Below w4.heap.size w4 (wr.alloc (.cells (madeCells #[.int .u64 0] wa.length) 55)) := hB.out.alloc hBs _
            obtain ⟨w5, h5⟩ : ∃ w5, wr.alloc (.cells (madeCells #[.int .u64 0] wa.length) 55) = w5 := ⟨_, rfl⟩
            obtain ⟨gw, hgw⟩ : ∃ gw, wr.heap.size = gw := ⟨_, rfl⟩
            rw [h5] at hmk hwk hB5
            rw [hgw] at hmk hwk hBs
            have HK := hid hwk
            have HB5 := hid hB5
            clear h5 hwk hB5
            go_wp2
            go_loopw [38] (fun i wi => ∃ (k : Nat) (ws : List Nat), k ≤ wa.length ∧ i = .int .i64 k ∧ ws.length = wa.length ∧ Hid (∀ (j x y : Nat), j < k → wa[j]? = some x → wb[j]? = some y → ws[j]? = some (g x y)) ∧ Hid (Wk wi gw ws) ∧ Hid (Below w4.heap.size w4 wi)) (fun i _ => wa.length - (intOf i).toNat)
            case atStart => exact ⟨0, _, Nat.zero_le _, rfl, List.length_replicate, hid (fun j x y h _ _ => by omega), HK, HB5⟩
            case round =>
              clear HK HB5 p0 p1 q0 q1 f0 f1 f2 f3 HR5 hmk
              obtain ⟨k, ws, hk, rfl, hlw, HZ, HWK, HBW⟩ := hrel
              obtain ⟨p0, p1, _, _, _⟩ := res_facts HBW.out RA.out (by omega)
              obtain ⟨q0, q1, _, _, _⟩ := res_facts HBW.out RB.out (by omega)
              have m0 := cell_of_row _ _ 0 _ _ _ ((HBW.out.block _ (by omega)).trans RM.out)
              by_cases hlt : k < wa.length
              · obtain ⟨hA1, hba⟩ := hAa (by omega)
                obtain ⟨hB1, hbb⟩ := hBb (by omega)
                subst hA1
                subst hB1
                obtain ⟨x, hx⟩ : ∃ x, wa[k]? = some x := ⟨wa[k], List.getElem?_eq_getElem hlt⟩
                obtain ⟨y, hy⟩ : ∃ y, wb[k]? = some y := ⟨wb[k]'(by omega), List.getElem?_eq_getElem (by omega)⟩
                have hxl := HRA.out x (List.mem_of_getElem? hx)
                have hyl := HRB.out y (List.mem_of_getElem? hy)
                have hbw := below_from HB4.out HBW.out
                have cx := (hbw.cell (p := ⟨ba, offa + k, none⟩) hba).trans (HMA.out _ _ hx)
                have cy := (hbw.cell (p := ⟨bb, offb + k, none⟩) hbb).trans (HMB.out _ _ hy)
                have fz := HWK.out.frozen k
                obtain ⟨u, hu⟩ : ∃ u, ws[k]? = some u := ⟨ws[k]'(by omega), List.getElem?_eq_getElem (by omega)⟩
                have cu := HWK.out.cell hu
                obtain ⟨gxy, hgxy⟩ : ∃ gxy, g x y = gxy := ⟨_, rfl⟩
                have hcall := fun W => HM.out.call x y W hxl hyl
                have efb := HM.out.enters
                rw [hgxy] at hcall
                have HCALL := hid hcall
                have hset := HWK.out.set (i := k) (by omega) gxy
                have HSET := hid hset
                have HZ2 : Hid (∀ (j x y : Nat), j < k + 1 → wa[j]? = some x → wb[j]? = some y → (ws.set k gxy)[j]? = some (g x y)) := hid (fun j x' y' hj h1 h2 => by
                  by_cases e : j = k
                  · subst e
                    rw [hx] at h1
                    rw [hy] at h2
                    injection h1 with h1
                    injection h2 with h2
                    subst h1 h2
                    rw [List.getElem?_set_self (by omega), hgxy]
                  · rw [List.getElem?_set_ne (fun h => e h.symm)]
                    exact HZ.out j x' y' (by omega) h1 h2)
                clear hx hy hbw hcall hset hgxy
                go_wp2
                go_still_tail 16, (by kernel_rfl)
                still_call (HCALL.out _)
                repeat still_step
                refine wpStill_nil ?_
                change wpList _ _ _ _ _ wr.drew
                have HWK7 : Hid (Wk wr.drew gw ws) := hid HWK.out
                have HBW7 : Hid (Below w4.heap.size w4 wr.drew) := hid ⟨HBW.out.os, HBW.out.tape, HBW.out.output, HBW.out.size, HBW.out.block⟩
                clear HWK HBW p0 p1 q0 q1 m0 cx cy fz cu HSET HCALL
                generalize wr.drew = w7 at HWK7 HBW7 ⊢
                have fz := HWK7.out.frozen k
                have cu := HWK7.out.cell hu
                have HSET := hid (HWK7.out.set (i := k) (by omega) gxy)
                clear hu
                go_wp2
                go_roundw
                case rel => exact ⟨k + 1, ws.set k gxy, by omega, by go_num, by rw [List.length_set]; exact hlw, HZ2, HSET, hid (HBW7.out.setCell (p := ⟨gw, k, none⟩) hBs _)⟩
                case measure => simp [intOf]; omega
              · obtain rfl : k = wa.length := by omega
                obtain ⟨f0, f1, f2, f3, HR5⟩ := res_facts HBW.out RR.out (by omega)
                have hfin := mix_done HM.out HLA.out hloa hhia (by omega) GA.out GB.out HRA.out HRB.out hlw HZ.out
                have HFIN := hid hfin
                have hgw3 : gw ≠ w.heap.size + 3 := by omega
                clear hfin
                go_wp2
                refine bodyPost_ret (results_bm rfl _ _ _ _ _ _ _ rfl (box2_set HR5.out)) rfl ?_
                have hbm := fun W (h : Wk W gw ws) => h.bm HFIN.out.1 (s := sa) ⟨by omega, by omega⟩ (cap := wa.length) (by omega) (by unfold maxLen; omega)
                simp only [hlw] at hbm
                exact made_ok (by rw [hce.out]; simp) (hbm _ (HWK.out.box2 hgw3)) HFIN.out.2.1 (fun i _ => HFIN.out.2.2 i) (box2_below (below_from HB4.out HBW.out) (by omega))
          · have he : combErr sa wa sb wb = 22 := by rw [hce.out, if_neg hss]
            have he' := hid he
            clear he
            go_wp2
            refine bodyPost_ret (results_bm rfl _ _ _ _ _ _ _ rfl (box2_set HR5.out)) rfl ?_
            exact made_err he'.out.symm (by omega) (box2_below (below_from HB4.out hB.out) (by omega))
    · have e3 : chk sb wb = 3 := by rcases chk_cases sb wb with h | h <;> omega
      have he := hid (show combErr sa wa sb wb = 3 by unfold combErr; rw [if_neg (fun h => gb h.2)])
      rw [ga] at HCA
      rw [e3] at HCB
      go_enter Tryd.func47, Tryd.ntmps47
      go_wp2
      go_loopw [7, 16] (fun r i wr => ∃ k : Nat, k ≤ 1 ∧ i = .int .i64 k ∧ r = .int .i64 0 ∧ Hid (Below w4.heap.size w4 wr)) (fun _ i _ => 2 - (intOf i).toNat)
      case atStart => exact ⟨0, by omega, rfl, rfl, hid (Below.refl _ _)⟩
      case round =>
        obtain ⟨k, hk, rfl, rfl, hB⟩ := hrel
        have hBs := hB.out.size
        rcases (show k = 0 ∨ k = 1 from by omega) with rfl | rfl
        · go_wp2_with (go_at_call 16; refine (HCA.out _ (HB4.out.trans ((hB.out.alloc hBs _).mono (by omega)))).mono ?_; rintro e w5 ⟨rfl, hb5⟩)
          go_roundw
          case rel => exact ⟨1, by omega, by go_num, rfl, hid (hB.out.trans (below_more hb5 hBs))⟩
          case measure => simp [intOf]
        · go_wp2_with (go_at_call 16; refine (HCB.out _ (HB4.out.trans ((hB.out.alloc hBs _).mono (by omega)))).mono ?_; rintro e w5 ⟨rfl, hb5⟩; have HB5 := hid (hB.out.trans (below_more hb5 hBs)); obtain ⟨f0, f1, f2, f3, HR5⟩ := res_facts HB5.out RR.out (by omega))
          refine bodyPost_ret (results_bm rfl _ _ _ _ _ _ _ rfl (box2_set HR5.out)) rfl ?_
          exact made_err he.out.symm (by omega) (box2_below (below_from HB4.out HB5.out) (by omega))
  · have e3 : chk sa wa = 3 := by rcases chk_cases sa wa with h | h <;> omega
    have he := hid (show combErr sa wa sb wb = 3 by unfold combErr; rw [if_neg (fun h => ga h.1)])
    rw [e3] at HCA
    go_enter Tryd.func47, Tryd.ntmps47
    go_wp2
    go_loopw [7, 16] (fun r i wr => i = .int .i64 0 ∧ r = .int .i64 0 ∧ Hid (Below w4.heap.size w4 wr)) (fun _ i _ => 2 - (intOf i).toNat)
    case atStart => exact ⟨rfl, rfl, hid (Below.refl _ _)⟩
    case round =>
      obtain ⟨rfl, rfl, hB⟩ := hrel
      have hBs := hB.out.size
      go_wp2_with (go_at_call 16; refine (HCA.out _ (HB4.out.trans ((hB.out.alloc hBs _).mono (by omega)))).mono ?_; rintro e w5 ⟨rfl, hb5⟩; have HB5 := hid (hB.out.trans (below_more hb5 hBs)); obtain ⟨f0, f1, f2, f3, HR5⟩ := res_facts HB5.out RR.out (by omega))
      refine bodyPost_ret (results_bm rfl _ _ _ _ _ _ _ rfl (box2_set HR5.out)) rfl ?_
      exact made_err he.out.symm (by omega) (box2_below (below_from HB4.out HB5.out) (by omega))
end Go.Proofs.YtbifhcjkdfocaaaDoor
