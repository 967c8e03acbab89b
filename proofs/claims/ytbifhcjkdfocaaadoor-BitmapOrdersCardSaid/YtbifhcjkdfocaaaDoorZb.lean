/- The reference's Or, And, AndNot. -/
import Derived.Test.YtbifhcjkdfocaaaDoorZ
import Derived.Test.YtbifhcjkdfocaaaDoorP
import Derived.Test.YtbifhcjkdfocaaaDoorZa
namespace Go.Proofs.YtbifhcjkdfocaaaDoor
open Go.RowKit

theorem below_drew {B : Nat} {a w : World} (h : Below B a w) : Below B a w.drew := ⟨h.os, h.tape, h.output, h.size, h.block⟩
theorem comb_zero {sa sb : Int} {wa wb : List Nat} (h : combErr sa wa sb wb = 0) : chk sa wa = 0 ∧ chk sb wb = 0 ∧ sa = sb := by
  unfold combErr at h
  by_cases k : chk sa wa = 0 ∧ chk sb wb = 0
  · rw [if_pos k] at h
    by_cases e : sa = sb
    · exact ⟨k.1, k.2, e⟩
    · rw [if_neg e] at h; omega
  · rw [if_neg k] at h; omega

set_option maxHeartbeats 4000000 in
set_option maxRecDepth 100000 in
theorem refOr_any (sa sb : Int) (wa wb : List Nat) (va vb : Value) (w : World) (ha : Bm w va sa wa) (hb : Bm w vb sb wb) :
    Calls Tryd.prog 29 #[va, vb] w (MadeB w (combErr sa wa sb wb) sa fun i => bit wa i || bit wb i) := by
  have HBO := hid (fun w1 (h : Below w.heap.size w w1) => both_any sa sb wa wb va vb w1 (ha.below h) (hb.below h))
  have HCP := hid (fun w1 (h : Below w.heap.size w w1) (hl : wa.length ≤ 10000) => copy_any sa wa va w1 (ha.below h) hl)
  obtain ⟨hsa, hra, A, ca, rfl, hcapa, hcma, ba, offa, hAa, hca⟩ := ha
  obtain ⟨hsb, hrb, B, cb, rfl, hcapb, hcmb, bb, offb, hBb, hcb⟩ := hb
  have HRA := hid hra
  have HRB := hid hrb
  have HMA := hid hca
  have HMB := hid hcb
  clear hra hrb hca hcb
  obtain ⟨w1, h1⟩ : ∃ w1, w.alloc (.cells #[.int .i64 sa, .slice A wa.length ca] 24) = w1 := ⟨_, rfl⟩
  have z1 : w1.heap.size = w.heap.size + 1 := by rw [← h1]; simp
  obtain ⟨w2, h2⟩ : ∃ w2, w1.alloc (.cells #[.int .i64 sb, .slice B wb.length cb] 24) = w2 := ⟨_, rfl⟩
  have z2 : w2.heap.size = w.heap.size + 2 := by rw [← h2]; simp; omega
  obtain ⟨w4, h4⟩ : ∃ w4, w2.alloc (.cells #[.int .i64 0, .slice none 0 0] 24) = w4 := ⟨_, rfl⟩
  have z4 : w4.heap.size = w.heap.size + 3 := by rw [← h4]; simp; omega
  have rA : w4.heap[w.heap.size]? = some (.cells #[.int .i64 sa, .slice A wa.length ca] 24 (0, 0)) := by
    rw [← h4]; refine (Below.heap_alloc _ _ _ (by omega)).trans ?_
    rw [← h2]; refine (Below.heap_alloc _ _ _ (by omega)).trans ?_
    rw [← h1]; exact heap_alloc_new w _
  have rB : w4.heap[w.heap.size + 1]? = some (.cells #[.int .i64 sb, .slice B wb.length cb] 24 (0, 0)) := by
    rw [← h4]; refine (Below.heap_alloc _ _ _ (by omega)).trans ?_
    rw [← h2, ← z1]; exact heap_alloc_new w1 _
  have rR : w4.heap[w.heap.size + 2]? = some (.cells #[.int .i64 0, .slice none 0 0] 24 (0, 0)) := by
    rw [← h4, ← z2]; exact heap_alloc_new w2 _
  have hB4 : Below w.heap.size w w4 := by
    rw [← h4, ← h2, ← h1]
    exact (((Below.refl _ w).alloc (Nat.le_refl _) _).alloc (by simp) _).alloc (by simp; omega) _
  have a0 := cell_of_row _ _ 0 _ _ _ rA
  have a1 := cell_of_row _ _ 1 _ _ _ rA
  have b0 := cell_of_row _ _ 0 _ _ _ rB
  have b1 := cell_of_row _ _ 1 _ _ _ rB
  have RA := hid rA
  have RB := hid rB
  have RR := hid rR
  have HB4 := hid hB4
  clear rA rB rR hB4
  have hcc : combErr sa wa sb wb = 0 ∨ ¬ combErr sa wa sb wb = 0 := Decidable.em _
  obtain ⟨er, her⟩ : ∃ er, combErr sa wa sb wb = er := ⟨_, rfl⟩
  rw [her] at HBO hcc ⊢
  rcases hcc with rfl | hne
  · obtain ⟨ga, gb, hss⟩ := comb_zero her
    have gooda := chk_zero ga
    have goodb := chk_zero gb
    rw [← hss] at goodb
    clear hss
    have hla := gooda.len
    have hlb := goodb.len
    have hloa := gooda.low
    have hhia := gooda.high
    have GA := hid gooda
    have GB := hid goodb
    have hll1 : wb.length ≤ wa.length := by omega
    have hll2 : wa.length ≤ wb.length := by omega
    have hln : wa.length ≤ 64 := by omega
    have HLA := hid hla
    clear her ga gb gooda goodb hla hlb
    go_enter Tryd.func29, Tryd.ntmps29
    go_wp2_with fail
    refine (HBO.out _ HB4.out).mono ?_
    rintro e w5 ⟨rfl, hb5⟩
    obtain ⟨p0, p1, _, _, _⟩ := res_facts hb5 RA.out (by omega)
    have HB5 := hid hb5
    have hz5 := hb5.size
    clear a0 a1 b0 b1 hb5
    go_wp2_with fail
    refine (HCP.out _ (below_from HB4.out HB5.out) (by omega)).mono ?_
    rintro e w6 ⟨g, cp, rfl, hg5, hk6, hcp1, hcp2, hb6⟩
    have hz6 := hb6.size
    have HB6 := hid (HB5.out.trans (hb6.mono hz5))
    have HK6 := hid hk6
    have hgl := hk6.lt
    have HRA6 := hid ((HB6.out.block _ (by omega)).trans RA.out)
    have HRB6 := hid ((HB6.out.block _ (by omega)).trans RB.out)
    have HRR6 := hid ((HB6.out.block _ (by omega)).trans RR.out)
    clear hk6 hb6 p0 p1
    go_wp2_with fail
    obtain ⟨q, hq⟩ : ∃ q, w6.heap.size = q := ⟨_, rfl⟩
    obtain ⟨w7, h7⟩ : ∃ w7, w6.alloc (.cells #[.int .i64 sa, .slice (some ⟨g, 0, none⟩) wa.length cp] 24) = w7 := ⟨_, rfl⟩
    have hz7 : w7.heap.size = q + 1 := by rw [← h7]; simp; omega
    have hB67 : Below w6.heap.size w6 w7 := by rw [← h7]; exact (Below.refl _ w6).alloc (Nat.le_refl _) _
    have HQ7 : Hid (w7.heap[q]? = some (.cells #[.int .i64 sa, .slice (some ⟨g, 0, none⟩) wa.length cp] 24 (0, 0))) := hid (by rw [← h7, ← hq]; exact heap_alloc_new w6 _)
    have HK7 := hid (HK6.out.below hB67)
    have HB7 : Hid (Below w4.heap.size w4 w7) := hid (HB6.out.trans (hB67.mono HB6.out.size))
    rw [h7, hq]
    rw [hq] at hgl hz6
    clear HK6 HRA6 HRB6 HRR6 hB67 h7 hq
    go_loopw [8] (fun i wr => ∃ (k : Nat) (us : List Nat), k ≤ wa.length ∧ i = .int .i64 k ∧ us.length = wa.length ∧ Hid (∀ (j x y : Nat), j < k → wa[j]? = some x → wb[j]? = some y → us[j]? = some (x ||| y)) ∧ Hid (Wk wr g us) ∧ q < wr.heap.size ∧
      Hid (wr.heap[q]? = some (.cells #[.int .i64 sa, .slice (some ⟨g, 0, none⟩) wa.length cp] 24 (0, 0))) ∧ Hid (Below w4.heap.size w4 wr)) (fun i _ => wa.length - (intOf i).toNat)
    case atStart => exact ⟨0, wa, Nat.zero_le _, rfl, rfl, hid (fun j x y h _ _ => by omega), HK7, by omega, HQ7, HB7⟩
    case round =>
      clear HK7 HQ7 HB7 hz7
      obtain ⟨k, us, hk, rfl, hlu, HZ, HWK, hqs, HQ, HBW⟩ := hrel
      have q0 := cell_of_row _ _ 0 _ _ _ HQ.out
      have q1 := cell_of_row _ _ 1 _ _ _ HQ.out
      obtain ⟨p0, p1, _, _, _⟩ := res_facts HBW.out RA.out (by omega)
      obtain ⟨r0, r1, _, _, _⟩ := res_facts HBW.out RB.out (by omega)
      have hBs := HBW.out.size
      by_cases hlt : k < wa.length
      · obtain ⟨hA1, hba⟩ := hAa (by omega)
        obtain ⟨hB1, hbb⟩ := hBb (by omega)
        subst hA1
        subst hB1
        obtain ⟨x, hx⟩ : ∃ x, wa[k]? = some x := ⟨wa[k], List.getElem?_eq_getElem hlt⟩
        obtain ⟨y, hy⟩ : ∃ y, wb[k]? = some y := ⟨wb[k]'(by omega), List.getElem?_eq_getElem (by omega)⟩
        have hxl := HRA.out x (List.mem_of_getElem? hx)
        have hyl := HRB.out y (List.mem_of_getElem? hy)
        have hbw := below_from HB4.out HBW.out
        have cx := (hbw.cell (p := ⟨ba, offa + k, none⟩) hba).trans (HMA.out _ _ hx)
        have cy := (hbw.cell (p := ⟨bb, offb + k, none⟩) hbb).trans (HMB.out _ _ hy)
        have fz := HWK.out.frozen k
        obtain ⟨u, hu⟩ : ∃ u, us[k]? = some u := ⟨us[k]'(by omega), List.getElem?_eq_getElem (by omega)⟩
        have cu := HWK.out.cell hu
        have hor := u64_or_nat x y hxl hyl
        obtain ⟨gxy, hgxy⟩ : ∃ gxy, x ||| y = gxy := ⟨_, rfl⟩
        rw [hgxy] at hor
        have HSET := hid (HWK.out.set (i := k) (by omega) gxy)
        have HZ2 : Hid (∀ (j x y : Nat), j < k + 1 → wa[j]? = some x → wb[j]? = some y → (us.set k gxy)[j]? = some (x ||| y)) := hid (fun j x' y' hj h1 h2 => by
          by_cases e : j = k
          · subst e
            rw [hx] at h1
            rw [hy] at h2
            injection h1 with h1
            injection h2 with h2
            subst h1 h2
            rw [List.getElem?_set_self (by omega), hgxy]
          · rw [List.getElem?_set_ne (fun h => e h.symm)]
            exact HZ.out j x' y' (by omega) h1 h2)
        clear hx hy hbw hgxy hu HZ
        go_wp2
        go_region
        go_wp2
        go_roundw
        case rel => exact ⟨k + 1, us.set k gxy, by omega, by go_num, by rw [List.length_set]; exact hlu, HZ2, HSET, by simpa using hqs, hid ((Below.heap_setCell _ _ _ _ (show q ≠ g by omega)).trans HQ.out), hid (below_drew (HBW.out.setCell (p := ⟨g, k, none⟩) (show w4.heap.size ≤ g by omega) _))⟩
        case measure => simp [intOf]; omega
      · obtain rfl : k = wa.length := by omega
        obtain ⟨f0, f1, f2, f3, HR5⟩ := res_facts HBW.out RR.out (by omega)
        have HFIN := hid (mix_done merges_or HLA.out hloa hhia (by omega) GA.out GB.out HRA.out HRB.out hlu (fun j x y hj h1 h2 => HZ.out j x y hj h1 h2))
        clear p0 p1 r0 r1
        go_wp2
        refine bodyPost_ret (results_bm rfl _ _ _ _ _ _ _ rfl (box2_set HR5.out)) rfl ?_
        have hbm := fun W (h : Wk W g us) => h.bm HFIN.out.1 (s := sa) ⟨by omega, by omega⟩ (cap := cp) (by omega) hcp2
        simp only [hlu] at hbm
        exact made_ok rfl (hbm _ (HWK.out.box2 (by omega))) HFIN.out.2.1 (fun i _ => HFIN.out.2.2 i) (box2_below (below_from HB4.out HBW.out) (by omega))
  · have hd : (er != 0) = true := by simpa using hne
    clear her
    go_enter Tryd.func29, Tryd.ntmps29
    go_wp2_with fail
    refine (HBO.out _ HB4.out).mono ?_
    rintro e w5 ⟨rfl, hb5⟩
    obtain ⟨f0, f1, f2, f3, HR5⟩ := res_facts hb5 RR.out (by omega)
    have HB5 := hid (below_from HB4.out hb5)
    clear a0 a1 b0 b1 hb5
    go_wp2
    refine bodyPost_ret (results_bm rfl _ _ _ _ _ _ _ rfl (box2_set HR5.out)) rfl ?_
    exact made_err rfl hne (box2_below HB5.out (by omega))

set_option maxHeartbeats 4000000 in
set_option maxRecDepth 100000 in
theorem refAnd_any (sa sb : Int) (wa wb : List Nat) (va vb : Value) (w : World) (ha : Bm w va sa wa) (hb : Bm w vb sb wb) :
    Calls Tryd.prog 31 #[va, vb] w (MadeB w (combErr sa wa sb wb) sa fun i => bit wa i && bit wb i) := by
  have HBO := hid (fun w1 (h : Below w.heap.size w w1) => both_any sa sb wa wb va vb w1 (ha.below h) (hb.below h))
  have HCP := hid (fun w1 (h : Below w.heap.size w w1) (hl : wa.length ≤ 10000) => copy_any sa wa va w1 (ha.below h) hl)
  obtain ⟨hsa, hra, A, ca, rfl, hcapa, hcma, ba, offa, hAa, hca⟩ := ha
  obtain ⟨hsb, hrb, B, cb, rfl, hcapb, hcmb, bb, offb, hBb, hcb⟩ := hb
  have HRA := hid hra
  have HRB := hid hrb
  have HMA := hid hca
  have HMB := hid hcb
  clear hra hrb hca hcb
  obtain ⟨w1, h1⟩ : ∃ w1, w.alloc (.cells #[.int .i64 sa, .slice A wa.length ca] 24) = w1 := ⟨_, rfl⟩
  have z1 : w1.heap.size = w.heap.size + 1 := by rw [← h1]; simp
  obtain ⟨w2, h2⟩ : ∃ w2, w1.alloc (.cells #[.int .i64 sb, .slice B wb.length cb] 24) = w2 := ⟨_, rfl⟩
  have z2 : w2.heap.size = w.heap.size + 2 := by rw [← h2]; simp; omega
  obtain ⟨w4, h4⟩ : ∃ w4, w2.alloc (.cells #[.int .i64 0, .slice none 0 0] 24) = w4 := ⟨_, rfl⟩
  have z4 : w4.heap.size = w.heap.size + 3 := by rw [← h4]; simp; omega
  have rA : w4.heap[w.heap.size]? = some (.cells #[.int .i64 sa, .slice A wa.length ca] 24 (0, 0)) := by
    rw [← h4]; refine (Below.heap_alloc _ _ _ (by omega)).trans ?_
    rw [← h2]; refine (Below.heap_alloc _ _ _ (by omega)).trans ?_
    rw [← h1]; exact heap_alloc_new w _
  have rB : w4.heap[w.heap.size + 1]? = some (.cells #[.int .i64 sb, .slice B wb.length cb] 24 (0, 0)) := by
    rw [← h4]; refine (Below.heap_alloc _ _ _ (by omega)).trans ?_
    rw [← h2, ← z1]; exact heap_alloc_new w1 _
  have rR : w4.heap[w.heap.size + 2]? = some (.cells #[.int .i64 0, .slice none 0 0] 24 (0, 0)) := by
    rw [← h4, ← z2]; exact heap_alloc_new w2 _
  have hB4 : Below w.heap.size w w4 := by
    rw [← h4, ← h2, ← h1]
    exact (((Below.refl _ w).alloc (Nat.le_refl _) _).alloc (by simp) _).alloc (by simp; omega) _
  have a0 := cell_of_row _ _ 0 _ _ _ rA
  have a1 := cell_of_row _ _ 1 _ _ _ rA
  have b0 := cell_of_row _ _ 0 _ _ _ rB
  have b1 := cell_of_row _ _ 1 _ _ _ rB
  have RA := hid rA
  have RB := hid rB
  have RR := hid rR
  have HB4 := hid hB4
  clear rA rB rR hB4
  have hcc : combErr sa wa sb wb = 0 ∨ ¬ combErr sa wa sb wb = 0 := Decidable.em _
  obtain ⟨er, her⟩ : ∃ er, combErr sa wa sb wb = er := ⟨_, rfl⟩
  rw [her] at HBO hcc ⊢
  rcases hcc with rfl | hne
  · obtain ⟨ga, gb, hss⟩ := comb_zero her
    have gooda := chk_zero ga
    have goodb := chk_zero gb
    rw [← hss] at goodb
    clear hss
    have hla := gooda.len
    have hlb := goodb.len
    have hloa := gooda.low
    have hhia := gooda.high
    have GA := hid gooda
    have GB := hid goodb
    have hll1 : wb.length ≤ wa.length := by omega
    have hll2 : wa.length ≤ wb.length := by omega
    have hln : wa.length ≤ 64 := by omega
    have HLA := hid hla
    clear her ga gb gooda goodb hla hlb
    go_enter Tryd.func31, Tryd.ntmps31
    go_wp2_with fail
    refine (HBO.out _ HB4.out).mono ?_
    rintro e w5 ⟨rfl, hb5⟩
    obtain ⟨p0, p1, _, _, _⟩ := res_facts hb5 RA.out (by omega)
    have HB5 := hid hb5
    have hz5 := hb5.size
    clear a0 a1 b0 b1 hb5
    go_wp2_with fail
    refine (HCP.out _ (below_from HB4.out HB5.out) (by omega)).mono ?_
    rintro e w6 ⟨g, cp, rfl, hg5, hk6, hcp1, hcp2, hb6⟩
    have hz6 := hb6.size
    have HB6 := hid (HB5.out.trans (hb6.mono hz5))
    have HK6 := hid hk6
    have hgl := hk6.lt
    have HRA6 := hid ((HB6.out.block _ (by omega)).trans RA.out)
    have HRB6 := hid ((HB6.out.block _ (by omega)).trans RB.out)
    have HRR6 := hid ((HB6.out.block _ (by omega)).trans RR.out)
    clear hk6 hb6 p0 p1
    go_wp2_with fail
    obtain ⟨q, hq⟩ : ∃ q, w6.heap.size = q := ⟨_, rfl⟩
    obtain ⟨w7, h7⟩ : ∃ w7, w6.alloc (.cells #[.int .i64 sa, .slice (some ⟨g, 0, none⟩) wa.length cp] 24) = w7 := ⟨_, rfl⟩
    have hz7 : w7.heap.size = q + 1 := by rw [← h7]; simp; omega
    have hB67 : Below w6.heap.size w6 w7 := by rw [← h7]; exact (Below.refl _ w6).alloc (Nat.le_refl _) _
    have HQ7 : Hid (w7.heap[q]? = some (.cells #[.int .i64 sa, .slice (some ⟨g, 0, none⟩) wa.length cp] 24 (0, 0))) := hid (by rw [← h7, ← hq]; exact heap_alloc_new w6 _)
    have HK7 := hid (HK6.out.below hB67)
    have HB7 : Hid (Below w4.heap.size w4 w7) := hid (HB6.out.trans (hB67.mono HB6.out.size))
    rw [h7, hq]
    rw [hq] at hgl hz6
    clear HK6 HRA6 HRB6 HRR6 hB67 h7 hq
    go_loopw [8] (fun i wr => ∃ (k : Nat) (us : List Nat), k ≤ wa.length ∧ i = .int .i64 k ∧ us.length = wa.length ∧ Hid (∀ (j x y : Nat), j < k → wa[j]? = some x → wb[j]? = some y → us[j]? = some (x &&& y)) ∧ Hid (Wk wr g us) ∧ q < wr.heap.size ∧
      Hid (wr.heap[q]? = some (.cells #[.int .i64 sa, .slice (some ⟨g, 0, none⟩) wa.length cp] 24 (0, 0))) ∧ Hid (Below w4.heap.size w4 wr)) (fun i _ => wa.length - (intOf i).toNat)
    case atStart => exact ⟨0, wa, Nat.zero_le _, rfl, rfl, hid (fun j x y h _ _ => by omega), HK7, by omega, HQ7, HB7⟩
    case round =>
      clear HK7 HQ7 HB7 hz7
      obtain ⟨k, us, hk, rfl, hlu, HZ, HWK, hqs, HQ, HBW⟩ := hrel
      have q0 := cell_of_row _ _ 0 _ _ _ HQ.out
      have q1 := cell_of_row _ _ 1 _ _ _ HQ.out
      obtain ⟨p0, p1, _, _, _⟩ := res_facts HBW.out RA.out (by omega)
      obtain ⟨r0, r1, _, _, _⟩ := res_facts HBW.out RB.out (by omega)
      have hBs := HBW.out.size
      by_cases hlt : k < wa.length
      · obtain ⟨hA1, hba⟩ := hAa (by omega)
        obtain ⟨hB1, hbb⟩ := hBb (by omega)
        subst hA1
        subst hB1
        obtain ⟨x, hx⟩ : ∃ x, wa[k]? = some x := ⟨wa[k], List.getElem?_eq_getElem hlt⟩
        obtain ⟨y, hy⟩ : ∃ y, wb[k]? = some y := ⟨wb[k]'(by omega), List.getElem?_eq_getElem (by omega)⟩
        have hxl := HRA.out x (List.mem_of_getElem? hx)
        have hyl := HRB.out y (List.mem_of_getElem? hy)
        have hbw := below_from HB4.out HBW.out
        have cx := (hbw.cell (p := ⟨ba, offa + k, none⟩) hba).trans (HMA.out _ _ hx)
        have cy := (hbw.cell (p := ⟨bb, offb + k, none⟩) hbb).trans (HMB.out _ _ hy)
        have fz := HWK.out.frozen k
        obtain ⟨u, hu⟩ : ∃ u, us[k]? = some u := ⟨us[k]'(by omega), List.getElem?_eq_getElem (by omega)⟩
        have cu := HWK.out.cell hu
        have hor := u64_and_nat x y hxl hyl
        obtain ⟨gxy, hgxy⟩ : ∃ gxy, x &&& y = gxy := ⟨_, rfl⟩
        rw [hgxy] at hor
        have HSET := hid (HWK.out.set (i := k) (by omega) gxy)
        have HZ2 : Hid (∀ (j x y : Nat), j < k + 1 → wa[j]? = some x → wb[j]? = some y → (us.set k gxy)[j]? = some (x &&& y)) := hid (fun j x' y' hj h1 h2 => by
          by_cases e : j = k
          · subst e
            rw [hx] at h1
            rw [hy] at h2
            injection h1 with h1
            injection h2 with h2
            subst h1 h2
            rw [List.getElem?_set_self (by omega), hgxy]
          · rw [List.getElem?_set_ne (fun h => e h.symm)]
            exact HZ.out j x' y' (by omega) h1 h2)
        clear hx hy hbw hgxy hu HZ
        go_wp2
        go_region
        go_wp2
        go_roundw
        case rel => exact ⟨k + 1, us.set k gxy, by omega, by go_num, by rw [List.length_set]; exact hlu, HZ2, HSET, by simpa using hqs, hid ((Below.heap_setCell _ _ _ _ (show q ≠ g by omega)).trans HQ.out), hid (below_drew (HBW.out.setCell (p := ⟨g, k, none⟩) (show w4.heap.size ≤ g by omega) _))⟩
        case measure => simp [intOf]; omega
      · obtain rfl : k = wa.length := by omega
        obtain ⟨f0, f1, f2, f3, HR5⟩ := res_facts HBW.out RR.out (by omega)
        have HFIN := hid (mix_done merges_and HLA.out hloa hhia (by omega) GA.out GB.out HRA.out HRB.out hlu (fun j x y hj h1 h2 => HZ.out j x y hj h1 h2))
        clear p0 p1 r0 r1
        go_wp2
        refine bodyPost_ret (results_bm rfl _ _ _ _ _ _ _ rfl (box2_set HR5.out)) rfl ?_
        have hbm := fun W (h : Wk W g us) => h.bm HFIN.out.1 (s := sa) ⟨by omega, by omega⟩ (cap := cp) (by omega) hcp2
        simp only [hlu] at hbm
        exact made_ok rfl (hbm _ (HWK.out.box2 (by omega))) HFIN.out.2.1 (fun i _ => HFIN.out.2.2 i) (box2_below (below_from HB4.out HBW.out) (by omega))
  · have hd : (er != 0) = true := by simpa using hne
    clear her
    go_enter Tryd.func31, Tryd.ntmps31
    go_wp2_with fail
    refine (HBO.out _ HB4.out).mono ?_
    rintro e w5 ⟨rfl, hb5⟩
    obtain ⟨f0, f1, f2, f3, HR5⟩ := res_facts hb5 RR.out (by omega)
    have HB5 := hid (below_from HB4.out hb5)
    clear a0 a1 b0 b1 hb5
    go_wp2
    refine bodyPost_ret (results_bm rfl _ _ _ _ _ _ _ rfl (box2_set HR5.out)) rfl ?_
    exact made_err rfl hne (box2_below HB5.out (by omega))

set_option maxHeartbeats 4000000 in
set_option maxRecDepth 100000 in
theorem refAndNot_any (sa sb : Int) (wa wb : List Nat) (va vb : Value) (w : World) (ha : Bm w va sa wa) (hb : Bm w vb sb wb) :
    Calls Tryd.prog 33 #[va, vb] w (MadeB w (combErr sa wa sb wb) sa fun i => bit wa i && !bit wb i) := by
  have HBO := hid (fun w1 (h : Below w.heap.size w w1) => both_any sa sb wa wb va vb w1 (ha.below h) (hb.below h))
  have HCP := hid (fun w1 (h : Below w.heap.size w w1) (hl : wa.length ≤ 10000) => copy_any sa wa va w1 (ha.below h) hl)
  obtain ⟨hsa, hra, A, ca, rfl, hcapa, hcma, ba, offa, hAa, hca⟩ := ha
  obtain ⟨hsb, hrb, B, cb, rfl, hcapb, hcmb, bb, offb, hBb, hcb⟩ := hb
  have HRA := hid hra
  have HRB := hid hrb
  have HMA := hid hca
  have HMB := hid hcb
  clear hra hrb hca hcb
  obtain ⟨w1, h1⟩ : ∃ w1, w.alloc (.cells #[.int .i64 sa, .slice A wa.length ca] 24) = w1 := ⟨_, rfl⟩
  have z1 : w1.heap.size = w.heap.size + 1 := by rw [← h1]; simp
  obtain ⟨w2, h2⟩ : ∃ w2, w1.alloc (.cells #[.int .i64 sb, .slice B wb.length cb] 24) = w2 := ⟨_, rfl⟩
  have z2 : w2.heap.size = w.heap.size + 2 := by rw [← h2]; simp; omega
  obtain ⟨w4, h4⟩ : ∃ w4, w2.alloc (.cells #[.int .i64 0, .slice none 0 0] 24) = w4 := ⟨_, rfl⟩
  have z4 : w4.heap.size = w.heap.size + 3 := by rw [← h4]; simp; omega
  have rA : w4.heap[w.heap.size]? = some (.cells #[.int .i64 sa, .slice A wa.length ca] 24 (0, 0)) := by
    rw [← h4]; refine (Below.heap_alloc _ _ _ (by omega)).trans ?_
    rw [← h2]; refine (Below.heap_alloc _ _ _ (by omega)).trans ?_
    rw [← h1]; exact heap_alloc_new w _
  have rB : w4.heap[w.heap.size + 1]? = some (.cells #[.int .i64 sb, .slice B wb.length cb] 24 (0, 0)) := by
    rw [← h4]; refine (Below.heap_alloc _ _ _ (by omega)).trans ?_
    rw [← h2, ← z1]; exact heap_alloc_new w1 _
  have rR : w4.heap[w.heap.size + 2]? = some (.cells #[.int .i64 0, .slice none 0 0] 24 (0, 0)) := by
    rw [← h4, ← z2]; exact heap_alloc_new w2 _
  have hB4 : Below w.heap.size w w4 := by
    rw [← h4, ← h2, ← h1]
    exact (((Below.refl _ w).alloc (Nat.le_refl _) _).alloc (by simp) _).alloc (by simp; omega) _
  have a0 := cell_of_row _ _ 0 _ _ _ rA
  have a1 := cell_of_row _ _ 1 _ _ _ rA
  have b0 := cell_of_row _ _ 0 _ _ _ rB
  have b1 := cell_of_row _ _ 1 _ _ _ rB
  have RA := hid rA
  have RB := hid rB
  have RR := hid rR
  have HB4 := hid hB4
  clear rA rB rR hB4
  have hcc : combErr sa wa sb wb = 0 ∨ ¬ combErr sa wa sb wb = 0 := Decidable.em _
  obtain ⟨er, her⟩ : ∃ er, combErr sa wa sb wb = er := ⟨_, rfl⟩
  rw [her] at HBO hcc ⊢
  rcases hcc with rfl | hne
  · obtain ⟨ga, gb, hss⟩ := comb_zero her
    have gooda := chk_zero ga
    have goodb := chk_zero gb
    rw [← hss] at goodb
    clear hss
    have hla := gooda.len
    have hlb := goodb.len
    have hloa := gooda.low
    have hhia := gooda.high
    have GA := hid gooda
    have GB := hid goodb
    have hll1 : wb.length ≤ wa.length := by omega
    have hll2 : wa.length ≤ wb.length := by omega
    have hln : wa.length ≤ 64 := by omega
    have HLA := hid hla
    clear her ga gb gooda goodb hla hlb
    go_enter Tryd.func33, Tryd.ntmps33
    go_wp2_with fail
    refine (HBO.out _ HB4.out).mono ?_
    rintro e w5 ⟨rfl, hb5⟩
    obtain ⟨p0, p1, _, _, _⟩ := res_facts hb5 RA.out (by omega)
    have HB5 := hid hb5
    have hz5 := hb5.size
    clear a0 a1 b0 b1 hb5
    go_wp2_with fail
    refine (HCP.out _ (below_from HB4.out HB5.out) (by omega)).mono ?_
    rintro e w6 ⟨g, cp, rfl, hg5, hk6, hcp1, hcp2, hb6⟩
    have hz6 := hb6.size
    have HB6 := hid (HB5.out.trans (hb6.mono hz5))
    have HK6 := hid hk6
    have hgl := hk6.lt
    have HRA6 := hid ((HB6.out.block _ (by omega)).trans RA.out)
    have HRB6 := hid ((HB6.out.block _ (by omega)).trans RB.out)
    have HRR6 := hid ((HB6.out.block _ (by omega)).trans RR.out)
    clear hk6 hb6 p0 p1
    go_wp2_with fail
    obtain ⟨q, hq⟩ : ∃ q, w6.heap.size = q := ⟨_, rfl⟩
    obtain ⟨w7, h7⟩ : ∃ w7, w6.alloc (.cells #[.int .i64 sa, .slice (some ⟨g, 0, none⟩) wa.length cp] 24) = w7 := ⟨_, rfl⟩
    have hz7 : w7.heap.size = q + 1 := by rw [← h7]; simp; omega
    have hB67 : Below w6.heap.size w6 w7 := by rw [← h7]; exact (Below.refl _ w6).alloc (Nat.le_refl _) _
    have HQ7 : Hid (w7.heap[q]? = some (.cells #[.int .i64 sa, .slice (some ⟨g, 0, none⟩) wa.length cp] 24 (0, 0))) := hid (by rw [← h7, ← hq]; exact heap_alloc_new w6 _)
    have HK7 := hid (HK6.out.below hB67)
    have HB7 : Hid (Below w4.heap.size w4 w7) := hid (HB6.out.trans (hB67.mono HB6.out.size))
    rw [h7, hq]
    rw [hq] at hgl hz6
    clear HK6 HRA6 HRB6 HRR6 hB67 h7 hq
    go_loopw [8] (fun i wr => ∃ (k : Nat) (us : List Nat), k ≤ wa.length ∧ i = .int .i64 k ∧ us.length = wa.length ∧ Hid (∀ (j x y : Nat), j < k → wa[j]? = some x → wb[j]? = some y → us[j]? = some (x &&& (18446744073709551615 - y))) ∧ Hid (Wk wr g us) ∧ q < wr.heap.size ∧
      Hid (wr.heap[q]? = some (.cells #[.int .i64 sa, .slice (some ⟨g, 0, none⟩) wa.length cp] 24 (0, 0))) ∧ Hid (Below w4.heap.size w4 wr)) (fun i _ => wa.length - (intOf i).toNat)
    case atStart => exact ⟨0, wa, Nat.zero_le _, rfl, rfl, hid (fun j x y h _ _ => by omega), HK7, by omega, HQ7, HB7⟩
    case round =>
      clear HK7 HQ7 HB7 hz7
      obtain ⟨k, us, hk, rfl, hlu, HZ, HWK, hqs, HQ, HBW⟩ := hrel
      have q0 := cell_of_row _ _ 0 _ _ _ HQ.out
      have q1 := cell_of_row _ _ 1 _ _ _ HQ.out
      obtain ⟨p0, p1, _, _, _⟩ := res_facts HBW.out RA.out (by omega)
      obtain ⟨r0, r1, _, _, _⟩ := res_facts HBW.out RB.out (by omega)
      have hBs := HBW.out.size
      by_cases hlt : k < wa.length
      · obtain ⟨hA1, hba⟩ := hAa (by omega)
        obtain ⟨hB1, hbb⟩ := hBb (by omega)
        subst hA1
        subst hB1
        obtain ⟨x, hx⟩ : ∃ x, wa[k]? = some x := ⟨wa[k], List.getElem?_eq_getElem hlt⟩
        obtain ⟨y, hy⟩ : ∃ y, wb[k]? = some y := ⟨wb[k]'(by omega), List.getElem?_eq_getElem (by omega)⟩
        have hxl := HRA.out x (List.mem_of_getElem? hx)
        have hyl := HRB.out y (List.mem_of_getElem? hy)
        have hbw := below_from HB4.out HBW.out
        have cx := (hbw.cell (p := ⟨ba, offa + k, none⟩) hba).trans (HMA.out _ _ hx)
        have cy := (hbw.cell (p := ⟨bb, offb + k, none⟩) hbb).trans (HMB.out _ _ hy)
        have fz := HWK.out.frozen k
        obtain ⟨u, hu⟩ : ∃ u, us[k]? = some u := ⟨us[k]'(by omega), List.getElem?_eq_getElem (by omega)⟩
        have cu := HWK.out.cell hu
        have hor := u64_andNot_nat x y hxl hyl
        obtain ⟨gxy, hgxy⟩ : ∃ gxy, x &&& (18446744073709551615 - y) = gxy := ⟨_, rfl⟩
        rw [hgxy] at hor
        have HSET := hid (HWK.out.set (i := k) (by omega) gxy)
        have HZ2 : Hid (∀ (j x y : Nat), j < k + 1 → wa[j]? = some x → wb[j]? = some y → (us.set k gxy)[j]? = some (x &&& (18446744073709551615 - y))) := hid (fun j x' y' hj h1 h2 => by
          by_cases e : j = k
          · subst e
            rw [hx] at h1
            rw [hy] at h2
            injection h1 with h1
            injection h2 with h2
            subst h1 h2
            rw [List.getElem?_set_self (by omega), hgxy]
          · rw [List.getElem?_set_ne (fun h => e h.symm)]
            exact HZ.out j x' y' (by omega) h1 h2)
        clear hx hy hbw hgxy hu HZ
        go_wp2
        go_region
        go_wp2
        go_roundw
        case rel => exact ⟨k + 1, us.set k gxy, by omega, by go_num, by rw [List.length_set]; exact hlu, HZ2, HSET, by simpa using hqs, hid ((Below.heap_setCell _ _ _ _ (show q ≠ g by omega)).trans HQ.out), hid (below_drew (HBW.out.setCell (p := ⟨g, k, none⟩) (show w4.heap.size ≤ g by omega) _))⟩
        case measure => simp [intOf]; omega
      · obtain rfl : k = wa.length := by omega
        obtain ⟨f0, f1, f2, f3, HR5⟩ := res_facts HBW.out RR.out (by omega)
        have HFIN := hid (mix_done merges_andNot HLA.out hloa hhia (by omega) GA.out GB.out HRA.out HRB.out hlu (fun j x y hj h1 h2 => HZ.out j x y hj h1 h2))
        clear p0 p1 r0 r1
        go_wp2
        refine bodyPost_ret (results_bm rfl _ _ _ _ _ _ _ rfl (box2_set HR5.out)) rfl ?_
        have hbm := fun W (h : Wk W g us) => h.bm HFIN.out.1 (s := sa) ⟨by omega, by omega⟩ (cap := cp) (by omega) hcp2
        simp only [hlu] at hbm
        exact made_ok rfl (hbm _ (HWK.out.box2 (by omega))) HFIN.out.2.1 (fun i _ => HFIN.out.2.2 i) (box2_below (below_from HB4.out HBW.out) (by omega))
  · have hd : (er != 0) = true := by simpa using hne
    clear her
    go_enter Tryd.func33, Tryd.ntmps33
    go_wp2_with fail
    refine (HBO.out _ HB4.out).mono ?_
    rintro e w5 ⟨rfl, hb5⟩
    obtain ⟨f0, f1, f2, f3, HR5⟩ := res_facts hb5 RR.out (by omega)
    have HB5 := hid (below_from HB4.out hb5)
    clear a0 a1 b0 b1 hb5
    go_wp2
    refine bodyPost_ret (results_bm rfl _ _ _ _ _ _ _ rfl (box2_set HR5.out)) rfl ?_
    exact made_err rfl hne (box2_below HB5.out (by omega))
end Go.Proofs.YtbifhcjkdfocaaaDoor
