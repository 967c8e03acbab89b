/- The law BitmapExtents is walked. -/
import Derived.Test.YtbifhcjkdfocaaaDoorQb
namespace Go.Proofs.YtbifhcjkdfocaaaDoor
open Go.RowKit

set_option maxHeartbeats 4000000 in
set_option maxRecDepth 100000 in
theorem extents_walk (s size : Int) (ws : List Nat) (l : List (Int × Int)) (v vl : Value) (w : World) (hv : Bm w v s ws) (hvl : Ext w vl l) (hT : Tab w) (_hsz : R64 size) :
    Calls Tryd.prog 6 #[v, .int .i64 size, vl] w fun e w' => e = .returned (.bool true) ∧ Below w.heap.size w w' := by
  have hln := bm_len hv
  have hll := ext_len hvl
  have HV := hid hv
  have HVL := hid hvl
  have HT := hid hT
  obtain ⟨A, ca, rfl⟩ := hv.form
  obtain ⟨L, cl, rfl⟩ := ext_form hvl
  clear hv hvl hT
  obtain ⟨w1, h1⟩ : ∃ w1, w.alloc (.cells #[.int .i64 s, .slice A ws.length ca] 24) = w1 := ⟨_, rfl⟩
  have z1 : w1.heap.size = w.heap.size + 1 := by rw [← h1]; simp
  obtain ⟨w3, h3⟩ : ∃ w3, w1.alloc (.cells #[.int .i64 s, .slice A ws.length ca] 24) = w3 := ⟨_, rfl⟩
  have BX : Hid (Box w1 w.heap.size s A ws.length ca) := hid (by rw [← h1]; exact box_new _ _ _ _ _)
  have hb13 : Below w1.heap.size w1 w3 := by rw [← h3]; exact al1 _ _
  have HB : Hid (Below w.heap.size w w3) := hid (below_both (by rw [← h1]; exact al1 _ _) hb13)
  have HG : Hid (w3.heap[w.heap.size + 1]? = some (.cells #[.int .i64 s, .slice A ws.length ca] 24 (0, 0))) := hid (by rw [← h3, ← z1]; exact heap_alloc_new w1 _)
  obtain ⟨BXc0, BXc1, BXc2⟩ := BX.out.facts
  have BX3 := hid (BX.out.below hb13)
  clear hb13
  have HF := hid (few_1 (w.heap.size + 1) ws.length ca s A w3 HG.out hln)
  have HAW := hid (awake_any w3 (HT.out.below HB.out))
  by_cases hfew : ws.length ≤ 20
  · rw [decide_eq_true hfew] at HF
    by_cases hl : l.length ≤ 20
    · clear hfew HAW
      obtain ⟨er, her⟩ : ∃ er, feErr size l = er := ⟨_, rfl⟩
      have HC1 := hid (fun W (h : Below w.heap.size w W) => fromExtents_any size l _ W (HVL.out.below h))
      have HC2 := hid (fun W (h : Below w.heap.size w W) => refFromExtents_any size l _ W (HVL.out.below h))
      rw [her] at HC1 HC2
      have d1 : (er == er) = true := by simp
      clear her
      go_enter Tryd.func6, Tryd.ntmps6
      go_wp2_with fail
      refine HF.out.mono ?_
      rintro e w4 ⟨rfl, rfl⟩
      clear BX BXc0 BXc1 BXc2 HF HG z1
      have BX := BX3
      clear BX3
      obtain ⟨BXc0, BXc1, BXc2⟩ := BX.out.facts
      go_wp2_with fail
      refine (HC1.out _ HB.out).mono ?_
      intro e w4 hm
      obtain ⟨S1, us1, A1, c1, rfl, hS1, hbm1, hl1, hif1, hb⟩ := made_open hm
      replace BX := hid (BX.out.below hb)
      replace HB := hid (below_both HB.out hb)
      clear BXc0 BXc1 BXc2
      obtain ⟨BXc0, BXc1, BXc2⟩ := BX.out.facts
      have M1 := hid hbm1
      have HS1 := hid hS1
      have HIF1 := hid hif1
      clear hb hm hbm1 hS1 hif1
      go_wp2_with fail
      obtain ⟨w5, heq⟩ : ∃ X, w4.alloc (.cells #[.int .i64 S1, .slice A1 us1.length c1] 24) = X := ⟨_, rfl⟩
      have hb : Below w4.heap.size w4 w5 := by rw [← heq]; exact al1 _ _
      replace BX := hid (BX.out.below hb)
      replace M1 := hid (M1.out.below hb)
      replace HB := hid (below_both HB.out hb)
      have B1 : Hid (Box w5 w4.heap.size S1 A1 us1.length c1) := hid (by rw [← heq]; exact box_new _ _ _ _ _)
      rw [heq]
      clear hb heq
      clear BXc0 BXc1 BXc2
      obtain ⟨BXc0, BXc1, BXc2⟩ := BX.out.facts
      obtain ⟨B1c0, B1c1, B1c2⟩ := B1.out.facts
      refine (HC2.out _ HB.out).mono ?_
      intro e w6 hm
      obtain ⟨A1', c1', rfl, hbm1, hb⟩ := made_again hm HS1.out HIF1.out M1.out.2.1
      replace BX := hid (BX.out.below hb)
      replace B1 := hid (B1.out.below hb)
      replace M1 := hid (M1.out.below hb)
      replace HB := hid (below_both HB.out hb)
      clear BXc0 BXc1 BXc2
      clear B1c0 B1c1 B1c2
      obtain ⟨BXc0, BXc1, BXc2⟩ := BX.out.facts
      obtain ⟨B1c0, B1c1, B1c2⟩ := B1.out.facts
      have M1' := hid hbm1
      clear hb hm hbm1
      go_wp2_with fail
      obtain ⟨w7, heq⟩ : ∃ X, w6.alloc (.cells #[.int .i64 S1, .slice A1' us1.length c1'] 24) = X := ⟨_, rfl⟩
      have hb : Below w6.heap.size w6 w7 := by rw [← heq]; exact al1 _ _
      replace BX := hid (BX.out.below hb)
      replace B1 := hid (B1.out.below hb)
      replace M1 := hid (M1.out.below hb)
      replace M1' := hid (M1'.out.below hb)
      replace HB := hid (below_both HB.out hb)
      have B2 : Hid (Box w7 w6.heap.size S1 A1' us1.length c1') := hid (by rw [← heq]; exact box_new _ _ _ _ _)
      rw [heq]
      clear hb heq
      clear BXc0 BXc1 BXc2
      clear B1c0 B1c1 B1c2
      obtain ⟨BXc0, BXc1, BXc2⟩ := BX.out.facts
      obtain ⟨B1c0, B1c1, B1c2⟩ := B1.out.facts
      obtain ⟨B2c0, B2c1, B2c2⟩ := B2.out.facts
      have BX7 := BX
      have B17 := B1
      have B27 := B2
      have HB7 := HB
      have Q7 := hid (And.intro M1.out M1'.out)
      clear BX B1 B2 M1 M1' HB
      have HE1 := hid (fun W (h : Below w.heap.size w W) => extents_any s ws _ W (HV.out.below h) (HT.out.below h))
      have HE2 := hid (fun W (h : Below w.heap.size w W) => refExtents_any s ws _ W (HV.out.below h))
      have hxl := exts_len s ws
      obtain ⟨xl, hxx⟩ : ∃ xl, exts s ws = xl := ⟨_, rfl⟩
      rw [hxx] at HE1 HE2 hxl
      clear hxx
      go_region_held3 (fun W => W.cell? ⟨w.heap.size, 0, none⟩ = some (.int .i64 s) ∧ W.cell? ⟨w.heap.size, 1, none⟩ = some (.slice A ws.length ca) ∧ W.cell? ⟨w4.heap.size, 0, none⟩ = some (.int .i64 S1) ∧ W.cell? ⟨w4.heap.size, 1, none⟩ = some (.slice A1 us1.length c1) ∧ W.cell? ⟨w6.heap.size, 0, none⟩ = some (.int .i64 S1) ∧ W.cell? ⟨w6.heap.size, 1, none⟩ = some (.slice A1' us1.length c1'))
        (go_keep)
        (first
          | (go_at_call 12; refine (awake_any _ (HT.out.below (below_drewN HB7.out 1))).mono ?_; rintro e w8 ⟨rfl, hb'⟩; have hb : Below w7.heap.size w7 w8 := ⟨hb'.os, hb'.tape, hb'.output, hb'.size, hb'.block⟩; clear hb'; have BX8 := hid (BX7.out.below hb); have B18 := hid (B17.out.below hb); have B28 := hid (B27.out.below hb); obtain ⟨BXc0, BXc1, BXc2⟩ := BX8.out.facts; obtain ⟨B1c0, B1c1, B1c2⟩ := B18.out.facts; obtain ⟨B2c0, B2c1, B2c2⟩ := B28.out.facts; have HB8 := hid (below_both HB7.out hb); have Q8 := hid (And.intro (Q7.out.1.below hb) (Q7.out.2.below hb)); clear hb)
          | (go_at_call 37; refine (HE1.out _ HB8.out).mono ?_; rintro e w9 ⟨va, rfl, hva, hb⟩; have HX9 := hid hva; obtain ⟨Av, cv, rfl⟩ := ext_form hva; clear hva; have BX9 := hid (BX8.out.below hb); have B19 := hid (B18.out.below hb); have B29 := hid (B28.out.below hb); obtain ⟨BXc0, BXc1, BXc2⟩ := BX9.out.facts; obtain ⟨B1c0, B1c1, B1c2⟩ := B19.out.facts; obtain ⟨B2c0, B2c1, B2c2⟩ := B29.out.facts; have HB9 := hid (below_both HB8.out hb); have Q9 := hid (And.intro (Q8.out.1.below hb) (Q8.out.2.below hb)); clear hb)
          | (go_at_call 38; refine (HE2.out _ HB9.out).mono ?_; rintro e w10 ⟨va, rfl, hva, hb⟩; have HY10 := hid hva; have HX10 := hid (HX9.out.below hb); obtain ⟨Aw, cw, rfl⟩ := ext_form hva; clear hva; have BX10 := hid (BX9.out.below hb); have B110 := hid (B19.out.below hb); have B210 := hid (B29.out.below hb); obtain ⟨BXc0, BXc1, BXc2⟩ := BX10.out.facts; obtain ⟨B1c0, B1c1, B1c2⟩ := B110.out.facts; obtain ⟨B2c0, B2c1, B2c2⟩ := B210.out.facts; have HB10 := hid (below_both HB9.out hb); have Q10 := hid (And.intro (Q9.out.1.below hb) (Q9.out.2.below hb)); clear hb)
          | (go_at_call 36; refine (sameExt_true xl _ _ _ HX10.out HY10.out (Nat.le_trans hxl (by decide))).mono ?_; rintro e w11 ⟨rfl, hb⟩; have BX11 := hid (BX10.out.below hb); have B111 := hid (B110.out.below hb); have B211 := hid (B210.out.below hb); obtain ⟨BXc0, BXc1, BXc2⟩ := BX11.out.facts; obtain ⟨B1c0, B1c1, B1c2⟩ := B111.out.facts; obtain ⟨B2c0, B2c1, B2c2⟩ := B211.out.facts; have HB11 := hid (below_both HB10.out hb); have Q11 := hid (And.intro (Q10.out.1.below hb) (Q10.out.2.below hb)); clear hb)
          | (go_at_call 15; refine (same_true S1 us1 _ _ _ Q11.out.1 Q11.out.2 hl1).mono ?_; rintro e w12 ⟨rfl, hb⟩; have BX12 := hid (BX11.out.below hb); have B112 := hid (B111.out.below hb); have B212 := hid (B211.out.below hb); obtain ⟨BXc0, BXc1, BXc2⟩ := BX12.out.facts; obtain ⟨B1c0, B1c1, B1c2⟩ := B112.out.facts; obtain ⟨B2c0, B2c1, B2c2⟩ := B212.out.facts; have HB12 := hid (below_both HB11.out hb); clear hb))
      go_wp2
      go_ret
      exact ⟨rfl, HB12.out⟩
    · clear hfew
      have hl1 : 20 < l.length := by omega
      go_enter Tryd.func6, Tryd.ntmps6
      go_wp2_with fail
      refine HF.out.mono ?_
      rintro e w4 ⟨rfl, rfl⟩
      go_wp2_with fail
      refine HAW.out.mono ?_
      rintro e w4 ⟨rfl, hb4⟩
      have HBB := hid (below_both HB.out hb4)
      clear hb4
      go_wp2
      go_ret
      exact ⟨rfl, HBB.out⟩
  · rw [not_few hfew] at HF
    clear hfew
    go_enter Tryd.func6, Tryd.ntmps6
    go_wp2_with fail
    refine HF.out.mono ?_
    rintro e w4 ⟨rfl, rfl⟩
    go_wp2_with fail
    refine HAW.out.mono ?_
    rintro e w4 ⟨rfl, hb4⟩
    have HBB := hid (below_both HB.out hb4)
    clear hb4
    go_wp2
    go_ret
    exact ⟨rfl, HBB.out⟩
end Go.Proofs.YtbifhcjkdfocaaaDoor
