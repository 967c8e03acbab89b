/- The law SessionReceives walked. -/
import Derived.Test.YtkdladacmjkdoaaMa
import Derived.Test.YtkdladacmjkdoaaXb
namespace Go.Proofs.Ytkdladacmjkdoaa
open Go.RowKit Go.Lib
theorem mcellv {w : World} {g : Nat} {k mf mt mn u me : Int} {a b : Value} (h : w.heap[g]? = some (.cells #[.int .i64 k, .int .i64 mf, .int .i64 mt, .int .i64 mn, .int .i64 u, .int .i64 me, a, b] 47)) : w.cell? ⟨g, 6, none⟩ = some a ∧ w.cell? ⟨g, 7, none⟩ = some b :=
  ⟨cell_of_row _ _ 6 _ _ _ h, cell_of_row _ _ 7 _ _ _ h⟩
set_option maxHeartbeats 8000000 in
set_option maxRecDepth 100000 in
theorem receives_walk (s : Ses) (nw : Int) (m : Mes) (u : Int) (VA : Option Addr) (vn vc : Nat) (BA : Option Addr) (bn bc : Nat) (w : World) : Calls Try.prog 5 #[sv s, .int .i64 nw, mv m u VA vn vc BA bn bc] w (TrueQ w) := by
  obtain ⟨⟨⟨a0, a1, a2, a3, a4, a5⟩, l1⟩, hr1⟩ : ∃ r, recR s m = r := ⟨_, rfl⟩
  have h1 := fun W => receive_any s nw m u VA vn vc BA bn bc W
  have h2 := fun W => rreceive_any s nw m u VA vn vc BA bn bc W
  rw [hr1] at h1 h2
  obtain ⟨l, r, se, sn, sp, sd⟩ := s
  obtain ⟨k, mf, mt, mn, me⟩ := m
  have H1 : Hid (∀ W, Calls Try.prog 24 #[.agg #[.int .i64 l, .int .i64 r, .int .i64 se, .int .i64 sn, .int .i64 sp, .int .i64 sd], .int .i64 nw, .agg #[.int .i64 k, .int .i64 mf, .int .i64 mt, .int .i64 mn, .int .i64 u, .int .i64 me, .slice VA vn vc, .slice BA bn bc]] W fun f w' => ∃ v, f = .returned (.tuple #[.agg #[.int .i64 a0, .int .i64 a1, .int .i64 a2, .int .i64 a3, .int .i64 a4, .int .i64 a5], v]) ∧ MsgQ W.heap.size w' v l1 ∧ Below W.heap.size W w') := hid h1
  have H2 : Hid (∀ W, Calls Try.prog 25 #[.agg #[.int .i64 l, .int .i64 r, .int .i64 se, .int .i64 sn, .int .i64 sp, .int .i64 sd], .int .i64 nw, .agg #[.int .i64 k, .int .i64 mf, .int .i64 mt, .int .i64 mn, .int .i64 u, .int .i64 me, .slice VA vn vc, .slice BA bn bc]] W fun f w' => ∃ v, f = .returned (.tuple #[.agg #[.int .i64 a0, .int .i64 a1, .int .i64 a2, .int .i64 a3, .int .i64 a4, .int .i64 a5], v]) ∧ MsgQ W.heap.size w' v l1 ∧ Below W.heap.size W w') := hid h2
  clear h1 h2 hr1
  obtain ⟨g, hg⟩ : ∃ g, w.heap.size = g := ⟨_, rfl⟩
  obtain ⟨W0, hW⟩ : ∃ X, (w.alloc (.cells (cS ⟨l, r, se, sn, sp, sd⟩) 23)).alloc (.cells #[.int .i64 k, .int .i64 mf, .int .i64 mt, .int .i64 mn, .int .i64 u, .int .i64 me, .slice VA vn vc, .slice BA bn bc] 47) = X := ⟨_, rfl⟩
  have ks : W0.heap[g]? = some (.cells (cS ⟨l, r, se, sn, sp, sd⟩) 23) := by rw [← hW, ← hg]; exact old_al (heap_alloc_new w _) _
  have km : W0.heap[g + 1]? = some (.cells #[.int .i64 k, .int .i64 mf, .int .i64 mt, .int .i64 mn, .int .i64 u, .int .i64 me, .slice VA vn vc, .slice BA bn bc] 47) := by rw [← hW, ← hg]; exact new_two w _ _
  have HB : Hid (Below g w W0) := hid (by rw [← hW, ← hg]; exact below_both (al1 w _) (al1 _ _))
  have HSN : Hid (g ≤ W0.heap.size) := hid (Nat.le_of_lt (box_lt ks))
  obtain ⟨gs, hgs⟩ : ∃ x, g = x := ⟨_, rfl⟩
  have HGS := hid hgs
  obtain ⟨gm, hgm⟩ : ∃ x, gs + 1 = x := ⟨_, rfl⟩
  have HGM := hid hgm
  rw [hgs, hgm] at km
  rw [hgs] at ks
  have HG := hid hg
  have HKs := hid ks
  have HKm := hid km
  obtain ⟨xs0, xs1, xs2, xs3, xs4, xs5⟩ := load6 ks
  have fs := box_fr ks
  simp only at xs0 xs1 xs2 xs3 xs4 xs5
  obtain ⟨m0, m1, m2, m3, m4, m5⟩ := mcell km
  obtain ⟨m6, m7⟩ := mcellv km
  unfold sv mv
  simp only [cS] at hW ⊢
  have HWW := hid hW
  clear hg hW ks km hgs hgm
  by_cases big : 20 < vn
  · have d0 : decide (20 < vn) = true := decide_eq_true big
    have d1 : decide ((20 : Int) < (vn : Int)) = true := decide_eq_true (by omega)
    go_enter Try.func5, Try.ntmps5
    go_upto_region 1 with fail
    rw [HWW.out, HG.out, HGS.out, HGM.out]
    go_wp2_with (go_at_call 12; (with_reducible refine (awake_any _).mono ?_); rintro _ wn ⟨rfl, hb⟩; have HB := hid (HB.out.trans (hb.mono HSN.out)); clear hb)
    go_ret
    exact ⟨rfl, by rw [HG.out]; exact HB.out⟩
  have d0 : decide (20 < vn) = false := decide_eq_false big
  have d1 : decide ((20 : Int) < (vn : Int)) = false := decide_eq_false (by omega)
  by_cases big2 : 100 < bn
  · have d2 : decide (100 < bn) = true := decide_eq_true big2
    have d3 : decide ((100 : Int) < (bn : Int)) = true := decide_eq_true (by omega)
    go_enter Try.func5, Try.ntmps5
    go_upto_region 1 with fail
    rw [HWW.out, HG.out, HGS.out, HGM.out]
    go_wp2_with (go_at_call 12; (with_reducible refine (awake_any _).mono ?_); rintro _ wn ⟨rfl, hb⟩; have HB := hid (HB.out.trans (hb.mono HSN.out)); clear hb)
    go_ret
    exact ⟨rfl, by rw [HG.out]; exact HB.out⟩
  have d2 : decide (100 < bn) = false := decide_eq_false big2
  have d3 : decide ((100 : Int) < (bn : Int)) = false := decide_eq_false (by omega)
  go_enter Try.func5, Try.ntmps5
  go_upto_region 1 with fail
  rw [HWW.out, HG.out, HGS.out, HGM.out]
  go_upto_region 4 with (go_at_call 24; (with_reducible refine (H1.out _).mono ?_); rintro _ wn ⟨va, rfl, hm, hb⟩; have km := (hb.block _ (box_lt HKm.out)).trans HKm.out; have ks := (hb.block _ (box_lt HKs.out)).trans HKs.out; have HB := hid (HB.out.trans (hb.mono HSN.out)); have HSN := hid (Nat.le_trans HSN.out hb.size); have HMva := hid (hm.keep (Nat.zero_le _) (fun _ _ _ h => h)); clear hm; have HKs := hid ks; obtain ⟨xs0, xs1, xs2, xs3, xs4, xs5⟩ := load6 ks; have fs := box_fr ks; simp only at xs0 xs1 xs2 xs3 xs4 xs5; have HKm := hid km; obtain ⟨m0, m1, m2, m3, m4, m5⟩ := mcell km; obtain ⟨m6, m7⟩ := mcellv km; clear km; clear hb ks)
  obtain ⟨ga, hga⟩ : ∃ h, wn.heap.size = h := ⟨_, rfl⟩
  obtain ⟨W1, hW⟩ : ∃ X, wn.alloc (.cells (cS ⟨a0, a1, a2, a3, a4, a5⟩) 23) = X := ⟨_, rfl⟩
  have ka : W1.heap[ga]? = some (.cells (cS ⟨a0, a1, a2, a3, a4, a5⟩) 23) := by rw [← hW, ← hga]; exact heap_alloc_new _ _
  have HLEa : Hid (g ≤ ga) := hid (by rw [← hga]; exact HSN.out)
  have km : W1.heap[gm]? = some (.cells #[.int .i64 k, .int .i64 mf, .int .i64 mt, .int .i64 mn, .int .i64 u, .int .i64 me, .slice VA vn vc, .slice BA bn bc] 47) := by rw [← hW]; exact old_al HKm.out _
  clear m0 m1 m2 m3 m4 m5 m6 m7
  have HKm := hid km
  obtain ⟨m0, m1, m2, m3, m4, m5⟩ := mcell km
  obtain ⟨m6, m7⟩ := mcellv km
  clear km
  have ks : W1.heap[gs]? = some (.cells (cS ⟨l, r, se, sn, sp, sd⟩) 23) := by rw [← hW]; exact (Below.heap_alloc _ _ _ (box_lt HKs.out)).trans HKs.out
  have HNEsa : Hid (gs ≠ ga) := hid (by have := box_lt HKs.out; omega)
  have HMva := hid (show MsgQ 0 W1 _ _ by rw [← hW]; exact HMva.out.below (Nat.zero_le _) (al1 _ _))
  have HB := hid (show Below g w W1 by rw [← hW]; exact HB.out.alloc HSN.out _)
  have HSN : Hid (g ≤ W1.heap.size) := hid (by have := HLEa.out; have := box_lt ka; omega)
  clear xs0 xs1 xs2 xs3 xs4 xs5 fs
  have HKs := hid ks
  obtain ⟨xs0, xs1, xs2, xs3, xs4, xs5⟩ := load6 ks
  have fs := box_fr ks
  have HKa := hid ka
  obtain ⟨xa0, xa1, xa2, xa3, xa4, xa5⟩ := load6 ka
  have fa := box_fr ka
  simp only at xs0 xs1 xs2 xs3 xs4 xs5 xa0 xa1 xa2 xa3 xa4 xa5
  have HWW := hid hW
  have HGa := hid hga
  simp only [cS] at HWW
  clear hW hga ks ka
  rw [HGa.out, HWW.out]
  clear HWW
  go_upto_region 5 with (go_at_call 25; (with_reducible refine (H2.out _).mono ?_); rintro _ wn ⟨vb, rfl, hm, hb⟩; have km := (hb.block _ (box_lt HKm.out)).trans HKm.out; have ks := (hb.block _ (box_lt HKs.out)).trans HKs.out; have ka := (hb.block _ (box_lt HKa.out)).trans HKa.out; have HMva := hid (HMva.out.below (Nat.zero_le _) hb); have HB := hid (HB.out.trans (hb.mono HSN.out)); have HSN := hid (Nat.le_trans HSN.out hb.size); have HMvb := hid (hm.keep (Nat.zero_le _) (fun _ _ _ h => h)); clear hm; have HKs := hid ks; obtain ⟨xs0, xs1, xs2, xs3, xs4, xs5⟩ := load6 ks; have fs := box_fr ks; have HKa := hid ka; obtain ⟨xa0, xa1, xa2, xa3, xa4, xa5⟩ := load6 ka; have fa := box_fr ka; simp only at xs0 xs1 xs2 xs3 xs4 xs5 xa0 xa1 xa2 xa3 xa4 xa5; have HKm := hid km; obtain ⟨m0, m1, m2, m3, m4, m5⟩ := mcell km; obtain ⟨m6, m7⟩ := mcellv km; clear km; clear hb ks ka)
  clear m0 m1 m2 m3 m4 m5 m6 m7
  obtain ⟨gb, hgb⟩ : ∃ h, wn.heap.size = h := ⟨_, rfl⟩
  obtain ⟨W2, hW⟩ : ∃ X, wn.alloc (.cells (cS ⟨a0, a1, a2, a3, a4, a5⟩) 23) = X := ⟨_, rfl⟩
  have kb : W2.heap[gb]? = some (.cells (cS ⟨a0, a1, a2, a3, a4, a5⟩) 23) := by rw [← hW, ← hgb]; exact heap_alloc_new _ _
  have HLEb : Hid (g ≤ gb) := hid (by rw [← hgb]; exact HSN.out)
  have ks : W2.heap[gs]? = some (.cells (cS ⟨l, r, se, sn, sp, sd⟩) 23) := by rw [← hW]; exact (Below.heap_alloc _ _ _ (box_lt HKs.out)).trans HKs.out
  have HNEsb : Hid (gs ≠ gb) := hid (by have := box_lt HKs.out; omega)
  have ka : W2.heap[ga]? = some (.cells (cS ⟨a0, a1, a2, a3, a4, a5⟩) 23) := by rw [← hW]; exact (Below.heap_alloc _ _ _ (box_lt HKa.out)).trans HKa.out
  have HNEab : Hid (ga ≠ gb) := hid (by have := box_lt HKa.out; omega)
  have HMva := hid (show MsgQ 0 W2 _ _ by rw [← hW]; exact HMva.out.below (Nat.zero_le _) (al1 _ _))
  have HMvb := hid (show MsgQ 0 W2 _ _ by rw [← hW]; exact HMvb.out.below (Nat.zero_le _) (al1 _ _))
  have HB := hid (show Below g w W2 by rw [← hW]; exact HB.out.alloc HSN.out _)
  have HSN : Hid (g ≤ W2.heap.size) := hid (by have := HLEb.out; have := box_lt kb; omega)
  clear xs0 xs1 xs2 xs3 xs4 xs5 xa0 xa1 xa2 xa3 xa4 xa5 fs fa
  have HKs := hid ks
  obtain ⟨xs0, xs1, xs2, xs3, xs4, xs5⟩ := load6 ks
  have fs := box_fr ks
  have HKa := hid ka
  obtain ⟨xa0, xa1, xa2, xa3, xa4, xa5⟩ := load6 ka
  have fa := box_fr ka
  have HKb := hid kb
  obtain ⟨xb0, xb1, xb2, xb3, xb4, xb5⟩ := load6 kb
  have fb := box_fr kb
  simp only at xs0 xs1 xs2 xs3 xs4 xs5 xa0 xa1 xa2 xa3 xa4 xa5 xb0 xb1 xb2 xb3 xb4 xb5
  have HWW := hid hW
  have HGb := hid hgb
  simp only [cS] at HWW
  clear hW hgb ks ka kb
  rw [HGb.out, HWW.out]
  clear HWW
  have t0 : (a0 == a0) = true := beq_self_eq_true a0
  have t1 : (a1 == a1) = true := beq_self_eq_true a1
  have t2 : (a2 == a2) = true := beq_self_eq_true a2
  have t3 : (a3 == a3) = true := beq_self_eq_true a3
  have t4 : (a4 == a4) = true := beq_self_eq_true a4
  have t5 : (a5 == a5) = true := beq_self_eq_true a5
  go_wp2_with (first | (go_at_call 12; (with_reducible refine (awake_any _).mono ?_); rintro _ wn ⟨rfl, hb⟩; have ks := (hb.block _ (box_lt HKs.out)).trans HKs.out; have ka := (hb.block _ (box_lt HKa.out)).trans HKa.out; have kb := (hb.block _ (box_lt HKb.out)).trans HKb.out; have HMva := hid (HMva.out.below (Nat.zero_le _) hb); have HMvb := hid (HMvb.out.below (Nat.zero_le _) hb); have HB := hid (HB.out.trans (hb.mono HSN.out)); have HSN := hid (Nat.le_trans HSN.out hb.size); have HKs := hid ks; obtain ⟨xs0, xs1, xs2, xs3, xs4, xs5⟩ := load6 ks; have fs := box_fr ks; have HKa := hid ka; obtain ⟨xa0, xa1, xa2, xa3, xa4, xa5⟩ := load6 ka; have fa := box_fr ka; have HKb := hid kb; obtain ⟨xb0, xb1, xb2, xb3, xb4, xb5⟩ := load6 kb; have fb := box_fr kb; simp only at xs0 xs1 xs2 xs3 xs4 xs5 xa0 xa1 xa2 xa3 xa4 xa5 xb0 xb1 xb2 xb3 xb4 xb5; clear hb ks ka kb) | (go_at_call 19; (with_reducible refine (sameMessages_eq l1 _ _ _ HMva.out HMvb.out).mono ?_); rintro _ wn ⟨rfl, hb⟩; have ks := (hb.block _ (box_lt HKs.out)).trans HKs.out; have ka := (hb.block _ (box_lt HKa.out)).trans HKa.out; have kb := (hb.block _ (box_lt HKb.out)).trans HKb.out; have HMva := hid (HMva.out.below (Nat.zero_le _) hb); have HMvb := hid (HMvb.out.below (Nat.zero_le _) hb); have HB := hid (HB.out.trans (hb.mono HSN.out)); have HSN := hid (Nat.le_trans HSN.out hb.size); have HKs := hid ks; obtain ⟨xs0, xs1, xs2, xs3, xs4, xs5⟩ := load6 ks; have fs := box_fr ks; have HKa := hid ka; obtain ⟨xa0, xa1, xa2, xa3, xa4, xa5⟩ := load6 ka; have fa := box_fr ka; have HKb := hid kb; obtain ⟨xb0, xb1, xb2, xb3, xb4, xb5⟩ := load6 kb; have fb := box_fr kb; simp only at xs0 xs1 xs2 xs3 xs4 xs5 xa0 xa1 xa2 xa3 xa4 xa5 xb0 xb1 xb2 xb3 xb4 xb5; clear hb ks ka kb))
  go_ret
  exact ⟨rfl, by rw [HG.out]; exact HB.out⟩
end Go.Proofs.Ytkdladacmjkdoaa
