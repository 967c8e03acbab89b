/- The law SessionDials walked. -/
import Derived.Test.YtkdladacmjkdoaaMa
namespace Go.Proofs.Ytkdladacmjkdoaa
open Go.RowKit Go.Lib
set_option maxHeartbeats 8000000 in
set_option maxRecDepth 100000 in
theorem dials_walk (s : Ses) (nw pt : Int) (w : World) (hrn : R64 nw) : Calls Try.prog 4 #[sv s, .int .i64 nw, .int .i64 pt] w (TrueQ w) := by
  obtain ⟨⟨⟨a0, a1, a2, a3, a4, a5⟩, l1, c1⟩, hr1⟩ : ∃ r, dialR s nw pt = r := ⟨_, rfl⟩
  obtain ⟨⟨⟨p0, p1, p2, p3, p4, p5⟩, l2⟩, hr2⟩ : ∃ r, expR s nw pt = r := ⟨_, rfl⟩
  obtain ⟨⟨⟨q0, q1, q2, q3, q4, q5⟩, l3⟩, hr3⟩ : ∃ r, closeR s = r := ⟨_, rfl⟩
  have h1 := fun W => dial_any s nw pt W
  have h2 := fun W => rdial_any s nw pt W
  have h3 := fun W => expire_any s nw pt W hrn
  have h4 := fun W => rexpire_any s nw pt W hrn
  have h5 := fun W => closeS_any s W
  have h6 := fun W => rclose_any s W
  rw [hr1] at h1 h2
  rw [hr2] at h3 h4
  rw [hr3] at h5 h6
  obtain ⟨l, r, se, sn, sp, sd⟩ := s
  have H1 : Hid (∀ W, Calls Try.prog 17 #[.agg #[.int .i64 l, .int .i64 r, .int .i64 se, .int .i64 sn, .int .i64 sp, .int .i64 sd], .int .i64 nw, .int .i64 pt] W fun f w' => ∃ v, f = .returned (.tuple #[.agg #[.int .i64 a0, .int .i64 a1, .int .i64 a2, .int .i64 a3, .int .i64 a4, .int .i64 a5], v, .int .i64 c1]) ∧ MsgQ W.heap.size w' v l1 ∧ Below W.heap.size W w') := hid h1
  have H2 : Hid (∀ W, Calls Try.prog 18 #[.agg #[.int .i64 l, .int .i64 r, .int .i64 se, .int .i64 sn, .int .i64 sp, .int .i64 sd], .int .i64 nw, .int .i64 pt] W fun f w' => ∃ v, f = .returned (.tuple #[.agg #[.int .i64 a0, .int .i64 a1, .int .i64 a2, .int .i64 a3, .int .i64 a4, .int .i64 a5], v, .int .i64 c1]) ∧ MsgQ W.heap.size w' v l1 ∧ Below W.heap.size W w') := hid h2
  have H3 : Hid (∀ W, Calls Try.prog 20 #[.agg #[.int .i64 l, .int .i64 r, .int .i64 se, .int .i64 sn, .int .i64 sp, .int .i64 sd], .int .i64 nw, .int .i64 pt] W fun f w' => ∃ v, f = .returned (.tuple #[.agg #[.int .i64 p0, .int .i64 p1, .int .i64 p2, .int .i64 p3, .int .i64 p4, .int .i64 p5], v]) ∧ MsgQ W.heap.size w' v l2 ∧ Below W.heap.size W w') := hid h3
  have H4 : Hid (∀ W, Calls Try.prog 21 #[.agg #[.int .i64 l, .int .i64 r, .int .i64 se, .int .i64 sn, .int .i64 sp, .int .i64 sd], .int .i64 nw, .int .i64 pt] W fun f w' => ∃ v, f = .returned (.tuple #[.agg #[.int .i64 p0, .int .i64 p1, .int .i64 p2, .int .i64 p3, .int .i64 p4, .int .i64 p5], v]) ∧ MsgQ W.heap.size w' v l2 ∧ Below W.heap.size W w') := hid h4
  have H5 : Hid (∀ W, Calls Try.prog 22 #[.agg #[.int .i64 l, .int .i64 r, .int .i64 se, .int .i64 sn, .int .i64 sp, .int .i64 sd]] W fun f w' => ∃ v, f = .returned (.tuple #[.agg #[.int .i64 q0, .int .i64 q1, .int .i64 q2, .int .i64 q3, .int .i64 q4, .int .i64 q5], v]) ∧ MsgQ W.heap.size w' v l3 ∧ Below W.heap.size W w') := hid h5
  have H6 : Hid (∀ W, Calls Try.prog 23 #[.agg #[.int .i64 l, .int .i64 r, .int .i64 se, .int .i64 sn, .int .i64 sp, .int .i64 sd]] W fun f w' => ∃ v, f = .returned (.tuple #[.agg #[.int .i64 q0, .int .i64 q1, .int .i64 q2, .int .i64 q3, .int .i64 q4, .int .i64 q5], v]) ∧ MsgQ W.heap.size w' v l3 ∧ Below W.heap.size W w') := hid h6
  clear h1 h2 h3 h4 h5 h6 hr1 hr2 hr3
  obtain ⟨g, hg⟩ : ∃ g, w.heap.size = g := ⟨_, rfl⟩
  obtain ⟨W0, hW⟩ : ∃ X, w.alloc (.cells (cS ⟨l, r, se, sn, sp, sd⟩) 23) = X := ⟨_, rfl⟩
  have ks : W0.heap[g]? = some (.cells (cS ⟨l, r, se, sn, sp, sd⟩) 23) := by rw [← hW, ← hg]; exact heap_alloc_new w _
  have HB : Hid (Below g w W0) := hid (by rw [← hW, ← hg]; exact al1 w _)
  have HSN : Hid (g ≤ W0.heap.size) := hid (Nat.le_of_lt (box_lt ks))
  obtain ⟨gs, hgs⟩ : ∃ x, g = x := ⟨_, rfl⟩
  have HGS := hid hgs
  rw [hgs] at ks
  have HG := hid hg
  have HKs := hid ks
  obtain ⟨xs0, xs1, xs2, xs3, xs4, xs5⟩ := load6 ks
  have fs := box_fr ks
  simp only at xs0 xs1 xs2 xs3 xs4 xs5
  simp only [sv, cS] at hW ⊢
  have HWW := hid hW
  clear hg hW ks hgs
  go_enter Try.func4, Try.ntmps4
  go_upto_region 1 with fail
  rw [HWW.out, HG.out, HGS.out]
  clear HWW
  go_upto_region 2 with (go_at_call 17; (with_reducible refine (H1.out _).mono ?_); rintro _ wn ⟨va, rfl, hm, hb⟩; have ks := (hb.block _ (box_lt HKs.out)).trans HKs.out; have HB := hid (HB.out.trans (hb.mono HSN.out)); have HSN := hid (Nat.le_trans HSN.out hb.size); have HMva := hid (hm.keep (Nat.zero_le _) (fun _ _ _ h => h)); clear hm; have HKs := hid ks; obtain ⟨xs0, xs1, xs2, xs3, xs4, xs5⟩ := load6 ks; have fs := box_fr ks; simp only at xs0 xs1 xs2 xs3 xs4 xs5; clear hb ks)
  obtain ⟨ga, hga⟩ : ∃ h, wn.heap.size = h := ⟨_, rfl⟩
  obtain ⟨W1, hW⟩ : ∃ X, wn.alloc (.cells (cS ⟨a0, a1, a2, a3, a4, a5⟩) 23) = X := ⟨_, rfl⟩
  have ka : W1.heap[ga]? = some (.cells (cS ⟨a0, a1, a2, a3, a4, a5⟩) 23) := by rw [← hW, ← hga]; exact heap_alloc_new _ _
  have HLEa : Hid (g ≤ ga) := hid (by rw [← hga]; exact HSN.out)
  have ks : W1.heap[gs]? = some (.cells (cS ⟨l, r, se, sn, sp, sd⟩) 23) := by rw [← hW]; exact (Below.heap_alloc _ _ _ (box_lt HKs.out)).trans HKs.out
  have HNEsa : Hid (gs ≠ ga) := hid (by have := box_lt HKs.out; omega)
  have HMva := hid (show MsgQ 0 W1 _ _ by rw [← hW]; exact HMva.out.below (Nat.zero_le _) (al1 _ _))
  have HB := hid (show Below g w W1 by rw [← hW]; exact HB.out.alloc HSN.out _)
  have HSN : Hid (g ≤ W1.heap.size) := hid (by have := HLEa.out; have := box_lt ka; omega)
  clear xs0 xs1 xs2 xs3 xs4 xs5 fs
  have HKs := hid ks
  obtain ⟨xs0, xs1, xs2, xs3, xs4, xs5⟩ := load6 ks
  have fs := box_fr ks
  have HKa := hid ka
  obtain ⟨xa0, xa1, xa2, xa3, xa4, xa5⟩ := load6 ka
  have fa := box_fr ka
  simp only at xs0 xs1 xs2 xs3 xs4 xs5 xa0 xa1 xa2 xa3 xa4 xa5
  have HWW := hid hW
  have HGa := hid hga
  simp only [cS] at HWW
  clear hW hga ks ka
  rw [HGa.out, HWW.out]
  clear HWW
  go_upto_region 3 with (go_at_call 18; (with_reducible refine (H2.out _).mono ?_); rintro _ wn ⟨vb, rfl, hm, hb⟩; have ks := (hb.block _ (box_lt HKs.out)).trans HKs.out; have ka := (hb.block _ (box_lt HKa.out)).trans HKa.out; have HMva := hid (HMva.out.below (Nat.zero_le _) hb); have HB := hid (HB.out.trans (hb.mono HSN.out)); have HSN := hid (Nat.le_trans HSN.out hb.size); have HMvb := hid (hm.keep (Nat.zero_le _) (fun _ _ _ h => h)); clear hm; have HKs := hid ks; obtain ⟨xs0, xs1, xs2, xs3, xs4, xs5⟩ := load6 ks; have fs := box_fr ks; have HKa := hid ka; obtain ⟨xa0, xa1, xa2, xa3, xa4, xa5⟩ := load6 ka; have fa := box_fr ka; simp only at xs0 xs1 xs2 xs3 xs4 xs5 xa0 xa1 xa2 xa3 xa4 xa5; clear hb ks ka)
  obtain ⟨gb, hgb⟩ : ∃ h, wn.heap.size = h := ⟨_, rfl⟩
  obtain ⟨W2, hW⟩ : ∃ X, wn.alloc (.cells (cS ⟨a0, a1, a2, a3, a4, a5⟩) 23) = X := ⟨_, rfl⟩
  have kb : W2.heap[gb]? = some (.cells (cS ⟨a0, a1, a2, a3, a4, a5⟩) 23) := by rw [← hW, ← hgb]; exact heap_alloc_new _ _
  have HLEb : Hid (g ≤ gb) := hid (by rw [← hgb]; exact HSN.out)
  have ks : W2.heap[gs]? = some (.cells (cS ⟨l, r, se, sn, sp, sd⟩) 23) := by rw [← hW]; exact (Below.heap_alloc _ _ _ (box_lt HKs.out)).trans HKs.out
  have HNEsb : Hid (gs ≠ gb) := hid (by have := box_lt HKs.out; omega)
  have ka : W2.heap[ga]? = some (.cells (cS ⟨a0, a1, a2, a3, a4, a5⟩) 23) := by rw [← hW]; exact (Below.heap_alloc _ _ _ (box_lt HKa.out)).trans HKa.out
  have HNEab : Hid (ga ≠ gb) := hid (by have := box_lt HKa.out; omega)
  have HMva := hid (show MsgQ 0 W2 _ _ by rw [← hW]; exact HMva.out.below (Nat.zero_le _) (al1 _ _))
  have HMvb := hid (show MsgQ 0 W2 _ _ by rw [← hW]; exact HMvb.out.below (Nat.zero_le _) (al1 _ _))
  have HB := hid (show Below g w W2 by rw [← hW]; exact HB.out.alloc HSN.out _)
  have HSN : Hid (g ≤ W2.heap.size) := hid (by have := HLEb.out; have := box_lt kb; omega)
  clear xs0 xs1 xs2 xs3 xs4 xs5 xa0 xa1 xa2 xa3 xa4 xa5 fs fa
  have HKs := hid ks
  obtain ⟨xs0, xs1, xs2, xs3, xs4, xs5⟩ := load6 ks
  have fs := box_fr ks
  have HKa := hid ka
  obtain ⟨xa0, xa1, xa2, xa3, xa4, xa5⟩ := load6 ka
  have fa := box_fr ka
  have HKb := hid kb
  obtain ⟨xb0, xb1, xb2, xb3, xb4, xb5⟩ := load6 kb
  have fb := box_fr kb
  simp only at xs0 xs1 xs2 xs3 xs4 xs5 xa0 xa1 xa2 xa3 xa4 xa5 xb0 xb1 xb2 xb3 xb4 xb5
  have HWW := hid hW
  have HGb := hid hgb
  simp only [cS] at HWW
  clear hW hgb ks ka kb
  rw [HGb.out, HWW.out]
  clear HWW
  have ta0 : (a0 == a0) = true := beq_self_eq_true a0
  have ta1 : (a1 == a1) = true := beq_self_eq_true a1
  have ta2 : (a2 == a2) = true := beq_self_eq_true a2
  have ta3 : (a3 == a3) = true := beq_self_eq_true a3
  have ta4 : (a4 == a4) = true := beq_self_eq_true a4
  have ta5 : (a5 == a5) = true := beq_self_eq_true a5
  go_upto_region 5 with (go_at_call 19; (with_reducible refine (sameMessages_eq l1 _ _ _ HMva.out HMvb.out).mono ?_); rintro _ wn ⟨rfl, hb⟩; have ks := (hb.block _ (box_lt HKs.out)).trans HKs.out; have ka := (hb.block _ (box_lt HKa.out)).trans HKa.out; have kb := (hb.block _ (box_lt HKb.out)).trans HKb.out; have HMva := hid (HMva.out.below (Nat.zero_le _) hb); have HMvb := hid (HMvb.out.below (Nat.zero_le _) hb); have HB := hid (HB.out.trans (hb.mono HSN.out)); have HSN := hid (Nat.le_trans HSN.out hb.size); have HKs := hid ks; obtain ⟨xs0, xs1, xs2, xs3, xs4, xs5⟩ := load6 ks; have fs := box_fr ks; have HKa := hid ka; obtain ⟨xa0, xa1, xa2, xa3, xa4, xa5⟩ := load6 ka; have fa := box_fr ka; have HKb := hid kb; obtain ⟨xb0, xb1, xb2, xb3, xb4, xb5⟩ := load6 kb; have fb := box_fr kb; simp only at xs0 xs1 xs2 xs3 xs4 xs5 xa0 xa1 xa2 xa3 xa4 xa5 xb0 xb1 xb2 xb3 xb4 xb5; clear hb ks ka kb)
  go_upto_region 6 with (go_at_call 20; (with_reducible refine (H3.out _).mono ?_); rintro _ wn ⟨vc, rfl, hm, hb⟩; have ks := (hb.block _ (box_lt HKs.out)).trans HKs.out; have ka := (hb.block _ (box_lt HKa.out)).trans HKa.out; have kb := (hb.block _ (box_lt HKb.out)).trans HKb.out; have HB := hid (HB.out.trans (hb.mono HSN.out)); have HSN := hid (Nat.le_trans HSN.out hb.size); have HMvc := hid (hm.keep (Nat.zero_le _) (fun _ _ _ h => h)); clear hm; have HKs := hid ks; obtain ⟨xs0, xs1, xs2, xs3, xs4, xs5⟩ := load6 ks; have fs := box_fr ks; have HKa := hid ka; obtain ⟨xa0, xa1, xa2, xa3, xa4, xa5⟩ := load6 ka; have fa := box_fr ka; have HKb := hid kb; obtain ⟨xb0, xb1, xb2, xb3, xb4, xb5⟩ := load6 kb; have fb := box_fr kb; simp only at xs0 xs1 xs2 xs3 xs4 xs5 xa0 xa1 xa2 xa3 xa4 xa5 xb0 xb1 xb2 xb3 xb4 xb5; clear hb ks ka kb)
  obtain ⟨W3, hW⟩ : ∃ X, set6 wn ga ⟨p0, p1, p2, p3, p4, p5⟩ = X := ⟨_, rfl⟩
  have ka : W3.heap[ga]? = some (.cells (cS ⟨p0, p1, p2, p3, p4, p5⟩) 23) := by rw [← hW]; exact set6h ⟨p0, p1, p2, p3, p4, p5⟩ HKa.out
  have ks : W3.heap[gs]? = some (.cells (cS ⟨l, r, se, sn, sp, sd⟩) 23) := by rw [← hW]; exact keep6 HKs.out HNEsa.out _
  have kb : W3.heap[gb]? = some (.cells (cS ⟨a0, a1, a2, a3, a4, a5⟩) 23) := by rw [← hW]; exact keep6 HKb.out HNEab.out.symm _
  have HMvc := hid (show MsgQ 0 W3 _ _ by rw [← hW]; exact HMvc.out.keepT (Nat.le_refl _) (keepT_set6 ⟨p0, p1, p2, p3, p4, p5⟩ HKa.out))
  have HB := hid (show Below g w W3 by rw [← hW]; exact set6b ⟨p0, p1, p2, p3, p4, p5⟩ HB.out HLEa.out)
  have HSN : Hid (g ≤ W3.heap.size) := hid (by have := HLEa.out; have := box_lt ka; omega)
  clear xs0 xs1 xs2 xs3 xs4 xs5 xa0 xa1 xa2 xa3 xa4 xa5 xb0 xb1 xb2 xb3 xb4 xb5 fs fa fb
  have HKs := hid ks
  obtain ⟨xs0, xs1, xs2, xs3, xs4, xs5⟩ := load6 ks
  have fs := box_fr ks
  have HKa := hid ka
  obtain ⟨xa0, xa1, xa2, xa3, xa4, xa5⟩ := load6 ka
  have fa := box_fr ka
  have HKb := hid kb
  obtain ⟨xb0, xb1, xb2, xb3, xb4, xb5⟩ := load6 kb
  have fb := box_fr kb
  simp only at xs0 xs1 xs2 xs3 xs4 xs5 xa0 xa1 xa2 xa3 xa4 xa5 xb0 xb1 xb2 xb3 xb4 xb5
  have HWW := hid hW
  simp only [set6] at HWW
  clear hW ks ka kb
  rw [HWW.out]
  clear HWW
  go_upto_region 7 with (go_at_call 21; (with_reducible refine (H4.out _).mono ?_); rintro _ wn ⟨vd, rfl, hm, hb⟩; have ks := (hb.block _ (box_lt HKs.out)).trans HKs.out; have ka := (hb.block _ (box_lt HKa.out)).trans HKa.out; have kb := (hb.block _ (box_lt HKb.out)).trans HKb.out; have HMvc := hid (HMvc.out.below (Nat.zero_le _) hb); have HB := hid (HB.out.trans (hb.mono HSN.out)); have HSN := hid (Nat.le_trans HSN.out hb.size); have HMvd := hid (hm.keep (Nat.zero_le _) (fun _ _ _ h => h)); clear hm; have HKs := hid ks; obtain ⟨xs0, xs1, xs2, xs3, xs4, xs5⟩ := load6 ks; have fs := box_fr ks; have HKa := hid ka; obtain ⟨xa0, xa1, xa2, xa3, xa4, xa5⟩ := load6 ka; have fa := box_fr ka; have HKb := hid kb; obtain ⟨xb0, xb1, xb2, xb3, xb4, xb5⟩ := load6 kb; have fb := box_fr kb; simp only at xs0 xs1 xs2 xs3 xs4 xs5 xa0 xa1 xa2 xa3 xa4 xa5 xb0 xb1 xb2 xb3 xb4 xb5; clear hb ks ka kb)
  obtain ⟨W4, hW⟩ : ∃ X, set6 wn gb ⟨p0, p1, p2, p3, p4, p5⟩ = X := ⟨_, rfl⟩
  have kb : W4.heap[gb]? = some (.cells (cS ⟨p0, p1, p2, p3, p4, p5⟩) 23) := by rw [← hW]; exact set6h ⟨p0, p1, p2, p3, p4, p5⟩ HKb.out
  have ks : W4.heap[gs]? = some (.cells (cS ⟨l, r, se, sn, sp, sd⟩) 23) := by rw [← hW]; exact keep6 HKs.out HNEsb.out _
  have ka : W4.heap[ga]? = some (.cells (cS ⟨p0, p1, p2, p3, p4, p5⟩) 23) := by rw [← hW]; exact keep6 HKa.out HNEab.out _
  have HMvc := hid (show MsgQ 0 W4 _ _ by rw [← hW]; exact HMvc.out.keepT (Nat.le_refl _) (keepT_set6 ⟨p0, p1, p2, p3, p4, p5⟩ HKb.out))
  have HMvd := hid (show MsgQ 0 W4 _ _ by rw [← hW]; exact HMvd.out.keepT (Nat.le_refl _) (keepT_set6 ⟨p0, p1, p2, p3, p4, p5⟩ HKb.out))
  have HB := hid (show Below g w W4 by rw [← hW]; exact set6b ⟨p0, p1, p2, p3, p4, p5⟩ HB.out HLEb.out)
  have HSN : Hid (g ≤ W4.heap.size) := hid (by have := HLEb.out; have := box_lt kb; omega)
  clear xs0 xs1 xs2 xs3 xs4 xs5 xa0 xa1 xa2 xa3 xa4 xa5 xb0 xb1 xb2 xb3 xb4 xb5 fs fa fb
  have HKs := hid ks
  obtain ⟨xs0, xs1, xs2, xs3, xs4, xs5⟩ := load6 ks
  have fs := box_fr ks
  have HKa := hid ka
  obtain ⟨xa0, xa1, xa2, xa3, xa4, xa5⟩ := load6 ka
  have fa := box_fr ka
  have HKb := hid kb
  obtain ⟨xb0, xb1, xb2, xb3, xb4, xb5⟩ := load6 kb
  have fb := box_fr kb
  simp only at xs0 xs1 xs2 xs3 xs4 xs5 xa0 xa1 xa2 xa3 xa4 xa5 xb0 xb1 xb2 xb3 xb4 xb5
  have HWW := hid hW
  simp only [set6] at HWW
  clear hW ks ka kb
  rw [HWW.out]
  clear HWW
  have tp0 : (p0 == p0) = true := beq_self_eq_true p0
  have tp1 : (p1 == p1) = true := beq_self_eq_true p1
  have tp2 : (p2 == p2) = true := beq_self_eq_true p2
  have tp3 : (p3 == p3) = true := beq_self_eq_true p3
  have tp4 : (p4 == p4) = true := beq_self_eq_true p4
  have tp5 : (p5 == p5) = true := beq_self_eq_true p5
  go_upto_region 9 with (go_at_call 19; (with_reducible refine (sameMessages_eq l2 _ _ _ HMvc.out HMvd.out).mono ?_); rintro _ wn ⟨rfl, hb⟩; have ks := (hb.block _ (box_lt HKs.out)).trans HKs.out; have ka := (hb.block _ (box_lt HKa.out)).trans HKa.out; have kb := (hb.block _ (box_lt HKb.out)).trans HKb.out; have HMvc := hid (HMvc.out.below (Nat.zero_le _) hb); have HMvd := hid (HMvd.out.below (Nat.zero_le _) hb); have HB := hid (HB.out.trans (hb.mono HSN.out)); have HSN := hid (Nat.le_trans HSN.out hb.size); have HKs := hid ks; obtain ⟨xs0, xs1, xs2, xs3, xs4, xs5⟩ := load6 ks; have fs := box_fr ks; have HKa := hid ka; obtain ⟨xa0, xa1, xa2, xa3, xa4, xa5⟩ := load6 ka; have fa := box_fr ka; have HKb := hid kb; obtain ⟨xb0, xb1, xb2, xb3, xb4, xb5⟩ := load6 kb; have fb := box_fr kb; simp only at xs0 xs1 xs2 xs3 xs4 xs5 xa0 xa1 xa2 xa3 xa4 xa5 xb0 xb1 xb2 xb3 xb4 xb5; clear hb ks ka kb)
  go_upto_region 10 with (go_at_call 22; (with_reducible refine (H5.out _).mono ?_); rintro _ wn ⟨ve, rfl, hm, hb⟩; have ks := (hb.block _ (box_lt HKs.out)).trans HKs.out; have ka := (hb.block _ (box_lt HKa.out)).trans HKa.out; have kb := (hb.block _ (box_lt HKb.out)).trans HKb.out; have HB := hid (HB.out.trans (hb.mono HSN.out)); have HSN := hid (Nat.le_trans HSN.out hb.size); have HMve := hid (hm.keep (Nat.zero_le _) (fun _ _ _ h => h)); clear hm; have HKs := hid ks; obtain ⟨xs0, xs1, xs2, xs3, xs4, xs5⟩ := load6 ks; have fs := box_fr ks; have HKa := hid ka; obtain ⟨xa0, xa1, xa2, xa3, xa4, xa5⟩ := load6 ka; have fa := box_fr ka; have HKb := hid kb; obtain ⟨xb0, xb1, xb2, xb3, xb4, xb5⟩ := load6 kb; have fb := box_fr kb; simp only at xs0 xs1 xs2 xs3 xs4 xs5 xa0 xa1 xa2 xa3 xa4 xa5 xb0 xb1 xb2 xb3 xb4 xb5; clear hb ks ka kb)
  obtain ⟨W5, hW⟩ : ∃ X, set6 wn ga ⟨q0, q1, q2, q3, q4, q5⟩ = X := ⟨_, rfl⟩
  have ka : W5.heap[ga]? = some (.cells (cS ⟨q0, q1, q2, q3, q4, q5⟩) 23) := by rw [← hW]; exact set6h ⟨q0, q1, q2, q3, q4, q5⟩ HKa.out
  have ks : W5.heap[gs]? = some (.cells (cS ⟨l, r, se, sn, sp, sd⟩) 23) := by rw [← hW]; exact keep6 HKs.out HNEsa.out _
  have kb : W5.heap[gb]? = some (.cells (cS ⟨p0, p1, p2, p3, p4, p5⟩) 23) := by rw [← hW]; exact keep6 HKb.out HNEab.out.symm _
  have HMve := hid (show MsgQ 0 W5 _ _ by rw [← hW]; exact HMve.out.keepT (Nat.le_refl _) (keepT_set6 ⟨q0, q1, q2, q3, q4, q5⟩ HKa.out))
  have HB := hid (show Below g w W5 by rw [← hW]; exact set6b ⟨q0, q1, q2, q3, q4, q5⟩ HB.out HLEa.out)
  have HSN : Hid (g ≤ W5.heap.size) := hid (by have := HLEa.out; have := box_lt ka; omega)
  clear xs0 xs1 xs2 xs3 xs4 xs5 xa0 xa1 xa2 xa3 xa4 xa5 xb0 xb1 xb2 xb3 xb4 xb5 fs fa fb
  have HKs := hid ks
  obtain ⟨xs0, xs1, xs2, xs3, xs4, xs5⟩ := load6 ks
  have fs := box_fr ks
  have HKa := hid ka
  obtain ⟨xa0, xa1, xa2, xa3, xa4, xa5⟩ := load6 ka
  have fa := box_fr ka
  have HKb := hid kb
  obtain ⟨xb0, xb1, xb2, xb3, xb4, xb5⟩ := load6 kb
  have fb := box_fr kb
  simp only at xs0 xs1 xs2 xs3 xs4 xs5 xa0 xa1 xa2 xa3 xa4 xa5 xb0 xb1 xb2 xb3 xb4 xb5
  have HWW := hid hW
  simp only [set6] at HWW
  clear hW ks ka kb
  rw [HWW.out]
  clear HWW
  go_upto_region 11 with (go_at_call 23; (with_reducible refine (H6.out _).mono ?_); rintro _ wn ⟨vf, rfl, hm, hb⟩; have ks := (hb.block _ (box_lt HKs.out)).trans HKs.out; have ka := (hb.block _ (box_lt HKa.out)).trans HKa.out; have kb := (hb.block _ (box_lt HKb.out)).trans HKb.out; have HMve := hid (HMve.out.below (Nat.zero_le _) hb); have HB := hid (HB.out.trans (hb.mono HSN.out)); have HSN := hid (Nat.le_trans HSN.out hb.size); have HMvf := hid (hm.keep (Nat.zero_le _) (fun _ _ _ h => h)); clear hm; have HKs := hid ks; obtain ⟨xs0, xs1, xs2, xs3, xs4, xs5⟩ := load6 ks; have fs := box_fr ks; have HKa := hid ka; obtain ⟨xa0, xa1, xa2, xa3, xa4, xa5⟩ := load6 ka; have fa := box_fr ka; have HKb := hid kb; obtain ⟨xb0, xb1, xb2, xb3, xb4, xb5⟩ := load6 kb; have fb := box_fr kb; simp only at xs0 xs1 xs2 xs3 xs4 xs5 xa0 xa1 xa2 xa3 xa4 xa5 xb0 xb1 xb2 xb3 xb4 xb5; clear hb ks ka kb)
  obtain ⟨W6, hW⟩ : ∃ X, set6 wn gb ⟨q0, q1, q2, q3, q4, q5⟩ = X := ⟨_, rfl⟩
  have kb : W6.heap[gb]? = some (.cells (cS ⟨q0, q1, q2, q3, q4, q5⟩) 23) := by rw [← hW]; exact set6h ⟨q0, q1, q2, q3, q4, q5⟩ HKb.out
  have ks : W6.heap[gs]? = some (.cells (cS ⟨l, r, se, sn, sp, sd⟩) 23) := by rw [← hW]; exact keep6 HKs.out HNEsb.out _
  have ka : W6.heap[ga]? = some (.cells (cS ⟨q0, q1, q2, q3, q4, q5⟩) 23) := by rw [← hW]; exact keep6 HKa.out HNEab.out _
  have HMve := hid (show MsgQ 0 W6 _ _ by rw [← hW]; exact HMve.out.keepT (Nat.le_refl _) (keepT_set6 ⟨q0, q1, q2, q3, q4, q5⟩ HKb.out))
  have HMvf := hid (show MsgQ 0 W6 _ _ by rw [← hW]; exact HMvf.out.keepT (Nat.le_refl _) (keepT_set6 ⟨q0, q1, q2, q3, q4, q5⟩ HKb.out))
  have HB := hid (show Below g w W6 by rw [← hW]; exact set6b ⟨q0, q1, q2, q3, q4, q5⟩ HB.out HLEb.out)
  have HSN : Hid (g ≤ W6.heap.size) := hid (by have := HLEb.out; have := box_lt kb; omega)
  clear xs0 xs1 xs2 xs3 xs4 xs5 xa0 xa1 xa2 xa3 xa4 xa5 xb0 xb1 xb2 xb3 xb4 xb5 fs fa fb
  have HKs := hid ks
  obtain ⟨xs0, xs1, xs2, xs3, xs4, xs5⟩ := load6 ks
  have fs := box_fr ks
  have HKa := hid ka
  obtain ⟨xa0, xa1, xa2, xa3, xa4, xa5⟩ := load6 ka
  have fa := box_fr ka
  have HKb := hid kb
  obtain ⟨xb0, xb1, xb2, xb3, xb4, xb5⟩ := load6 kb
  have fb := box_fr kb
  simp only at xs0 xs1 xs2 xs3 xs4 xs5 xa0 xa1 xa2 xa3 xa4 xa5 xb0 xb1 xb2 xb3 xb4 xb5
  have HWW := hid hW
  simp only [set6] at HWW
  clear hW ks ka kb
  rw [HWW.out]
  clear HWW
  have tq0 : (q0 == q0) = true := beq_self_eq_true q0
  have tq1 : (q1 == q1) = true := beq_self_eq_true q1
  have tq2 : (q2 == q2) = true := beq_self_eq_true q2
  have tq3 : (q3 == q3) = true := beq_self_eq_true q3
  have tq4 : (q4 == q4) = true := beq_self_eq_true q4
  have tq5 : (q5 == q5) = true := beq_self_eq_true q5
  go_wp2_with (first | (go_at_call 12; (with_reducible refine (awake_any _).mono ?_); rintro _ wn ⟨rfl, hb⟩; have ks := (hb.block _ (box_lt HKs.out)).trans HKs.out; have ka := (hb.block _ (box_lt HKa.out)).trans HKa.out; have kb := (hb.block _ (box_lt HKb.out)).trans HKb.out; have HMve := hid (HMve.out.below (Nat.zero_le _) hb); have HMvf := hid (HMvf.out.below (Nat.zero_le _) hb); have HB := hid (HB.out.trans (hb.mono HSN.out)); have HSN := hid (Nat.le_trans HSN.out hb.size); have HKs := hid ks; obtain ⟨xs0, xs1, xs2, xs3, xs4, xs5⟩ := load6 ks; have fs := box_fr ks; have HKa := hid ka; obtain ⟨xa0, xa1, xa2, xa3, xa4, xa5⟩ := load6 ka; have fa := box_fr ka; have HKb := hid kb; obtain ⟨xb0, xb1, xb2, xb3, xb4, xb5⟩ := load6 kb; have fb := box_fr kb; simp only at xs0 xs1 xs2 xs3 xs4 xs5 xa0 xa1 xa2 xa3 xa4 xa5 xb0 xb1 xb2 xb3 xb4 xb5; clear hb ks ka kb) | (go_at_call 19; (with_reducible refine (sameMessages_eq l3 _ _ _ HMve.out HMvf.out).mono ?_); rintro _ wn ⟨rfl, hb⟩; have ks := (hb.block _ (box_lt HKs.out)).trans HKs.out; have ka := (hb.block _ (box_lt HKa.out)).trans HKa.out; have kb := (hb.block _ (box_lt HKb.out)).trans HKb.out; have HMve := hid (HMve.out.below (Nat.zero_le _) hb); have HMvf := hid (HMvf.out.below (Nat.zero_le _) hb); have HB := hid (HB.out.trans (hb.mono HSN.out)); have HSN := hid (Nat.le_trans HSN.out hb.size); have HKs := hid ks; obtain ⟨xs0, xs1, xs2, xs3, xs4, xs5⟩ := load6 ks; have fs := box_fr ks; have HKa := hid ka; obtain ⟨xa0, xa1, xa2, xa3, xa4, xa5⟩ := load6 ka; have fa := box_fr ka; have HKb := hid kb; obtain ⟨xb0, xb1, xb2, xb3, xb4, xb5⟩ := load6 kb; have fb := box_fr kb; simp only at xs0 xs1 xs2 xs3 xs4 xs5 xa0 xa1 xa2 xa3 xa4 xa5 xb0 xb1 xb2 xb3 xb4 xb5; clear hb ks ka kb))
  go_ret
  exact ⟨rfl, by rw [HG.out]; exact HB.out⟩
end Go.Proofs.Ytkdladacmjkdoaa
