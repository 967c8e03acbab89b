/- The chapter's examples: awake. -/
import Derived.Test.YtkdladacmjkdoaaLb
namespace Go.Proofs.Ytkdladacmjkdoaa
open Go.RowKit Go.Lib
theorem aw_n1 (W : World) : Calls Try.prog 10 #[.int .i64 0, .int .i64 1, .int .i64 2, .int .i64 4] W fun f w' => f = .returned (.tuple #[.agg #[.int .i64 0, .int .i64 1, .int .i64 2, .int .i64 4, .int .i64 0, .int .i64 0], .int .i64 0]) ∧ Below W.heap.size W w' := by
  have h := new_any 0 1 2 4 W
  rw [show newR ⟨0, 1, 2, 4, 0, 0⟩ = ⟨0, 1, 2, 4, 0, 0⟩ by decide +kernel, show chk ⟨0, 1, 2, 4, 0, 0⟩ = 0 by decide +kernel] at h
  exact h
theorem aw_n2 (W : World) : Calls Try.prog 10 #[.int .i64 1, .int .i64 0, .int .i64 2, .int .i64 6] W fun f w' => f = .returned (.tuple #[.agg #[.int .i64 1, .int .i64 0, .int .i64 2, .int .i64 6, .int .i64 0, .int .i64 0], .int .i64 0]) ∧ Below W.heap.size W w' := by
  have h := new_any 1 0 2 6 W
  rw [show newR ⟨1, 0, 2, 6, 0, 0⟩ = ⟨1, 0, 2, 6, 0, 0⟩ by decide +kernel, show chk ⟨1, 0, 2, 6, 0, 0⟩ = 0 by decide +kernel] at h
  exact h
theorem aw_i1 (W : World) : Calls Try.prog 17 #[.agg #[.int .i64 0, .int .i64 1, .int .i64 2, .int .i64 4, .int .i64 0, .int .i64 0], .int .i64 0, .int .i64 9] W fun f w' => ∃ v, f = .returned (.tuple #[.agg #[.int .i64 0, .int .i64 1, .int .i64 2, .int .i64 5, .int .i64 1, .int .i64 9], v, .int .i64 0]) ∧ MsgT w' v [⟨5, 0, 1, 5, 2⟩] ∧ Below W.heap.size W w' := by
  have h := dial_any ⟨0, 1, 2, 4, 0, 0⟩ 0 9 W
  rw [show dialR ⟨0, 1, 2, 4, 0, 0⟩ 0 9 = (⟨0, 1, 2, 5, 1, 9⟩, [⟨5, 0, 1, 5, 2⟩], 0) by decide +kernel] at h
  refine h.mono ?_
  rintro e w' ⟨v, rfl, hm, hb⟩
  exact ⟨v, rfl, hm.toT, hb⟩
theorem aw_i2 (W : World) : Calls Try.prog 17 #[.agg #[.int .i64 0, .int .i64 1, .int .i64 2, .int .i64 6, .int .i64 0, .int .i64 0], .int .i64 1, .int .i64 9] W fun f w' => ∃ v, f = .returned (.tuple #[.agg #[.int .i64 0, .int .i64 1, .int .i64 2, .int .i64 7, .int .i64 1, .int .i64 10], v, .int .i64 0]) ∧ MsgT w' v [⟨5, 0, 1, 7, 2⟩] ∧ Below W.heap.size W w' := by
  have h := dial_any ⟨0, 1, 2, 6, 0, 0⟩ 1 9 W
  rw [show dialR ⟨0, 1, 2, 6, 0, 0⟩ 1 9 = (⟨0, 1, 2, 7, 1, 10⟩, [⟨5, 0, 1, 7, 2⟩], 0) by decide +kernel] at h
  refine h.mono ?_
  rintro e w' ⟨v, rfl, hm, hb⟩
  exact ⟨v, rfl, hm.toT, hb⟩
theorem aw_d1 (v : Value) (W : World) (hm : MsgT W v [⟨5, 0, 1, 5, 2⟩]) : Calls Try.prog 28 #[.agg #[.int .i64 1, .int .i64 0, .int .i64 2, .int .i64 6, .int .i64 0, .int .i64 0], v] W fun f w' => ∃ v', f = .returned (.tuple #[.agg #[.int .i64 1, .int .i64 0, .int .i64 2, .int .i64 6, .int .i64 0, .int .i64 0], v']) ∧ MsgT w' v' [⟨7, 1, 0, 6, 2⟩] ∧ Below W.heap.size W w' := by
  have h := deliver_any ⟨1, 0, 2, 6, 0, 0⟩ [⟨5, 0, 1, 5, 2⟩] v W hm
  rw [show dlv ⟨1, 0, 2, 6, 0, 0⟩ [⟨5, 0, 1, 5, 2⟩] = (⟨1, 0, 2, 6, 0, 0⟩, [⟨7, 1, 0, 6, 2⟩]) by decide +kernel] at h
  exact h
theorem aw_d2 (v : Value) (W : World) (hm : MsgT W v [⟨7, 1, 0, 6, 2⟩]) : Calls Try.prog 28 #[.agg #[.int .i64 0, .int .i64 1, .int .i64 2, .int .i64 5, .int .i64 1, .int .i64 9], v] W fun f w' => ∃ v', f = .returned (.tuple #[.agg #[.int .i64 0, .int .i64 1, .int .i64 2, .int .i64 6, .int .i64 0, .int .i64 0], v']) ∧ MsgT w' v' [] ∧ Below W.heap.size W w' := by
  have h := deliver_any ⟨0, 1, 2, 5, 1, 9⟩ [⟨7, 1, 0, 6, 2⟩] v W hm
  rw [show dlv ⟨0, 1, 2, 5, 1, 9⟩ [⟨7, 1, 0, 6, 2⟩] = (⟨0, 1, 2, 6, 0, 0⟩, []) by decide +kernel] at h
  exact h
theorem aw_d3 (v : Value) (W : World) (hm : MsgT W v [⟨5, 0, 1, 7, 2⟩]) : Calls Try.prog 28 #[.agg #[.int .i64 1, .int .i64 0, .int .i64 2, .int .i64 6, .int .i64 0, .int .i64 0], v] W fun f w' => ∃ v', f = .returned (.tuple #[.agg #[.int .i64 1, .int .i64 0, .int .i64 2, .int .i64 7, .int .i64 2, .int .i64 0], v']) ∧ MsgT w' v' [⟨6, 1, 0, 7, 2⟩] ∧ Below W.heap.size W w' := by
  have h := deliver_any ⟨1, 0, 2, 6, 0, 0⟩ [⟨5, 0, 1, 7, 2⟩] v W hm
  rw [show dlv ⟨1, 0, 2, 6, 0, 0⟩ [⟨5, 0, 1, 7, 2⟩] = (⟨1, 0, 2, 7, 2, 0⟩, [⟨6, 1, 0, 7, 2⟩]) by decide +kernel] at h
  exact h
theorem aw_d4 (v : Value) (W : World) (hm : MsgT W v [⟨6, 1, 0, 7, 2⟩]) : Calls Try.prog 28 #[.agg #[.int .i64 0, .int .i64 1, .int .i64 2, .int .i64 7, .int .i64 1, .int .i64 10], v] W fun f w' => ∃ v', f = .returned (.tuple #[.agg #[.int .i64 0, .int .i64 1, .int .i64 2, .int .i64 7, .int .i64 2, .int .i64 0], v']) ∧ MsgT w' v' [] ∧ Below W.heap.size W w' := by
  have h := deliver_any ⟨0, 1, 2, 7, 1, 10⟩ [⟨6, 1, 0, 7, 2⟩] v W hm
  rw [show dlv ⟨0, 1, 2, 7, 1, 10⟩ [⟨6, 1, 0, 7, 2⟩] = (⟨0, 1, 2, 7, 2, 0⟩, []) by decide +kernel] at h
  exact h
theorem aw_d5 (v : Value) (W : World) (hm : MsgT W v [⟨5, 0, 1, 5, 2⟩]) : Calls Try.prog 28 #[.agg #[.int .i64 1, .int .i64 0, .int .i64 2, .int .i64 7, .int .i64 2, .int .i64 0], v] W fun f w' => ∃ v', f = .returned (.tuple #[.agg #[.int .i64 1, .int .i64 0, .int .i64 2, .int .i64 7, .int .i64 2, .int .i64 0], v']) ∧ MsgT w' v' [] ∧ Below W.heap.size W w' := by
  have h := deliver_any ⟨1, 0, 2, 7, 2, 0⟩ [⟨5, 0, 1, 5, 2⟩] v W hm
  rw [show dlv ⟨1, 0, 2, 7, 2, 0⟩ [⟨5, 0, 1, 5, 2⟩] = (⟨1, 0, 2, 7, 2, 0⟩, []) by decide +kernel] at h
  exact h
set_option maxHeartbeats 8000000 in
set_option maxRecDepth 100000 in
theorem awake_any (w : World) : Calls Try.prog 12 #[] w fun f w' => f = .returned (.bool true) ∧ Below w.heap.size w w' := by
  obtain ⟨g, hg⟩ : ∃ g, w.heap.size = g := ⟨_, rfl⟩
  have HB := hid (Below.refl g w)
  have HG := hid hg
  have HSN := hid (show g ≤ w.heap.size by rw [hg]; exact Nat.le_refl _)
  clear hg
  go_enter Try.func12, Try.ntmps12
  go_upto_region 1 with fail
  go_upto_region 2 with (go_at_call 10; (with_reducible refine (aw_n1 _).mono ?_); rintro _ wn ⟨rfl, hb⟩; have HB := hid (HB.out.trans (hb.mono HSN.out)); have HSN := hid (Nat.le_trans HSN.out hb.size); clear hb)
  obtain ⟨ga, hga⟩ : ∃ h, wn.heap.size = h := ⟨_, rfl⟩
  obtain ⟨W1, hW⟩ : ∃ X, wn.alloc (.cells (cS ⟨0, 1, 2, 4, 0, 0⟩) 23) = X := ⟨_, rfl⟩
  have ka : W1.heap[ga]? = some (.cells (cS ⟨0, 1, 2, 4, 0, 0⟩) 23) := by rw [← hW, ← hga]; exact heap_alloc_new _ _
  have HLEa : Hid (g ≤ ga) := hid (by rw [← hga]; exact HSN.out)
  have HB := hid (show Below g w W1 by rw [← hW]; exact HB.out.alloc HSN.out _)
  have HSN : Hid (g ≤ W1.heap.size) := hid (by have := HLEa.out; have := box_lt ka; omega)
  have HKa := hid ka
  obtain ⟨xa0, xa1, xa2, xa3, xa4, xa5⟩ := load6 ka
  have fa := box_fr ka
  simp only at xa0 xa1 xa2 xa3 xa4 xa5
  have HWW := hid hW
  have HGa := hid hga
  simp only [cS] at HWW
  clear hW hga ka
  rw [HGa.out, HWW.out]
  clear HWW
  go_upto_region 3 with (go_at_call 10; (with_reducible refine (aw_n2 _).mono ?_); rintro _ wn ⟨rfl, hb⟩; have ka := (hb.block _ (box_lt HKa.out)).trans HKa.out; have HB := hid (HB.out.trans (hb.mono HSN.out)); have HSN := hid (Nat.le_trans HSN.out hb.size); have HKa := hid ka; obtain ⟨xa0, xa1, xa2, xa3, xa4, xa5⟩ := load6 ka; have fa := box_fr ka; simp only at xa0 xa1 xa2 xa3 xa4 xa5; clear hb ka)
  obtain ⟨gb, hgb⟩ : ∃ h, wn.heap.size = h := ⟨_, rfl⟩
  obtain ⟨W2, hW⟩ : ∃ X, wn.alloc (.cells (cS ⟨1, 0, 2, 6, 0, 0⟩) 23) = X := ⟨_, rfl⟩
  have kb : W2.heap[gb]? = some (.cells (cS ⟨1, 0, 2, 6, 0, 0⟩) 23) := by rw [← hW, ← hgb]; exact heap_alloc_new _ _
  have HLEb : Hid (g ≤ gb) := hid (by rw [← hgb]; exact HSN.out)
  have ka : W2.heap[ga]? = some (.cells (cS ⟨0, 1, 2, 4, 0, 0⟩) 23) := by rw [← hW]; exact (Below.heap_alloc _ _ _ (box_lt HKa.out)).trans HKa.out
  have HNEab : Hid (ga ≠ gb) := hid (by have := box_lt HKa.out; omega)
  have HB := hid (show Below g w W2 by rw [← hW]; exact HB.out.alloc HSN.out _)
  have HSN : Hid (g ≤ W2.heap.size) := hid (by have := HLEb.out; have := box_lt kb; omega)
  clear xa0 xa1 xa2 xa3 xa4 xa5 fa
  have HKa := hid ka
  obtain ⟨xa0, xa1, xa2, xa3, xa4, xa5⟩ := load6 ka
  have fa := box_fr ka
  have HKb := hid kb
  obtain ⟨xb0, xb1, xb2, xb3, xb4, xb5⟩ := load6 kb
  have fb := box_fr kb
  simp only at xa0 xa1 xa2 xa3 xa4 xa5 xb0 xb1 xb2 xb3 xb4 xb5
  have HWW := hid hW
  have HGb := hid hgb
  simp only [cS] at HWW
  clear hW hgb ka kb
  rw [HGb.out, HWW.out]
  clear HWW
  go_upto_region 4 with (go_at_call 17; (with_reducible refine (aw_i1 _).mono ?_); rintro _ wn ⟨vo, rfl, hm, hb⟩; have ka := (hb.block _ (box_lt HKa.out)).trans HKa.out; have kb := (hb.block _ (box_lt HKb.out)).trans HKb.out; have HB := hid (HB.out.trans (hb.mono HSN.out)); have HSN := hid (Nat.le_trans HSN.out hb.size); have HMo := hid hm; clear hm; have HKa := hid ka; obtain ⟨xa0, xa1, xa2, xa3, xa4, xa5⟩ := load6 ka; have fa := box_fr ka; have HKb := hid kb; obtain ⟨xb0, xb1, xb2, xb3, xb4, xb5⟩ := load6 kb; have fb := box_fr kb; simp only at xa0 xa1 xa2 xa3 xa4 xa5 xb0 xb1 xb2 xb3 xb4 xb5; clear hb ka kb)
  obtain ⟨W3, hW⟩ : ∃ X, set6 wn ga ⟨0, 1, 2, 5, 1, 9⟩ = X := ⟨_, rfl⟩
  have ka : W3.heap[ga]? = some (.cells (cS ⟨0, 1, 2, 5, 1, 9⟩) 23) := by rw [← hW]; exact set6h ⟨0, 1, 2, 5, 1, 9⟩ HKa.out
  have kb : W3.heap[gb]? = some (.cells (cS ⟨1, 0, 2, 6, 0, 0⟩) 23) := by rw [← hW]; exact keep6 HKb.out HNEab.out.symm _
  have HMo := hid (show MsgT W3 _ _ by rw [← hW]; exact HMo.out.keep (keepT_set6 ⟨0, 1, 2, 5, 1, 9⟩ HKa.out))
  have HB := hid (show Below g w W3 by rw [← hW]; exact set6b ⟨0, 1, 2, 5, 1, 9⟩ HB.out HLEa.out)
  have HSN : Hid (g ≤ W3.heap.size) := hid (by have := HLEa.out; have := box_lt ka; omega)
  clear xa0 xa1 xa2 xa3 xa4 xa5 xb0 xb1 xb2 xb3 xb4 xb5 fa fb
  have HKa := hid ka
  obtain ⟨xa0, xa1, xa2, xa3, xa4, xa5⟩ := load6 ka
  have fa := box_fr ka
  have HKb := hid kb
  obtain ⟨xb0, xb1, xb2, xb3, xb4, xb5⟩ := load6 kb
  have fb := box_fr kb
  simp only at xa0 xa1 xa2 xa3 xa4 xa5 xb0 xb1 xb2 xb3 xb4 xb5
  have HWW := hid hW
  simp only [set6] at HWW
  clear hW ka kb
  rw [HWW.out]
  clear HWW
  go_upto_region 6 with (go_at_call 28; (with_reducible refine (aw_d1 _ _ HMo.out).mono ?_); rintro _ wn ⟨vm, rfl, hm, hb⟩; have ka := (hb.block _ (box_lt HKa.out)).trans HKa.out; have kb := (hb.block _ (box_lt HKb.out)).trans HKb.out; have HMo := hid (HMo.out.below hb); have HB := hid (HB.out.trans (hb.mono HSN.out)); have HSN := hid (Nat.le_trans HSN.out hb.size); have HMm := hid hm; clear hm; have HKa := hid ka; obtain ⟨xa0, xa1, xa2, xa3, xa4, xa5⟩ := load6 ka; have fa := box_fr ka; have HKb := hid kb; obtain ⟨xb0, xb1, xb2, xb3, xb4, xb5⟩ := load6 kb; have fb := box_fr kb; simp only at xa0 xa1 xa2 xa3 xa4 xa5 xb0 xb1 xb2 xb3 xb4 xb5; clear hb ka kb)
  obtain ⟨W4, hW⟩ : ∃ X, set6 wn gb ⟨1, 0, 2, 6, 0, 0⟩ = X := ⟨_, rfl⟩
  have kb : W4.heap[gb]? = some (.cells (cS ⟨1, 0, 2, 6, 0, 0⟩) 23) := by rw [← hW]; exact set6h ⟨1, 0, 2, 6, 0, 0⟩ HKb.out
  have ka : W4.heap[ga]? = some (.cells (cS ⟨0, 1, 2, 5, 1, 9⟩) 23) := by rw [← hW]; exact keep6 HKa.out HNEab.out _
  have HMo := hid (show MsgT W4 _ _ by rw [← hW]; exact HMo.out.keep (keepT_set6 ⟨1, 0, 2, 6, 0, 0⟩ HKb.out))
  have HMm := hid (show MsgT W4 _ _ by rw [← hW]; exact HMm.out.keep (keepT_set6 ⟨1, 0, 2, 6, 0, 0⟩ HKb.out))
  have HB := hid (show Below g w W4 by rw [← hW]; exact set6b ⟨1, 0, 2, 6, 0, 0⟩ HB.out HLEb.out)
  have HSN : Hid (g ≤ W4.heap.size) := hid (by have := HLEb.out; have := box_lt kb; omega)
  clear xa0 xa1 xa2 xa3 xa4 xa5 xb0 xb1 xb2 xb3 xb4 xb5 fa fb
  have HKa := hid ka
  obtain ⟨xa0, xa1, xa2, xa3, xa4, xa5⟩ := load6 ka
  have fa := box_fr ka
  have HKb := hid kb
  obtain ⟨xb0, xb1, xb2, xb3, xb4, xb5⟩ := load6 kb
  have fb := box_fr kb
  simp only at xa0 xa1 xa2 xa3 xa4 xa5 xb0 xb1 xb2 xb3 xb4 xb5
  have HWW := hid hW
  simp only [set6] at HWW
  clear hW ka kb
  rw [HWW.out]
  clear HWW
  obtain ⟨bm, cm, rfl, hmc⟩ : ∃ b c, vm = .slice (some ⟨b, 0, none⟩) 1 c ∧ (W4.cell? ⟨b, 0, none⟩ = some (.int .i64 7) ∧ W4.cell? ⟨b, 3, none⟩ = some (.int .i64 6)) := by
    rcases HMm.out with ⟨_, _, _, h⟩ | ⟨b, m, c, cs, h1, h2, h3, h4⟩
    · cases h
    · injection h2 with h2 _
      have hc := msg_cells h3 h4
      rw [← h2] at hc
      exact ⟨b, c, h1, hc.1, hc.2.2.2.1⟩
  obtain ⟨mc0, mc3⟩ := hmc
  go_upto_region 8 with fail
  clear mc0 mc3
  go_upto_region 9 with (go_at_call 28; (with_reducible refine (aw_d2 _ _ HMm.out).mono ?_); rintro _ wn ⟨vx, rfl, hm, hb⟩; have ka := (hb.block _ (box_lt HKa.out)).trans HKa.out; have kb := (hb.block _ (box_lt HKb.out)).trans HKb.out; have HMo := hid (HMo.out.below hb); have HMm := hid (HMm.out.below hb); have HB := hid (HB.out.trans (hb.mono HSN.out)); have HSN := hid (Nat.le_trans HSN.out hb.size); clear hm; have HKa := hid ka; obtain ⟨xa0, xa1, xa2, xa3, xa4, xa5⟩ := load6 ka; have fa := box_fr ka; have HKb := hid kb; obtain ⟨xb0, xb1, xb2, xb3, xb4, xb5⟩ := load6 kb; have fb := box_fr kb; simp only at xa0 xa1 xa2 xa3 xa4 xa5 xb0 xb1 xb2 xb3 xb4 xb5; clear hb ka kb)
  obtain ⟨W5, hW⟩ : ∃ X, set6 wn ga ⟨0, 1, 2, 6, 0, 0⟩ = X := ⟨_, rfl⟩
  have ka : W5.heap[ga]? = some (.cells (cS ⟨0, 1, 2, 6, 0, 0⟩) 23) := by rw [← hW]; exact set6h ⟨0, 1, 2, 6, 0, 0⟩ HKa.out
  have kb : W5.heap[gb]? = some (.cells (cS ⟨1, 0, 2, 6, 0, 0⟩) 23) := by rw [← hW]; exact keep6 HKb.out HNEab.out.symm _
  have HMo := hid (show MsgT W5 _ _ by rw [← hW]; exact HMo.out.keep (keepT_set6 ⟨0, 1, 2, 6, 0, 0⟩ HKa.out))
  have HB := hid (show Below g w W5 by rw [← hW]; exact set6b ⟨0, 1, 2, 6, 0, 0⟩ HB.out HLEa.out)
  have HSN : Hid (g ≤ W5.heap.size) := hid (by have := HLEa.out; have := box_lt ka; omega)
  clear xa0 xa1 xa2 xa3 xa4 xa5 xb0 xb1 xb2 xb3 xb4 xb5 fa fb
  have HKa := hid ka
  obtain ⟨xa0, xa1, xa2, xa3, xa4, xa5⟩ := load6 ka
  have fa := box_fr ka
  have HKb := hid kb
  obtain ⟨xb0, xb1, xb2, xb3, xb4, xb5⟩ := load6 kb
  have fb := box_fr kb
  simp only at xa0 xa1 xa2 xa3 xa4 xa5 xb0 xb1 xb2 xb3 xb4 xb5
  have HWW := hid hW
  simp only [set6] at HWW
  clear hW ka kb
  rw [HWW.out]
  clear HWW
  go_upto_region 11 with fail
  go_upto_region 12 with (go_at_call 17; (with_reducible refine (aw_i2 _).mono ?_); rintro _ wn ⟨vn, rfl, hm, hb⟩; have ka := (hb.block _ (box_lt HKa.out)).trans HKa.out; have kb := (hb.block _ (box_lt HKb.out)).trans HKb.out; have HMo := hid (HMo.out.below hb); have HB := hid (HB.out.trans (hb.mono HSN.out)); have HSN := hid (Nat.le_trans HSN.out hb.size); have HMn := hid hm; clear hm; have HKa := hid ka; obtain ⟨xa0, xa1, xa2, xa3, xa4, xa5⟩ := load6 ka; have fa := box_fr ka; have HKb := hid kb; obtain ⟨xb0, xb1, xb2, xb3, xb4, xb5⟩ := load6 kb; have fb := box_fr kb; simp only at xa0 xa1 xa2 xa3 xa4 xa5 xb0 xb1 xb2 xb3 xb4 xb5; clear hb ka kb)
  obtain ⟨W6, hW⟩ : ∃ X, set6 wn ga ⟨0, 1, 2, 7, 1, 10⟩ = X := ⟨_, rfl⟩
  have ka : W6.heap[ga]? = some (.cells (cS ⟨0, 1, 2, 7, 1, 10⟩) 23) := by rw [← hW]; exact set6h ⟨0, 1, 2, 7, 1, 10⟩ HKa.out
  have kb : W6.heap[gb]? = some (.cells (cS ⟨1, 0, 2, 6, 0, 0⟩) 23) := by rw [← hW]; exact keep6 HKb.out HNEab.out.symm _
  have HMo := hid (show MsgT W6 _ _ by rw [← hW]; exact HMo.out.keep (keepT_set6 ⟨0, 1, 2, 7, 1, 10⟩ HKa.out))
  have HMn := hid (show MsgT W6 _ _ by rw [← hW]; exact HMn.out.keep (keepT_set6 ⟨0, 1, 2, 7, 1, 10⟩ HKa.out))
  have HB := hid (show Below g w W6 by rw [← hW]; exact set6b ⟨0, 1, 2, 7, 1, 10⟩ HB.out HLEa.out)
  have HSN : Hid (g ≤ W6.heap.size) := hid (by have := HLEa.out; have := box_lt ka; omega)
  clear xa0 xa1 xa2 xa3 xa4 xa5 xb0 xb1 xb2 xb3 xb4 xb5 fa fb
  have HKa := hid ka
  obtain ⟨xa0, xa1, xa2, xa3, xa4, xa5⟩ := load6 ka
  have fa := box_fr ka
  have HKb := hid kb
  obtain ⟨xb0, xb1, xb2, xb3, xb4, xb5⟩ := load6 kb
  have fb := box_fr kb
  simp only at xa0 xa1 xa2 xa3 xa4 xa5 xb0 xb1 xb2 xb3 xb4 xb5
  have HWW := hid hW
  simp only [set6] at HWW
  clear hW ka kb
  rw [HWW.out]
  clear HWW
  go_upto_region 13 with (go_at_call 28; (with_reducible refine (aw_d3 _ _ HMn.out).mono ?_); rintro _ wn ⟨vp, rfl, hm, hb⟩; have ka := (hb.block _ (box_lt HKa.out)).trans HKa.out; have kb := (hb.block _ (box_lt HKb.out)).trans HKb.out; have HMo := hid (HMo.out.below hb); have HMn := hid (HMn.out.below hb); have HB := hid (HB.out.trans (hb.mono HSN.out)); have HSN := hid (Nat.le_trans HSN.out hb.size); have HMp := hid hm; clear hm; have HKa := hid ka; obtain ⟨xa0, xa1, xa2, xa3, xa4, xa5⟩ := load6 ka; have fa := box_fr ka; have HKb := hid kb; obtain ⟨xb0, xb1, xb2, xb3, xb4, xb5⟩ := load6 kb; have fb := box_fr kb; simp only at xa0 xa1 xa2 xa3 xa4 xa5 xb0 xb1 xb2 xb3 xb4 xb5; clear hb ka kb)
  obtain ⟨W7, hW⟩ : ∃ X, set6 wn gb ⟨1, 0, 2, 7, 2, 0⟩ = X := ⟨_, rfl⟩
  have kb : W7.heap[gb]? = some (.cells (cS ⟨1, 0, 2, 7, 2, 0⟩) 23) := by rw [← hW]; exact set6h ⟨1, 0, 2, 7, 2, 0⟩ HKb.out
  have ka : W7.heap[ga]? = some (.cells (cS ⟨0, 1, 2, 7, 1, 10⟩) 23) := by rw [← hW]; exact keep6 HKa.out HNEab.out _
  have HMo := hid (show MsgT W7 _ _ by rw [← hW]; exact HMo.out.keep (keepT_set6 ⟨1, 0, 2, 7, 2, 0⟩ HKb.out))
  have HMp := hid (show MsgT W7 _ _ by rw [← hW]; exact HMp.out.keep (keepT_set6 ⟨1, 0, 2, 7, 2, 0⟩ HKb.out))
  have HB := hid (show Below g w W7 by rw [← hW]; exact set6b ⟨1, 0, 2, 7, 2, 0⟩ HB.out HLEb.out)
  have HSN : Hid (g ≤ W7.heap.size) := hid (by have := HLEb.out; have := box_lt kb; omega)
  clear xa0 xa1 xa2 xa3 xa4 xa5 xb0 xb1 xb2 xb3 xb4 xb5 fa fb
  have HKa := hid ka
  obtain ⟨xa0, xa1, xa2, xa3, xa4, xa5⟩ := load6 ka
  have fa := box_fr ka
  have HKb := hid kb
  obtain ⟨xb0, xb1, xb2, xb3, xb4, xb5⟩ := load6 kb
  have fb := box_fr kb
  simp only at xa0 xa1 xa2 xa3 xa4 xa5 xb0 xb1 xb2 xb3 xb4 xb5
  have HWW := hid hW
  simp only [set6] at HWW
  clear hW ka kb
  rw [HWW.out]
  clear HWW
  go_upto_region 14 with (go_at_call 28; (with_reducible refine (aw_d4 _ _ HMp.out).mono ?_); rintro _ wn ⟨vy, rfl, hm, hb⟩; have ka := (hb.block _ (box_lt HKa.out)).trans HKa.out; have kb := (hb.block _ (box_lt HKb.out)).trans HKb.out; have HMo := hid (HMo.out.below hb); have HMp := hid (HMp.out.below hb); have HB := hid (HB.out.trans (hb.mono HSN.out)); have HSN := hid (Nat.le_trans HSN.out hb.size); clear hm; have HKa := hid ka; obtain ⟨xa0, xa1, xa2, xa3, xa4, xa5⟩ := load6 ka; have fa := box_fr ka; have HKb := hid kb; obtain ⟨xb0, xb1, xb2, xb3, xb4, xb5⟩ := load6 kb; have fb := box_fr kb; simp only at xa0 xa1 xa2 xa3 xa4 xa5 xb0 xb1 xb2 xb3 xb4 xb5; clear hb ka kb)
  obtain ⟨W8, hW⟩ : ∃ X, set6 wn ga ⟨0, 1, 2, 7, 2, 0⟩ = X := ⟨_, rfl⟩
  have ka : W8.heap[ga]? = some (.cells (cS ⟨0, 1, 2, 7, 2, 0⟩) 23) := by rw [← hW]; exact set6h ⟨0, 1, 2, 7, 2, 0⟩ HKa.out
  have kb : W8.heap[gb]? = some (.cells (cS ⟨1, 0, 2, 7, 2, 0⟩) 23) := by rw [← hW]; exact keep6 HKb.out HNEab.out.symm _
  have HMo := hid (show MsgT W8 _ _ by rw [← hW]; exact HMo.out.keep (keepT_set6 ⟨0, 1, 2, 7, 2, 0⟩ HKa.out))
  have HB := hid (show Below g w W8 by rw [← hW]; exact set6b ⟨0, 1, 2, 7, 2, 0⟩ HB.out HLEa.out)
  have HSN : Hid (g ≤ W8.heap.size) := hid (by have := HLEa.out; have := box_lt ka; omega)
  clear xa0 xa1 xa2 xa3 xa4 xa5 xb0 xb1 xb2 xb3 xb4 xb5 fa fb
  have HKa := hid ka
  obtain ⟨xa0, xa1, xa2, xa3, xa4, xa5⟩ := load6 ka
  have fa := box_fr ka
  have HKb := hid kb
  obtain ⟨xb0, xb1, xb2, xb3, xb4, xb5⟩ := load6 kb
  have fb := box_fr kb
  simp only at xa0 xa1 xa2 xa3 xa4 xa5 xb0 xb1 xb2 xb3 xb4 xb5
  have HWW := hid hW
  simp only [set6] at HWW
  clear hW ka kb
  rw [HWW.out]
  clear HWW
  go_upto_region 15 with (go_at_call 28; (with_reducible refine (aw_d5 _ _ HMo.out).mono ?_); rintro _ wn ⟨vz, rfl, hm, hb⟩; have ka := (hb.block _ (box_lt HKa.out)).trans HKa.out; have kb := (hb.block _ (box_lt HKb.out)).trans HKb.out; have HMo := hid (HMo.out.below hb); have HB := hid (HB.out.trans (hb.mono HSN.out)); have HSN := hid (Nat.le_trans HSN.out hb.size); have HMz := hid hm; clear hm; have HKa := hid ka; obtain ⟨xa0, xa1, xa2, xa3, xa4, xa5⟩ := load6 ka; have fa := box_fr ka; have HKb := hid kb; obtain ⟨xb0, xb1, xb2, xb3, xb4, xb5⟩ := load6 kb; have fb := box_fr kb; simp only at xa0 xa1 xa2 xa3 xa4 xa5 xb0 xb1 xb2 xb3 xb4 xb5; clear hb ka kb)
  obtain ⟨gc, hgc⟩ : ∃ h, wn.heap.size = h := ⟨_, rfl⟩
  obtain ⟨W9, hW⟩ : ∃ X, wn.alloc (.cells (cS ⟨1, 0, 2, 7, 2, 0⟩) 23) = X := ⟨_, rfl⟩
  have kc : W9.heap[gc]? = some (.cells (cS ⟨1, 0, 2, 7, 2, 0⟩) 23) := by rw [← hW, ← hgc]; exact heap_alloc_new _ _
  have HLEc : Hid (g ≤ gc) := hid (by rw [← hgc]; exact HSN.out)
  have ka : W9.heap[ga]? = some (.cells (cS ⟨0, 1, 2, 7, 2, 0⟩) 23) := by rw [← hW]; exact (Below.heap_alloc _ _ _ (box_lt HKa.out)).trans HKa.out
  have HNEac : Hid (ga ≠ gc) := hid (by have := box_lt HKa.out; omega)
  have kb : W9.heap[gb]? = some (.cells (cS ⟨1, 0, 2, 7, 2, 0⟩) 23) := by rw [← hW]; exact (Below.heap_alloc _ _ _ (box_lt HKb.out)).trans HKb.out
  have HNEbc : Hid (gb ≠ gc) := hid (by have := box_lt HKb.out; omega)
  have HMo := hid (show MsgT W9 _ _ by rw [← hW]; exact HMo.out.below (al1 _ _))
  have HMz := hid (show MsgT W9 _ _ by rw [← hW]; exact HMz.out.below (al1 _ _))
  have HB := hid (show Below g w W9 by rw [← hW]; exact HB.out.alloc HSN.out _)
  have HSN : Hid (g ≤ W9.heap.size) := hid (by have := HLEc.out; have := box_lt kc; omega)
  clear xa0 xa1 xa2 xa3 xa4 xa5 xb0 xb1 xb2 xb3 xb4 xb5 fa fb
  have HKa := hid ka
  obtain ⟨xa0, xa1, xa2, xa3, xa4, xa5⟩ := load6 ka
  have fa := box_fr ka
  have HKb := hid kb
  obtain ⟨xb0, xb1, xb2, xb3, xb4, xb5⟩ := load6 kb
  have fb := box_fr kb
  have HKc := hid kc
  obtain ⟨xc0, xc1, xc2, xc3, xc4, xc5⟩ := load6 kc
  have fc := box_fr kc
  simp only at xa0 xa1 xa2 xa3 xa4 xa5 xb0 xb1 xb2 xb3 xb4 xb5 xc0 xc1 xc2 xc3 xc4 xc5
  have HWW := hid hW
  have HGc := hid hgc
  simp only [cS] at HWW
  clear hW hgc ka kb kc
  rw [HGc.out, HWW.out]
  clear HWW
  obtain ⟨Az, cz, rfl⟩ : ∃ A c, vz = .slice A 0 c := by
    rcases HMz.out with ⟨A, c, h, _⟩ | ⟨b, m, c, cs, h1, h2, h3, h4⟩
    · exact ⟨A, c, h⟩
    · cases h2
  go_wp2_with fail
  go_ret
  exact ⟨rfl, by rw [HG.out]; exact HB.out⟩
end Go.Proofs.Ytkdladacmjkdoaa
