/- The chapter's examples: awake. -/
import Derived.Test.YtlbcidgmdfcamaaG
namespace Go.Proofs.Ytlbcidgmdfcamaa
open Go.RowKit Go.Lib
theorem aw1 (W : World) : Calls Try.prog 10 #[.agg #[.int .i64 0, .int .i64 0, .int .i64 0, .int .i64 0], .int .i64 10] W fun f w' => f = .returned (.tuple #[.agg #[.int .i64 1, .int .i64 80, .int .i64 20, .int .i64 0], .int .i64 0]) ∧ Below W.heap.size W w' := by
  have h := sample_any ⟨0, 0, 0, 0⟩ 10 W
  rw [show smp ⟨0, 0, 0, 0⟩ 10 = (⟨1, 80, 20, 0⟩, 0) by decide +kernel] at h
  exact h
theorem aw2 (W : World) : Calls Try.prog 10 #[.agg #[.int .i64 1, .int .i64 80, .int .i64 20, .int .i64 0], .int .i64 18] W fun f w' => f = .returned (.tuple #[.agg #[.int .i64 2, .int .i64 88, .int .i64 23, .int .i64 0], .int .i64 0]) ∧ Below W.heap.size W w' := by
  have h := sample_any ⟨1, 80, 20, 0⟩ 18 W
  rw [show smp ⟨1, 80, 20, 0⟩ 18 = (⟨2, 88, 23, 0⟩, 0) by decide +kernel] at h
  exact h
theorem aw4 (W : World) : Calls Try.prog 10 #[.agg #[.int .i64 2, .int .i64 88, .int .i64 23, .int .i64 1], .int .i64 11] W fun f w' => f = .returned (.tuple #[.agg #[.int .i64 3, .int .i64 88, .int .i64 18, .int .i64 0], .int .i64 0]) ∧ Below W.heap.size W w' := by
  have h := sample_any ⟨2, 88, 23, 1⟩ 11 W
  rw [show smp ⟨2, 88, 23, 1⟩ 11 = (⟨3, 88, 18, 0⟩, 0) by decide +kernel] at h
  exact h
theorem aw3 (W : World) : Calls Try.prog 21 #[.agg #[.int .i64 2, .int .i64 88, .int .i64 23, .int .i64 0]] W fun f w' => f = .returned (.agg #[.int .i64 2, .int .i64 88, .int .i64 23, .int .i64 1]) ∧ Below W.heap.size W w' := by
  have h := expired_any ⟨2, 88, 23, 0⟩ W
  rw [show exq ⟨2, 88, 23, 0⟩ = ⟨2, 88, 23, 1⟩ by decide +kernel] at h
  exact h
theorem aw5 (W : World) : Calls Try.prog 19 #[.agg #[.int .i64 2, .int .i64 88, .int .i64 23, .int .i64 0]] W fun f w' => f = .returned (.int .i64 11) ∧ Below W.heap.size W w' := by
  have h := mean_any ⟨2, 88, 23, 0⟩ W
  rw [show mean ⟨2, 88, 23, 0⟩ = 11 by decide +kernel] at h
  exact h
theorem aw6 (W : World) : Calls Try.prog 17 #[.agg #[.int .i64 2, .int .i64 88, .int .i64 23, .int .i64 0]] W fun f w' => f = .returned (.int .i64 34) ∧ Below W.heap.size W w' := by
  have h := timeout_any ⟨2, 88, 23, 0⟩ W
  rw [show tmo ⟨2, 88, 23, 0⟩ = 34 by decide +kernel] at h
  exact h
theorem aw7 (W : World) : Calls Try.prog 17 #[.agg #[.int .i64 2, .int .i64 88, .int .i64 23, .int .i64 1]] W fun f w' => f = .returned (.int .i64 68) ∧ Below W.heap.size W w' := by
  have h := timeout_any ⟨2, 88, 23, 1⟩ W
  rw [show tmo ⟨2, 88, 23, 1⟩ = 68 by decide +kernel] at h
  exact h
theorem aw8 (W : World) : Calls Try.prog 17 #[.agg #[.int .i64 3, .int .i64 88, .int .i64 18, .int .i64 0]] W fun f w' => f = .returned (.int .i64 29) ∧ Below W.heap.size W w' := by
  have h := timeout_any ⟨3, 88, 18, 0⟩ W
  rw [show tmo ⟨3, 88, 18, 0⟩ = 29 by decide +kernel] at h
  exact h
theorem aw9 (W : World) : Calls Try.prog 17 #[.agg #[.int .i64 0, .int .i64 0, .int .i64 0, .int .i64 0]] W fun f w' => f = .returned (.int .i64 64) ∧ Below W.heap.size W w' := by
  have h := timeout_any ⟨0, 0, 0, 0⟩ W
  rw [show tmo ⟨0, 0, 0, 0⟩ = 64 by decide +kernel] at h
  exact h
theorem aw0 (W : World) : Calls Try.prog 15 #[] W fun f w' => f = .returned (.agg #[.int .i64 0, .int .i64 0, .int .i64 0, .int .i64 0]) ∧ Below W.heap.size W w' := new_any W
set_option maxHeartbeats 4000000 in
set_option maxRecDepth 100000 in
theorem awake_any (w : World) : Calls Try.prog 12 #[] w fun f w' => f = .returned (.bool true) ∧ Below w.heap.size w w' := by
  obtain ⟨g, hg⟩ : ∃ g, w.heap.size = g := ⟨_, rfl⟩
  have HB := hid (Below.refl g w)
  have HG := hid hg
  clear hg
  go_enter Try.func12, Try.ntmps12
  go_upto_region 1 with fail
  go_upto_region 2 with (first | (go_at_call 15; (with_reducible refine (aw0 _).mono ?_); rintro _ w1 ⟨rfl, hb⟩; have HB := hid (HB.out.trans (hb.mono (by rw [HG.out]; exact Nat.le_refl _))); have HS1 := hid (show g ≤ w1.heap.size by have := HB.out.size; have := HG.out; omega); clear hb) | (go_at_call 10; (with_reducible refine (aw1 _).mono ?_); rintro _ wn ⟨rfl, hb⟩; have HB := hid (HB.out.trans (hb.mono HS1.out)); have HSN := hid (show g ≤ wn.heap.size by have := HB.out.size; have := HG.out; omega); clear hb))
  obtain ⟨ga, hga⟩ : ∃ h, wn.heap.size = h := ⟨_, rfl⟩
  obtain ⟨Wa, hWa⟩ : ∃ X, wn.alloc (.cells (cE ⟨1, 80, 20, 0⟩) 23) = X := ⟨_, rfl⟩
  have ka : Wa.heap[ga]? = some (.cells (cE ⟨1, 80, 20, 0⟩) 23) := by rw [← hWa, ← hga]; exact heap_alloc_new _ _
  have HB := hid (show Below g w Wa by rw [← hWa]; exact HB.out.alloc HSN.out _)
  have HLEa : Hid (g ≤ ga) := hid (by rw [← hga]; exact HSN.out)
  have HKa := hid ka
  obtain ⟨xa0, xa1, xa2, xa3⟩ := load4 ka
  simp only at xa0 xa1 xa2 xa3
  have HGa := hid hga
  have HWa := hid hWa
  simp only [cE] at HWa
  clear hga hWa ka
  rw [HGa.out, HWa.out]
  go_upto_region 3 with (go_at_call 10; (with_reducible refine (aw2 _).mono ?_); rintro _ wn ⟨rfl, hb⟩; have ka := (hb.block _ (box_lt HKa.out)).trans HKa.out; have HB := hid (HB.out.trans (hb.mono (Nat.le_trans HLEa.out (Nat.le_of_lt (box_lt HKa.out))))); have HSN := hid (show g ≤ wn.heap.size by have := HB.out.size; have := HG.out; omega); have HKa := hid ka; obtain ⟨xa0, xa1, xa2, xa3⟩ := load4 ka; simp only at xa0 xa1 xa2 xa3; clear hb ka)
  clear xa0 xa1 xa2 xa3 HKa
  obtain ⟨gb, hgb⟩ : ∃ h, wn.heap.size = h := ⟨_, rfl⟩
  obtain ⟨Wb, hWb⟩ : ∃ X, wn.alloc (.cells (cE ⟨2, 88, 23, 0⟩) 23) = X := ⟨_, rfl⟩
  have kb : Wb.heap[gb]? = some (.cells (cE ⟨2, 88, 23, 0⟩) 23) := by rw [← hWb, ← hgb]; exact heap_alloc_new _ _
  have HB := hid (show Below g w Wb by rw [← hWb]; exact HB.out.alloc HSN.out _)
  have HLEb : Hid (g ≤ gb) := hid (by rw [← hgb]; exact HSN.out)
  have HKb := hid kb
  obtain ⟨xb0, xb1, xb2, xb3⟩ := load4 kb
  simp only at xb0 xb1 xb2 xb3
  have HGb := hid hgb
  have HWb := hid hWb
  simp only [cE] at HWb
  clear hgb hWb kb
  rw [HGb.out, HWb.out]
  go_upto_region 4 with (go_at_call 21; (with_reducible refine (aw3 _).mono ?_); rintro _ wn ⟨rfl, hb⟩; have kb := (hb.block _ (box_lt HKb.out)).trans HKb.out; have HB := hid (HB.out.trans (hb.mono (Nat.le_trans HLEb.out (Nat.le_of_lt (box_lt HKb.out))))); have HSN := hid (show g ≤ wn.heap.size by have := HB.out.size; have := HG.out; omega); have HKb := hid kb; obtain ⟨xb0, xb1, xb2, xb3⟩ := load4 kb; simp only at xb0 xb1 xb2 xb3; clear hb kb)
  obtain ⟨gc, hgc⟩ : ∃ h, wn.heap.size = h := ⟨_, rfl⟩
  obtain ⟨Wc, hWc⟩ : ∃ X, wn.alloc (.cells (cE ⟨2, 88, 23, 1⟩) 23) = X := ⟨_, rfl⟩
  have kc : Wc.heap[gc]? = some (.cells (cE ⟨2, 88, 23, 1⟩) 23) := by rw [← hWc, ← hgc]; exact heap_alloc_new _ _
  have kb : Wc.heap[gb]? = some (.cells (cE ⟨2, 88, 23, 0⟩) 23) := by rw [← hWc]; exact old_alloc HKb.out _
  have HB := hid (show Below g w Wc by rw [← hWc]; exact HB.out.alloc HSN.out _)
  have HLEc : Hid (g ≤ gc) := hid (by rw [← hgc]; exact HSN.out)
  have HKb := hid kb
  obtain ⟨xb0, xb1, xb2, xb3⟩ := load4 kb
  have HKc := hid kc
  obtain ⟨xc0, xc1, xc2, xc3⟩ := load4 kc
  simp only at xb0 xb1 xb2 xb3 xc0 xc1 xc2 xc3
  have HGc := hid hgc
  have HWc := hid hWc
  simp only [cE] at HWc
  clear hgc hWc kb kc
  rw [HGc.out, HWc.out]
  go_upto_region 5 with (go_at_call 10; (with_reducible refine (aw4 _).mono ?_); rintro _ wn ⟨rfl, hb⟩; have kc := (hb.block _ (box_lt HKc.out)).trans HKc.out; have kb := (hb.block _ (box_lt HKb.out)).trans HKb.out; have HB := hid (HB.out.trans (hb.mono (Nat.le_trans HLEc.out (Nat.le_of_lt (box_lt HKc.out))))); have HSN := hid (show g ≤ wn.heap.size by have := HB.out.size; have := HG.out; omega); have HKc := hid kc; obtain ⟨xc0, xc1, xc2, xc3⟩ := load4 kc; have HKb := hid kb; obtain ⟨xb0, xb1, xb2, xb3⟩ := load4 kb; simp only at xc0 xc1 xc2 xc3 xb0 xb1 xb2 xb3; clear hb kc kb)
  obtain ⟨gd, hgd⟩ : ∃ h, wn.heap.size = h := ⟨_, rfl⟩
  obtain ⟨Wd, hWd⟩ : ∃ X, wn.alloc (.cells (cE ⟨3, 88, 18, 0⟩) 23) = X := ⟨_, rfl⟩
  have kd : Wd.heap[gd]? = some (.cells (cE ⟨3, 88, 18, 0⟩) 23) := by rw [← hWd, ← hgd]; exact heap_alloc_new _ _
  have kb : Wd.heap[gb]? = some (.cells (cE ⟨2, 88, 23, 0⟩) 23) := by rw [← hWd]; exact old_alloc HKb.out _
  have kc : Wd.heap[gc]? = some (.cells (cE ⟨2, 88, 23, 1⟩) 23) := by rw [← hWd]; exact old_alloc HKc.out _
  have HB := hid (show Below g w Wd by rw [← hWd]; exact HB.out.alloc HSN.out _)
  have HLEd : Hid (g ≤ gd) := hid (by rw [← hgd]; exact HSN.out)
  have HKb := hid kb
  obtain ⟨xb0, xb1, xb2, xb3⟩ := load4 kb
  have HKc := hid kc
  obtain ⟨xc0, xc1, xc2, xc3⟩ := load4 kc
  have HKd := hid kd
  obtain ⟨xd0, xd1, xd2, xd3⟩ := load4 kd
  simp only at xb0 xb1 xb2 xb3 xc0 xc1 xc2 xc3 xd0 xd1 xd2 xd3
  have HGd := hid hgd
  have HWd := hid hWd
  simp only [cE] at HWd
  clear hgd hWd kb kc kd
  rw [HGd.out, HWd.out]
  go_wp2_with (first | (go_at_call 19; (with_reducible refine (aw5 _).mono ?_); rintro _ wn ⟨rfl, hb⟩; have kb := (hb.block _ (box_lt HKb.out)).trans HKb.out; have kc := (hb.block _ (box_lt HKc.out)).trans HKc.out; have kd := (hb.block _ (box_lt HKd.out)).trans HKd.out; have HB := hid (HB.out.trans (hb.mono (Nat.le_trans HLEb.out (Nat.le_of_lt (box_lt HKb.out))))); have HSN := hid (show g ≤ wn.heap.size by have := HB.out.size; have := HG.out; omega); have HKb := hid kb; obtain ⟨xb0, xb1, xb2, xb3⟩ := load4 kb; have HKc := hid kc; obtain ⟨xc0, xc1, xc2, xc3⟩ := load4 kc; have HKd := hid kd; obtain ⟨xd0, xd1, xd2, xd3⟩ := load4 kd; simp only at xb0 xb1 xb2 xb3 xc0 xc1 xc2 xc3 xd0 xd1 xd2 xd3; clear hb kb kc kd) | (go_at_call 17; (with_reducible refine (aw6 _).mono ?_); rintro _ wn ⟨rfl, hb⟩; have kb := (hb.block _ (box_lt HKb.out)).trans HKb.out; have kc := (hb.block _ (box_lt HKc.out)).trans HKc.out; have kd := (hb.block _ (box_lt HKd.out)).trans HKd.out; have HB := hid (HB.out.trans (hb.mono (Nat.le_trans HLEb.out (Nat.le_of_lt (box_lt HKb.out))))); have HSN := hid (show g ≤ wn.heap.size by have := HB.out.size; have := HG.out; omega); have HKb := hid kb; obtain ⟨xb0, xb1, xb2, xb3⟩ := load4 kb; have HKc := hid kc; obtain ⟨xc0, xc1, xc2, xc3⟩ := load4 kc; have HKd := hid kd; obtain ⟨xd0, xd1, xd2, xd3⟩ := load4 kd; simp only at xb0 xb1 xb2 xb3 xc0 xc1 xc2 xc3 xd0 xd1 xd2 xd3; clear hb kb kc kd) | (go_at_call 17; (with_reducible refine (aw7 _).mono ?_); rintro _ wn ⟨rfl, hb⟩; have kb := (hb.block _ (box_lt HKb.out)).trans HKb.out; have kc := (hb.block _ (box_lt HKc.out)).trans HKc.out; have kd := (hb.block _ (box_lt HKd.out)).trans HKd.out; have HB := hid (HB.out.trans (hb.mono (Nat.le_trans HLEb.out (Nat.le_of_lt (box_lt HKb.out))))); have HSN := hid (show g ≤ wn.heap.size by have := HB.out.size; have := HG.out; omega); have HKb := hid kb; obtain ⟨xb0, xb1, xb2, xb3⟩ := load4 kb; have HKc := hid kc; obtain ⟨xc0, xc1, xc2, xc3⟩ := load4 kc; have HKd := hid kd; obtain ⟨xd0, xd1, xd2, xd3⟩ := load4 kd; simp only at xb0 xb1 xb2 xb3 xc0 xc1 xc2 xc3 xd0 xd1 xd2 xd3; clear hb kb kc kd) | (go_at_call 17; (with_reducible refine (aw8 _).mono ?_); rintro _ wn ⟨rfl, hb⟩; have kb := (hb.block _ (box_lt HKb.out)).trans HKb.out; have kc := (hb.block _ (box_lt HKc.out)).trans HKc.out; have kd := (hb.block _ (box_lt HKd.out)).trans HKd.out; have HB := hid (HB.out.trans (hb.mono (Nat.le_trans HLEb.out (Nat.le_of_lt (box_lt HKb.out))))); have HSN := hid (show g ≤ wn.heap.size by have := HB.out.size; have := HG.out; omega); have HKb := hid kb; obtain ⟨xb0, xb1, xb2, xb3⟩ := load4 kb; have HKc := hid kc; obtain ⟨xc0, xc1, xc2, xc3⟩ := load4 kc; have HKd := hid kd; obtain ⟨xd0, xd1, xd2, xd3⟩ := load4 kd; simp only at xb0 xb1 xb2 xb3 xc0 xc1 xc2 xc3 xd0 xd1 xd2 xd3; clear hb kb kc kd) | (go_at_call 17; (with_reducible refine (aw9 _).mono ?_); rintro _ wn ⟨rfl, hb⟩; have kb := (hb.block _ (box_lt HKb.out)).trans HKb.out; have kc := (hb.block _ (box_lt HKc.out)).trans HKc.out; have kd := (hb.block _ (box_lt HKd.out)).trans HKd.out; have HB := hid (HB.out.trans (hb.mono (Nat.le_trans HLEb.out (Nat.le_of_lt (box_lt HKb.out))))); have HSN := hid (show g ≤ wn.heap.size by have := HB.out.size; have := HG.out; omega); have HKb := hid kb; obtain ⟨xb0, xb1, xb2, xb3⟩ := load4 kb; have HKc := hid kc; obtain ⟨xc0, xc1, xc2, xc3⟩ := load4 kc; have HKd := hid kd; obtain ⟨xd0, xd1, xd2, xd3⟩ := load4 kd; simp only at xb0 xb1 xb2 xb3 xc0 xc1 xc2 xc3 xd0 xd1 xd2 xd3; clear hb kb kc kd) | (go_at_call 15; (with_reducible refine (aw0 _).mono ?_); rintro _ wn ⟨rfl, hb⟩; have kb := (hb.block _ (box_lt HKb.out)).trans HKb.out; have kc := (hb.block _ (box_lt HKc.out)).trans HKc.out; have kd := (hb.block _ (box_lt HKd.out)).trans HKd.out; have HB := hid (HB.out.trans (hb.mono (Nat.le_trans HLEb.out (Nat.le_of_lt (box_lt HKb.out))))); have HSN := hid (show g ≤ wn.heap.size by have := HB.out.size; have := HG.out; omega); have HKb := hid kb; obtain ⟨xb0, xb1, xb2, xb3⟩ := load4 kb; have HKc := hid kc; obtain ⟨xc0, xc1, xc2, xc3⟩ := load4 kc; have HKd := hid kd; obtain ⟨xd0, xd1, xd2, xd3⟩ := load4 kd; simp only at xb0 xb1 xb2 xb3 xc0 xc1 xc2 xc3 xd0 xd1 xd2 xd3; clear hb kb kc kd))
  go_ret
  exact ⟨rfl, by rw [HG.out]; exact HB.out⟩
end Go.Proofs.Ytlbcidgmdfcamaa
