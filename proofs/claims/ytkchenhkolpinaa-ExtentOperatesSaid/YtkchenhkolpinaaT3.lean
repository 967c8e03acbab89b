/- The law ExtentOperates is proved: for all lists of extents Union, Intersect, Subtract and Count give what the reference gives. No condition. -/
import Derived.Test.YtkchenhkolpinaaU
import Derived.Test.YtkchenhkolpinaaYa
namespace Go.Proofs.Ytkchenhkolpinaa
open Go.ChangeShapes Go.WideShapes Go.ChangeAt Go.RowKit Go.Deep

set_option maxHeartbeats 4000000 in
theorem extentOperates_walk (a b : List (Int × Int)) (va vb : Value) (w : World) (ha : Ext w va a) (hb : Ext w vb b) :
    Calls Try.prog 5 #[va, vb] w fun e w' => e = .returned (.bool true) ∧ Below w.heap.size w w' := by
  by_cases hl : a.length ≤ 20 ∧ b.length ≤ 20
  · have HFew := hid (few_yes ha hb hl)
    have la : a.length ≤ 10000 := by omega
    have lb : b.length ≤ 10000 := by omega
    clear hl
    obtain ⟨n, hn⟩ : ∃ n, card (fun x => mem a x) = n := ⟨_, rfl⟩
    have heq : (n == n) = true := by simp
    have HCT := hid (fun (v : Value) (w : World) (h : Ext w v a) => count_c a v (fun x => mem a x) w h la (fun _ => rfl))
    have HCR := hid (fun (v : Value) (w : World) (h : Ext w v a) => refCount_any a v w h la)
    rw [hn] at HCT HCR
    clear hn
    obtain ⟨A, ca, rfl⟩ := ext_form ha
    obtain ⟨B, cb, rfl⟩ := ext_form hb
    go_enter Try.func5, Try.ntmps5
    go_wp2_with fail
    refine HFew.out.mono ?_
    rintro e w1 ⟨rfl, rfl⟩
    go_wp2_with fail
    refine (made_len (union_any a b _ _ _ ha hb la lb)).mono ?_
    rintro e w2 ⟨v1, l1, rfl, hx1, hc1, hm1, hl1, hBw⟩
    have hT1 : Below w.heap.size w w2 := hBw
    have ha := ha.below hBw
    have hb := hb.below hBw
    clear hBw
    go_wp2_with fail
    refine (made_len (refUnion_any a b _ _ _ ha hb la lb)).mono ?_
    rintro e w3 ⟨v2, l2, rfl, hx2, hc2, hm2, hl2, hBw⟩
    have hT2 : Below w.heap.size w w3 := below_both hT1 hBw
    clear hT1
    have ha := ha.below hBw
    have hb := hb.below hBw
    have hx1 := hx1.below hBw
    clear hBw
    obtain rfl : l1 = l2 := canon_ext (Int.le_refl _) hc1 hc2 (fun x => (hm1 x).trans (hm2 x).symm)
    clear hc1 hc2 hm1 hm2
    go_wp2_with fail
    refine (same_true l1 _ _ _ hx1 hx2 (by omega)).mono ?_
    rintro e w4 ⟨rfl, hBw⟩
    have hT3 : Below w.heap.size w w4 := below_both hT2 hBw
    clear hT2
    have ha := ha.below hBw
    have hb := hb.below hBw
    have hx1 := hx1.below hBw
    have hx2 := hx2.below hBw
    clear hBw
    clear hx1
    clear hx2
    go_wp2_with fail
    refine (made_len (intersect_any a b _ _ _ ha hb la lb)).mono ?_
    rintro e w5 ⟨v3, l3, rfl, hx3, hc3, hm3, hl3, hBw⟩
    have hT4 : Below w.heap.size w w5 := below_both hT3 hBw
    clear hT3
    have ha := ha.below hBw
    have hb := hb.below hBw
    clear hBw
    go_wp2_with fail
    refine (made_len (refIntersect_any a b _ _ _ ha hb la lb)).mono ?_
    rintro e w6 ⟨v4, l4, rfl, hx4, hc4, hm4, hl4, hBw⟩
    have hT5 : Below w.heap.size w w6 := below_both hT4 hBw
    clear hT4
    have ha := ha.below hBw
    have hb := hb.below hBw
    have hx3 := hx3.below hBw
    clear hBw
    obtain rfl : l3 = l4 := canon_ext (Int.le_refl _) hc3 hc4 (fun x => (hm3 x).trans (hm4 x).symm)
    clear hc3 hc4 hm3 hm4
    go_wp2_with fail
    refine (same_true l3 _ _ _ hx3 hx4 (by omega)).mono ?_
    rintro e w7 ⟨rfl, hBw⟩
    have hT6 : Below w.heap.size w w7 := below_both hT5 hBw
    clear hT5
    have ha := ha.below hBw
    have hb := hb.below hBw
    have hx3 := hx3.below hBw
    have hx4 := hx4.below hBw
    clear hBw
    clear hx3
    clear hx4
    go_wp2_with fail
    refine (made_len (subtract_any a b _ _ _ ha hb la lb)).mono ?_
    rintro e w8 ⟨v5, l5, rfl, hx5, hc5, hm5, hl5, hBw⟩
    have hT7 : Below w.heap.size w w8 := below_both hT6 hBw
    clear hT6
    have ha := ha.below hBw
    have hb := hb.below hBw
    clear hBw
    go_wp2_with fail
    refine (made_len (refSubtract_any a b _ _ _ ha hb la lb)).mono ?_
    rintro e w9 ⟨v6, l6, rfl, hx6, hc6, hm6, hl6, hBw⟩
    have hT8 : Below w.heap.size w w9 := below_both hT7 hBw
    clear hT7
    have ha := ha.below hBw
    have hb := hb.below hBw
    have hx5 := hx5.below hBw
    clear hBw
    obtain rfl : l5 = l6 := canon_ext (Int.le_refl _) hc5 hc6 (fun x => (hm5 x).trans (hm6 x).symm)
    clear hc5 hc6 hm5 hm6
    go_wp2_with fail
    refine (same_true l5 _ _ _ hx5 hx6 (by omega)).mono ?_
    rintro e w10 ⟨rfl, hBw⟩
    have hT9 : Below w.heap.size w w10 := below_both hT8 hBw
    clear hT8
    have ha := ha.below hBw
    have hb := hb.below hBw
    have hx5 := hx5.below hBw
    have hx6 := hx6.below hBw
    clear hBw
    clear hx5
    clear hx6
    go_wp2_with fail
    refine (HCT.out _ _ ha).mono ?_
    rintro e w11 ⟨rfl, hBw⟩
    have hT10 : Below w.heap.size w w11 := below_both hT9 hBw
    clear hT9
    have ha := ha.below hBw
    have hb := hb.below hBw
    clear hBw
    go_wp2_with fail
    refine (HCR.out _ _ ha).mono ?_
    rintro e w12 ⟨rfl, hBw⟩
    have hT11 : Below w.heap.size w w12 := below_both hT10 hBw
    clear hT10
    have ha := ha.below hBw
    have hb := hb.below hBw
    clear hBw
    go_wp2_with fail
    refine (awake_any _).mono ?_
    rintro e w13 ⟨rfl, hBw⟩
    have hT12 : Below w.heap.size w w13 := below_both hT11 hBw
    clear hT11
    have ha := ha.below hBw
    have hb := hb.below hBw
    clear hBw
    go_wp2_with fail
    go_ret
    exact ⟨rfl, hT12⟩
  · have HFew := hid (few_no ha hb hl)
    obtain ⟨A, ca, rfl⟩ := ext_form ha
    obtain ⟨B, cb, rfl⟩ := ext_form hb
    clear ha hb hl
    go_enter Try.func5, Try.ntmps5
    go_wp2_with (first | (go_at_call 12; refine HFew.out.mono ?_; rintro e w1 ⟨rfl, rfl⟩) | (go_at_call 13; refine (awake_any _).mono ?_; rintro e w3 ⟨rfl, hb3⟩))
    go_ret
    exact ⟨rfl, hb3⟩

set_option maxRecDepth 100000 in
theorem extentOperates_lifted (os : Os) (started : os.Started) (H : Type) (enc : TypeId × Value → H) :
    ReturnsInHanded {} Try.checked os 5 .any (Rows.extentOperatesSpec.pre6 enc Try.prog Try.f5 Rows.extentOperatesRow.domain false) (Rows.extentOperatesSpec.post enc Try.prog Try.f5 false true false false) := by
  refine returnsInHanded_of_change (C := Try.checked) Try.own started (by kernel_rfl) Try.func5
    (ChangeSpec.witness6 (enc := enc) (C := Try.checked) false ⟨#[], #[.slice none 0 0, .slice none 0 0], []⟩ 8 (by kernel_rfl) (by kernel_rfl) (by kernel_rfl) (by kernel_rfl)) ?_
  intro W base args ds gs before hval0 hW hcnd _
  have hval : ∀ (j : Nat) t v, Try.f5.params[j]? = some t → args[j]? = some v → Value.okWide Try.prog W .any base t v := hval0
  have hW' := hW
  obtain ⟨p, q, hA0, hV, rfl, hfz, hnd⟩ := hW
  have hA : DataW.TrodAll enc Try.prog W 0 (fun _ => true) true Try.f5.params.toList args.toList ds p := hA0
  rw [Try.params5] at hA hval
  obtain ⟨v0, v1, d0, d1, p0, p1, rfl, rfl, rfl, h0, h1⟩ := trodAll_two hA
  obtain ⟨rfl, rfl⟩ := trodVars_none hV
  obtain ⟨l0, hl0⟩ := ext_of_trod (hval 0 22 v0 rfl rfl) h0
  obtain ⟨l1, hl1⟩ := ext_of_trod (hval 1 22 v1 rfl rfl) h1
  clear hA0 hval0
  simp only [List.append_nil] at hW'
  have hlt0 : ∀ x ∈ p0, x.block < W.heap.size := fun x hx => hW'.lt x (by simp [hx])
  have hlt1 : ∀ x ∈ p1, x.block < W.heap.size := fun x hx => hW'.lt x (by simp [hx])
  refine (extentOperates_walk l0 l1 v0 v1 W hl0 hl1).mono fun e W' ⟨he, hb⟩ => ?_
  subst he
  exact ⟨_, rfl, _, _, _, [], _, [], hW', trodAll_mk1 (shut_bool Try.underlying4 _), trodAll_mk2 (Below.trod Try.laidOut read22 row22 h0 hb hlt0) (Below.trod Try.laidOut read22 row22 h1 hb hlt1), rfl, hb.frame _, fun h => by cases h⟩

theorem extentOperates_holds : Rows.ExtentOperatesSaid :=
  OpenClaim.holds_of_wide 5 Try.f5 rfl rfl rfl rfl rfl rfl rfl ⟨rfl, rfl, rfl, rfl, rfl⟩ rfl rfl rfl rfl rfl (by kernel_rfl) Try.func5 (by kernel_rfl)
    (of_decide_eq_true (by kernel_rfl)) (by unfold Func.isWrapper; rw [if_neg (of_decide_eq_false (by kernel_rfl))]; exact ⟨rfl, rfl⟩)
    (fun os started H enc _ => extentOperates_lifted os started H enc)
end Go.Proofs.Ytkchenhkolpinaa
