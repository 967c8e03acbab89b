/- The law ExtentSplits is proved: for every list of extents and every most Split gives the pieces, or the error, that the reference gives. No condition. -/
import Derived.Test.YtkchenhkolpinaaU
import Derived.Test.YtkchenhkolpinaaYa
namespace Go.Proofs.Ytkchenhkolpinaa
open Go.ChangeShapes Go.WideShapes Go.ChangeAt Go.RowKit Go.Deep

set_option maxHeartbeats 4000000 in
theorem extentSplits_walk (a : List (Int × Int)) (most : Int) (va : Value) (w : World) (ha : Ext w va a) (hs : R64 most) :
    Calls Try.prog 7 #[va, .int .i64 most] w fun e w' => e = .returned (.bool true) ∧ Below w.heap.size w w' := by
  by_cases hl : a.length ≤ 20
  · have HFew := hid (few_yes ha (ext_nil w) ⟨hl, by simp⟩)
    have la : a.length ≤ 10000 := by omega
    clear hl
    have HS1 := hid (fun (v : Value) (w : World) (h : Ext w v a) => split_say (split_any a v most w h la hs))
    have HS2 := hid (fun (v : Value) (w : World) (h : Ext w v a) => split_say (refSplit_any a v most w h la hs))
    have hsr := split_err most
    obtain ⟨r, hr⟩ : ∃ r, splitErr most = r := ⟨_, rfl⟩
    rw [hr] at HS1 HS2 hsr
    clear hr
    have heq : (r == r) = true := by simp
    obtain ⟨A, ca, rfl⟩ := ext_form ha
    go_enter Try.func7, Try.ntmps7
    go_wp2_with fail
    refine HFew.out.mono ?_
    rintro e w1 ⟨rfl, rfl⟩
    go_wp2_with fail
    refine (HS1.out _ _ ha).mono ?_
    rintro e w2 ⟨v1, l1, rfl, hq1, hx1, hBw⟩
    have hT1 : Below w.heap.size w w2 := hBw
    have ha := ha.below hBw
    clear hBw
    go_wp2_with fail
    refine (HS2.out _ _ ha).mono ?_
    rintro e w3 ⟨v2, l2, rfl, hq2, hx2, hBw⟩
    have hT2 : Below w.heap.size w w3 := below_both hT1 hBw
    clear hT1
    have ha := ha.below hBw
    have hx1 := hx1.below hBw
    clear hBw
    obtain ⟨he12, hl1⟩ := hq1.same hq2
    subst he12
    clear hq1 hq2
    go_wp2_with fail
    refine (same_true l1 _ _ _ hx1 hx2 (by omega)).mono ?_
    rintro e w4 ⟨rfl, hBw⟩
    have hT3 : Below w.heap.size w w4 := below_both hT2 hBw
    clear hT2
    have ha := ha.below hBw
    have hx1 := hx1.below hBw
    have hx2 := hx2.below hBw
    clear hBw
    clear hx1
    clear hx2
    go_wp2_with fail
    refine (awake_any _).mono ?_
    rintro e w5 ⟨rfl, hBw⟩
    have hT4 : Below w.heap.size w w5 := below_both hT3 hBw
    clear hT3
    have ha := ha.below hBw
    clear hBw
    go_wp2_with fail
    go_ret
    exact ⟨rfl, hT4⟩
  · have HFew := hid (few_no ha (ext_nil w) (fun h => hl h.1))
    obtain ⟨A, ca, rfl⟩ := ext_form ha
    clear ha hl
    go_enter Try.func7, Try.ntmps7
    go_wp2_with (first | (go_at_call 12; refine HFew.out.mono ?_; rintro e w1 ⟨rfl, rfl⟩) | (go_at_call 13; refine (awake_any _).mono ?_; rintro e w3 ⟨rfl, hb3⟩))
    go_ret
    exact ⟨rfl, hb3⟩

set_option maxRecDepth 100000 in
theorem extentSplits_lifted (os : Os) (started : os.Started) (H : Type) (enc : TypeId × Value → H) :
    ReturnsInHanded {} Try.checked os 7 .any (Rows.extentSplitsSpec.pre6 enc Try.prog Try.f7 Rows.extentSplitsRow.domain false) (Rows.extentSplitsSpec.post enc Try.prog Try.f7 false true false false) := by
  refine returnsInHanded_of_change (C := Try.checked) Try.own started (by kernel_rfl) Try.func7
    (ChangeSpec.witness6 (enc := enc) (C := Try.checked) false ⟨#[], #[.slice none 0 0, .int .i64 0], []⟩ 8 (by kernel_rfl) (by kernel_rfl) (by kernel_rfl) (by kernel_rfl)) ?_
  intro W base args ds gs before hval0 hW hcnd _
  have hval : ∀ (j : Nat) t v, Try.f7.params[j]? = some t → args[j]? = some v → Value.okWide Try.prog W .any base t v := hval0
  have hW' := hW
  obtain ⟨p, q, hA0, hV, rfl, hfz, hnd⟩ := hW
  have hA : DataW.TrodAll enc Try.prog W 0 (fun _ => true) true Try.f7.params.toList args.toList ds p := hA0
  rw [Try.params7] at hA hval
  obtain ⟨v0, v1, d0, d1, p0, p1, rfl, rfl, rfl, h0, h1⟩ := trodAll_two hA
  obtain ⟨rfl, rfl⟩ := trodVars_none hV
  obtain ⟨a1, rfl, rfl, rfl, wa1⟩ := open_int Try.underlying3 (hval 1 3 v1 rfl rfl) h1
  obtain ⟨l0, hl0⟩ := ext_of_trod (hval 0 22 v0 rfl rfl) h0
  clear hA0 hval0
  simp only [List.append_nil] at hW'
  have hlt0 : ∀ x ∈ p0, x.block < W.heap.size := fun x hx => hW'.lt x (by simp [hx])
  refine (extentSplits_walk l0 a1 v0 W hl0 (r64_wf wa1)).mono fun e W' ⟨he, hb⟩ => ?_
  subst he
  exact ⟨_, rfl, _, _, _, [], _, [], hW', trodAll_mk1 (shut_bool Try.underlying4 _), trodAll_mk2 (Below.trod Try.laidOut read22 row22 h0 hb hlt0) (shut_int Try.underlying3 wa1), rfl, hb.frame _, fun h => by cases h⟩

theorem extentSplits_holds : Rows.ExtentSplitsSaid :=
  OpenClaim.holds_of_wide 7 Try.f7 rfl rfl rfl rfl rfl rfl rfl ⟨rfl, rfl, rfl, rfl, rfl⟩ rfl rfl rfl rfl rfl (by kernel_rfl) Try.func7 (by kernel_rfl)
    (of_decide_eq_true (by kernel_rfl)) (by unfold Func.isWrapper; rw [if_neg (of_decide_eq_false (by kernel_rfl))]; exact ⟨rfl, rfl⟩)
    (fun os started H enc _ => extentSplits_lifted os started H enc)
end Go.Proofs.Ytkchenhkolpinaa
