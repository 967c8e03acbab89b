/- The law ExtentComplements is proved: for every list of extents, size and sector Complement and Contains give what the reference gives. No condition. -/
import Derived.Test.YtkchenhkolpinaaU
import Derived.Test.YtkchenhkolpinaaYa
namespace Go.Proofs.Ytkchenhkolpinaa
open Go.ChangeShapes Go.WideShapes Go.ChangeAt Go.RowKit Go.Deep

set_option maxHeartbeats 4000000 in
theorem extentComplements_walk (a : List (Int × Int)) (size sector : Int) (va : Value) (w : World) (ha : Ext w va a) (hs : R64 size) (_hx : R64 sector) :
    Calls Try.prog 6 #[va, .int .i64 size, .int .i64 sector] w fun e w' => e = .returned (.bool true) ∧ Below w.heap.size w w' := by
  by_cases hl : a.length ≤ 20
  · have HFew := hid (few_yes ha (ext_nil w) ⟨hl, by simp⟩)
    have la : a.length ≤ 10000 := by omega
    clear hl
    obtain ⟨q, hq⟩ : ∃ q, mem a sector = q := ⟨_, rfl⟩
    have heq : (q == q) = true := by simp
    have HCT := hid (fun (v : Value) (w : World) (h : Ext w v a) => contains_any a v sector w h la)
    have HCR := hid (fun (v : Value) (w : World) (h : Ext w v a) => refContains_any a v sector w h la)
    rw [hq] at HCT HCR
    clear hq
    obtain ⟨A, ca, rfl⟩ := ext_form ha
    go_enter Try.func6, Try.ntmps6
    go_wp2_with fail
    refine HFew.out.mono ?_
    rintro e w1 ⟨rfl, rfl⟩
    go_wp2_with fail
    refine (made_len (complement_any a _ size _ ha la hs)).mono ?_
    rintro e w2 ⟨v1, l1, rfl, hx1, hc1, hm1, hl1, hBw⟩
    have hT1 : Below w.heap.size w w2 := hBw
    have ha := ha.below hBw
    clear hBw
    go_wp2_with fail
    refine (made_len (refComplement_any a _ size _ ha la hs)).mono ?_
    rintro e w3 ⟨v2, l2, rfl, hx2, hc2, hm2, hl2, hBw⟩
    have hT2 : Below w.heap.size w w3 := below_both hT1 hBw
    clear hT1
    have ha := ha.below hBw
    have hx1 := hx1.below hBw
    clear hBw
    obtain rfl : l1 = l2 := canon_ext (Int.le_refl _) hc1 hc2 (fun x => (hm1 x).trans (hm2 x).symm)
    clear hc1 hc2 hm1 hm2
    go_wp2_with fail
    refine (same_true l1 _ _ _ hx1 hx2 (by omega)).mono ?_
    rintro e w4 ⟨rfl, hBw⟩
    have hT3 : Below w.heap.size w w4 := below_both hT2 hBw
    clear hT2
    have ha := ha.below hBw
    have hx1 := hx1.below hBw
    have hx2 := hx2.below hBw
    clear hBw
    clear hx1
    clear hx2
    go_wp2_with fail
    refine (HCT.out _ _ ha).mono ?_
    rintro e w5 ⟨rfl, hBw⟩
    have hT4 : Below w.heap.size w w5 := below_both hT3 hBw
    clear hT3
    have ha := ha.below hBw
    clear hBw
    go_wp2_with fail
    refine (HCR.out _ _ ha).mono ?_
    rintro e w6 ⟨rfl, hBw⟩
    have hT5 : Below w.heap.size w w6 := below_both hT4 hBw
    clear hT4
    have ha := ha.below hBw
    clear hBw
    go_wp2_with fail
    refine (awake_any _).mono ?_
    rintro e w7 ⟨rfl, hBw⟩
    have hT6 : Below w.heap.size w w7 := below_both hT5 hBw
    clear hT5
    have ha := ha.below hBw
    clear hBw
    go_wp2_with fail
    go_ret
    exact ⟨rfl, hT6⟩
  · have HFew := hid (few_no ha (ext_nil w) (fun h => hl h.1))
    obtain ⟨A, ca, rfl⟩ := ext_form ha
    clear ha hl
    go_enter Try.func6, Try.ntmps6
    go_wp2_with (first | (go_at_call 12; refine HFew.out.mono ?_; rintro e w1 ⟨rfl, rfl⟩) | (go_at_call 13; refine (awake_any _).mono ?_; rintro e w3 ⟨rfl, hb3⟩))
    go_ret
    exact ⟨rfl, hb3⟩

set_option maxRecDepth 100000 in
theorem extentComplements_lifted (os : Os) (started : os.Started) (H : Type) (enc : TypeId × Value → H) :
    ReturnsInHanded {} Try.checked os 6 .any (Rows.extentComplementsSpec.pre6 enc Try.prog Try.f6 Rows.extentComplementsRow.domain false) (Rows.extentComplementsSpec.post enc Try.prog Try.f6 false true false false) := by
  refine returnsInHanded_of_change (C := Try.checked) Try.own started (by kernel_rfl) Try.func6
    (ChangeSpec.witness6 (enc := enc) (C := Try.checked) false ⟨#[], #[.slice none 0 0, .int .i64 0, .int .i64 0], []⟩ 8 (by kernel_rfl) (by kernel_rfl) (by kernel_rfl) (by kernel_rfl)) ?_
  intro W base args ds gs before hval0 hW hcnd _
  have hval : ∀ (j : Nat) t v, Try.f6.params[j]? = some t → args[j]? = some v → Value.okWide Try.prog W .any base t v := hval0
  have hW' := hW
  obtain ⟨p, q, hA0, hV, rfl, hfz, hnd⟩ := hW
  have hA : DataW.TrodAll enc Try.prog W 0 (fun _ => true) true Try.f6.params.toList args.toList ds p := hA0
  rw [Try.params6] at hA hval
  obtain ⟨v0, v1, v2, d0, d1, d2, p0, p1, p2, rfl, rfl, rfl, h0, h1, h2⟩ := trodAll_three hA
  obtain ⟨rfl, rfl⟩ := trodVars_none hV
  obtain ⟨a1, rfl, rfl, rfl, wa1⟩ := open_int Try.underlying3 (hval 1 3 v1 rfl rfl) h1
  obtain ⟨a2, rfl, rfl, rfl, wa2⟩ := open_int Try.underlying3 (hval 2 3 v2 rfl rfl) h2
  obtain ⟨l0, hl0⟩ := ext_of_trod (hval 0 22 v0 rfl rfl) h0
  clear hA0 hval0
  simp only [List.append_nil] at hW'
  have hlt0 : ∀ x ∈ p0, x.block < W.heap.size := fun x hx => hW'.lt x (by simp [hx])
  refine (extentComplements_walk l0 a1 a2 v0 W hl0 (r64_wf wa1) (r64_wf wa2)).mono fun e W' ⟨he, hb⟩ => ?_
  subst he
  exact ⟨_, rfl, _, _, _, [], _, [], hW', trodAll_mk1 (shut_bool Try.underlying4 _), trodAll_mk3 (Below.trod Try.laidOut read22 row22 h0 hb hlt0) (shut_int Try.underlying3 wa1) (shut_int Try.underlying3 wa2), rfl, hb.frame _, fun h => by cases h⟩

theorem extentComplements_holds : Rows.ExtentComplementsSaid :=
  OpenClaim.holds_of_wide 6 Try.f6 rfl rfl rfl rfl rfl rfl rfl ⟨rfl, rfl, rfl, rfl, rfl⟩ rfl rfl rfl rfl rfl (by kernel_rfl) Try.func6 (by kernel_rfl)
    (of_decide_eq_true (by kernel_rfl)) (by unfold Func.isWrapper; rw [if_neg (of_decide_eq_false (by kernel_rfl))]; exact ⟨rfl, rfl⟩)
    (fun os started H enc _ => extentComplements_lifted os started H enc)
end Go.Proofs.Ytkchenhkolpinaa
