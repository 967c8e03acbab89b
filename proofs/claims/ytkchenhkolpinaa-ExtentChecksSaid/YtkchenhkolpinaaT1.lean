/- The law ExtentChecks is proved: for every list of extents and every size extent.Check answers what the reference answers, and the chapter's examples hold; what came in reads as before. No condition. -/
import Derived.Test.YtkchenhkolpinaaU
namespace Go.Proofs.Ytkchenhkolpinaa
open Go.ChangeShapes Go.WideShapes Go.ChangeAt Go.RowKit Go.Deep

set_option maxHeartbeats 2000000 in
theorem checks_walk (l : List (Int × Int)) (v : Value) (size : Int) (w : World) (hv : Ext w v l) (hs : R64 size) :
    Calls Try.prog 3 #[v, .int .i64 size] w fun e w' => e = .returned (.bool true) ∧ Below w.heap.size w w' := by
  by_cases hl : l.length ≤ 20
  · have HFew := hid (few_yes hv (ext_nil w) ⟨hl, by simp⟩)
    have heq : (checkS size l == checkS size l) = true := by simp
    have HC := hid (check_any l v size w hv (by omega) hs)
    have HR := hid (fun w1 (hb : Below w.heap.size w w1) => rcheck_any l v size w1 (hv.below hb) (by omega) hs)
    obtain ⟨A, ca, rfl⟩ := ext_form hv
    clear hv hl
    go_enter Try.func3, Try.ntmps3
    go_wp2_with (first | (go_at_call 12; refine HFew.out.mono ?_; rintro e w1 ⟨rfl, rfl⟩) | (go_at_call 14; refine HC.out.mono ?_; rintro e w1 ⟨rfl, hb1⟩) | (go_at_call 15; refine (HR.out _ hb1).mono ?_; rintro e w2 ⟨rfl, hb2⟩) | (go_at_call 13; refine (awake_any _).mono ?_; rintro e w3 ⟨rfl, hb3⟩))
    go_ret
    exact ⟨rfl, below_both (below_both hb1 hb2) hb3⟩
  · have HFew := hid (few_no hv (ext_nil w) (fun h => hl h.1))
    obtain ⟨A, ca, rfl⟩ := ext_form hv
    clear hv hl
    go_enter Try.func3, Try.ntmps3
    go_wp2_with (first | (go_at_call 12; refine HFew.out.mono ?_; rintro e w1 ⟨rfl, rfl⟩) | (go_at_call 13; refine (awake_any _).mono ?_; rintro e w3 ⟨rfl, hb3⟩))
    go_ret
    exact ⟨rfl, hb3⟩

set_option maxRecDepth 100000 in
theorem checks_lifted (os : Os) (started : os.Started) (H : Type) (enc : TypeId × Value → H) :
    ReturnsInHanded {} Try.checked os 3 .any (Rows.extentChecksSpec.pre6 enc Try.prog Try.f3 Rows.extentChecksRow.domain false) (Rows.extentChecksSpec.post enc Try.prog Try.f3 false true false false) := by
  refine returnsInHanded_of_change (C := Try.checked) Try.own started (by kernel_rfl) Try.func3
    (ChangeSpec.witness6 (enc := enc) (C := Try.checked) false ⟨#[], #[.slice none 0 0, .int .i64 0], []⟩ 8 (by kernel_rfl) (by kernel_rfl) (by kernel_rfl) (by kernel_rfl)) ?_
  intro W base args ds gs before hval0 hW hcnd _
  have hval : ∀ (j : Nat) t v, Try.f3.params[j]? = some t → args[j]? = some v → Value.okWide Try.prog W .any base t v := hval0
  have hW' := hW
  obtain ⟨p, q, hA0, hV, rfl, hfz, hnd⟩ := hW
  have hA : DataW.TrodAll enc Try.prog W 0 (fun _ => true) true Try.f3.params.toList args.toList ds p := hA0
  rw [Try.params3] at hA hval
  obtain ⟨v0, v1, d0, d1, p0, p1, rfl, rfl, rfl, h0, h1⟩ := trodAll_two hA
  obtain ⟨rfl, rfl⟩ := trodVars_none hV
  obtain ⟨b, rfl, rfl, rfl, wb⟩ := open_int Try.underlying3 (hval 1 3 v1 rfl rfl) h1
  obtain ⟨l, hl⟩ := ext_of_trod (hval 0 22 v0 rfl rfl) h0
  clear hA0 hval0
  simp only [List.append_nil] at hW'
  have hlt : ∀ x ∈ p0, x.block < W.heap.size := fun x hx => hW'.lt x (by simpa using hx)
  refine (checks_walk l v0 b W hl (r64_wf wb)).mono fun e W' ⟨he, hb⟩ => ?_
  subst he
  refine ⟨_, rfl, _, _, _, [], _, [], hW', trodAll_mk1 (shut_bool Try.underlying4 _), trodAll_mk2 (Below.trod Try.laidOut read22 row22 h0 hb hlt) (shut_int Try.underlying3 wb), rfl, hb.frame _, fun h => by cases h⟩

theorem checks_holds : Rows.ExtentChecksSaid :=
  OpenClaim.holds_of_wide 3 Try.f3 rfl rfl rfl rfl rfl rfl rfl ⟨rfl, rfl, rfl, rfl, rfl⟩ rfl rfl rfl rfl rfl (by kernel_rfl) Try.func3 (by kernel_rfl)
    (of_decide_eq_true (by kernel_rfl)) (by unfold Func.isWrapper; rw [if_neg (of_decide_eq_false (by kernel_rfl))]; exact ⟨rfl, rfl⟩)
    (fun os started H enc _ => checks_lifted os started H enc)
end Go.Proofs.Ytkchenhkolpinaa
