/- The law ChecksumDetects is proved: a change within four successive bytes changes the sum, and the chapter's examples hold; what came in reads as before. No condition. -/
import Derived.Test.YtgkcdmbhniipdaaKa
import Derived.Test.YtgkcdmbhniipdaaO
namespace Go.Proofs.Ytgkcdmbhniipdaa
open Go.ChangeShapes Go.WideShapes Go.ChangeAt Go.RowKit Go.Deep

set_option maxRecDepth 100000 in
theorem checksumDetects_lifted (os : Os) (started : os.Started) (H : Type) (enc : TypeId × Value → H) :
    ReturnsInHanded {} Try.checked os 8 .any (Rows.checksumDetectsSpec.pre6 enc Try.prog Try.f8 Rows.checksumDetectsRow.domain false) (Rows.checksumDetectsSpec.post enc Try.prog Try.f8 false true false false) := by
  refine returnsInHanded_of_change (C := Try.checked) Try.own started (by kernel_rfl) Try.func8
    (ChangeSpec.witness6 (enc := enc) (C := Try.checked) false ⟨#[], #[.slice none 0 0, .int .u16 0, .agg #[.int .u8 0, .int .u8 0, .int .u8 0, .int .u8 0]], []⟩ 8 (by kernel_rfl) (by kernel_rfl) (by kernel_rfl) (by kernel_rfl)) ?_
  intro W base args ds gs before hval0 hW hcnd _
  have hval : ∀ (j : Nat) t v, Try.f8.params[j]? = some t → args[j]? = some v → Value.okWide Try.prog W .any base t v := hval0
  have hW' := hW
  obtain ⟨p, q, hA0, hV, rfl, hfz, hnd⟩ := hW
  have hA : DataW.TrodAll enc Try.prog W 0 (fun _ => true) true Try.f8.params.toList args.toList ds p := hA0
  rw [Try.params8] at hA hval
  obtain ⟨v0, v1, v2, d0, d1, d2, p0, p1, p2, rfl, rfl, rfl, h0, h1, h2⟩ := trodAll_three hA
  obtain ⟨rfl, rfl⟩ := trodVars_none hV
  obtain ⟨l0, hx0⟩ := byt_of_trod (hval 0 22 v0 rfl rfl) h0
  have hn0 := nil_of_trod (hval 0 22 v0 rfl rfl) h0
  obtain ⟨b1, rfl, rfl, rfl, wb1⟩ := open_int Try.underlying40 (hval 1 40 v1 rfl rfl) h1
  obtain ⟨n1, he1, hl1⟩ := u16_nat wb1
  obtain ⟨b20, b21, b22, b23, hq2, g20, g21, g22, g23⟩ := arr4_of_trod (hval 2 41 v2 rfl rfl) h2
  clear hA0 hval0
  simp only [List.append_nil, List.nil_append] at hW'
  have hlt0 : ∀ x ∈ p0, x.block < W.heap.size := fun x hx => hW'.lt x (by simp [hx])
  have hlt2 : ∀ x ∈ p2, x.block < W.heap.size := fun x hx => hW'.lt x (by simp [hx])
  subst he1
  subst hq2
  refine (detects_walk l0 n1 b20 b21 b22 b23 v0 W hx0 hn0 hl1 g20 g21 g22 g23).mono fun e W' ⟨he, hb⟩ => ?_
  subst he
  exact ⟨_, rfl, _, _, _, [], _, [], hW', trodAll_mk1 (shut_bool Try.underlying4 _), trodAll_mk3 (Below.trod Try.laidOut read22 row22 h0 hb hlt0) (shut_int Try.underlying40 wb1) (Below.trod Try.laidOut read41 row41 h2 hb hlt2), rfl, hb.frame _, fun h => by cases h⟩

theorem checksumDetects_holds : Rows.ChecksumDetectsSaid :=
  OpenClaim.holds_of_wide 8 Try.f8 rfl rfl rfl rfl rfl rfl rfl ⟨rfl, rfl, rfl, rfl, rfl⟩ rfl rfl rfl rfl rfl (by kernel_rfl) Try.func8 (by kernel_rfl)
    (of_decide_eq_true (by kernel_rfl)) (by unfold Func.isWrapper; rw [if_neg (of_decide_eq_false (by kernel_rfl))]; exact ⟨rfl, rfl⟩)
    (fun os started H enc _ => checksumDetects_lifted os started H enc)
end Go.Proofs.Ytgkcdmbhniipdaa
