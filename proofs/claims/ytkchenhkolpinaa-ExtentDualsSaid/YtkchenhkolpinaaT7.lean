/- The law ExtentDuals is proved: within a size the complement of a union is the intersection of the complements, and a difference is an intersection with a complement, for all lists and sizes. No condition. -/
import Derived.Test.YtkchenhkolpinaaU
import Derived.Test.YtkchenhkolpinaaX
namespace Go.Proofs.Ytkchenhkolpinaa
open Go.ChangeShapes Go.WideShapes Go.ChangeAt Go.RowKit Go.Deep

theorem dual_bool (i p q : Bool) : ((i && !p) && (i && !q)) = (i && !(p || q)) := by cases i <;> cases p <;> cases q <;> rfl
theorem diff_bool (a b : List (Int × Int)) (x : Int) : (mem a x && (inE (0, 4096) x && !mem b x)) = (mem a x && !mem b x) := by
  cases ha : mem a x with
  | false => rfl
  | true =>
    have h := mem_range ha
    have : inE (0, 4096) x = true := by rw [inE_iff]; simp only; omega
    rw [this]; rfl

set_option maxHeartbeats 4000000 in
theorem duals_walk (a b : List (Int × Int)) (va vb : Value) (size : Int) (w : World) (ha : Ext w va a) (hb : Ext w vb b) (s0 : 0 ≤ size) (s1 : size ≤ 65535) :
    Calls Try.prog 9 #[va, vb, .int .u16 size] w fun e w' => e = .returned (.bool true) ∧ Below w.heap.size w w' := by
  by_cases hl : a.length ≤ 20 ∧ b.length ≤ 20
  · have HFew := hid (few_yes ha hb hl)
    obtain ⟨la', lb'⟩ := hl
    have la : a.length ≤ 10000 := by omega
    have lb : b.length ≤ 10000 := by omega
    clear la' lb'
    obtain ⟨A, ca, rfl⟩ := ext_form ha
    obtain ⟨B, cb, rfl⟩ := ext_form hb
    go_enter Try.func9, Try.ntmps9
    go_wp2_with fail
    refine HFew.out.mono ?_
    rintro e w1 ⟨rfl, rfl⟩
    go_wp2_with fail
    refine (made_len (union_any a b _ _ _ ha hb la lb)).mono ?_
    rintro e w2 ⟨v1, l1, rfl, h1, hc1, hm1, hl1, hBw⟩
    have hT1 : Below w.heap.size w w2 := hBw
    have ha := ha.below hBw
    have hb := hb.below hBw
    clear hBw
    go_wp2_with fail
    refine (made_len (complement_any l1 _ _ _ h1 (by omega) (by unfold R64; omega))).mono ?_
    rintro e w3 ⟨v2, lx, rfl, h2, hc2, hm2, hl2, hBw⟩
    have hT2 : Below w.heap.size w w3 := below_both hT1 hBw
    clear hT1
    have ha := ha.below hBw
    have hb := hb.below hBw
    have h1 := h1.below hBw
    clear hBw
    clear h1
    go_wp2_with fail
    refine (made_len (complement_any a _ _ _ ha la (by unfold R64; omega))).mono ?_
    rintro e w4 ⟨v3, l3, rfl, h3, hc3, hm3, hl3, hBw⟩
    have hT3 : Below w.heap.size w w4 := below_both hT2 hBw
    clear hT2
    have ha := ha.below hBw
    have hb := hb.below hBw
    have h2 := h2.below hBw
    clear hBw
    go_wp2_with fail
    refine (made_len (complement_any b _ _ _ hb lb (by unfold R64; omega))).mono ?_
    rintro e w5 ⟨v4, l4, rfl, h4, hc4, hm4, hl4, hBw⟩
    have hT4 : Below w.heap.size w w5 := below_both hT3 hBw
    clear hT3
    have ha := ha.below hBw
    have hb := hb.below hBw
    have h2 := h2.below hBw
    have h3 := h3.below hBw
    clear hBw
    go_wp2_with fail
    refine (made_len (intersect_any l3 l4 _ _ _ h3 h4 (by omega) (by omega))).mono ?_
    rintro e w6 ⟨v5, ly, rfl, h5, hc5, hm5, hl5, hBw⟩
    have hT5 : Below w.heap.size w w6 := below_both hT4 hBw
    clear hT4
    have ha := ha.below hBw
    have hb := hb.below hBw
    have h2 := h2.below hBw
    have h3 := h3.below hBw
    have h4 := h4.below hBw
    clear hBw
    clear h3
    clear h4
    have hxy : ly = lx := canon_ext (Int.le_refl _) hc5 hc2 (fun x => by rw [hm5, hm2, hm3, hm4, hm1]; exact dual_bool _ _ _)
    rw [hxy] at h5
    clear hxy hm1 hm2 hm3 hm4 hm5 hc1 hc2 hc3 hc4 hc5
    go_wp2_with fail
    refine (aw_same lx _ _ _ h2 h5 (by omega)).mono ?_
    rintro e w7 ⟨rfl, hBw⟩
    have hT6 : Below w.heap.size w w7 := below_both hT5 hBw
    clear hT5
    have ha := ha.below hBw
    have hb := hb.below hBw
    have h2 := h2.below hBw
    have h5 := h5.below hBw
    clear hBw
    clear h2
    clear h5
    go_wp2_with fail
    refine (made_len (subtract_any a b _ _ _ ha hb la lb)).mono ?_
    rintro e w8 ⟨v6, l6, rfl, h6, hc6, hm6, hl6, hBw⟩
    have hT7 : Below w.heap.size w w8 := below_both hT6 hBw
    clear hT6
    have ha := ha.below hBw
    have hb := hb.below hBw
    clear hBw
    go_wp2_with fail
    refine (made_len (complement_any b _ 4096 _ hb lb (by unfold R64; omega))).mono ?_
    rintro e w9 ⟨v7, l7, rfl, h7, hc7, hm7, hl7, hBw⟩
    have hT8 : Below w.heap.size w w9 := below_both hT7 hBw
    clear hT7
    have ha := ha.below hBw
    have hb := hb.below hBw
    have h6 := h6.below hBw
    clear hBw
    go_wp2_with fail
    refine (made_len (intersect_any a l7 _ _ _ ha h7 la (by omega))).mono ?_
    rintro e w10 ⟨v8, l8, rfl, h8, hc8, hm8, hl8, hBw⟩
    have hT9 : Below w.heap.size w w10 := below_both hT8 hBw
    clear hT8
    have ha := ha.below hBw
    have hb := hb.below hBw
    have h6 := h6.below hBw
    have h7 := h7.below hBw
    clear hBw
    clear h7
    have hxy : l8 = l6 := canon_ext (Int.le_refl _) hc8 hc6 (fun x => by rw [hm8, hm6, hm7]; exact diff_bool a b x)
    rw [hxy] at h8
    clear hxy hm6 hm7 hm8 hc6 hc7 hc8
    go_wp2_with fail
    refine (aw_same l6 _ _ _ h6 h8 (by omega)).mono ?_
    rintro e w11 ⟨rfl, hBw⟩
    have hT10 : Below w.heap.size w w11 := below_both hT9 hBw
    clear hT9
    have ha := ha.below hBw
    have hb := hb.below hBw
    have h6 := h6.below hBw
    have h8 := h8.below hBw
    clear hBw
    clear h6
    clear h8
    go_wp2_with fail
    refine (awake_any _).mono ?_
    rintro e w12 ⟨rfl, hBw⟩
    have hT11 : Below w.heap.size w w12 := below_both hT10 hBw
    clear hT10
    have ha := ha.below hBw
    have hb := hb.below hBw
    clear hBw
    go_wp2_with fail
    go_ret
    exact ⟨rfl, hT11⟩
  · have HFew := hid (few_no ha hb hl)
    obtain ⟨A, ca, rfl⟩ := ext_form ha
    obtain ⟨B, cb, rfl⟩ := ext_form hb
    clear ha hb hl
    go_enter Try.func9, Try.ntmps9
    go_wp2_with (first | (go_at_call 12; refine HFew.out.mono ?_; rintro e w1 ⟨rfl, rfl⟩) | (go_at_call 13; refine (awake_any _).mono ?_; rintro e w3 ⟨rfl, hb3⟩))
    go_ret
    exact ⟨rfl, hb3⟩

set_option maxRecDepth 100000 in
theorem extentDuals_lifted (os : Os) (started : os.Started) (H : Type) (enc : TypeId × Value → H) :
    ReturnsInHanded {} Try.checked os 9 .any (Rows.extentDualsSpec.pre6 enc Try.prog Try.f9 Rows.extentDualsRow.domain false) (Rows.extentDualsSpec.post enc Try.prog Try.f9 false true false false) := by
  refine returnsInHanded_of_change (C := Try.checked) Try.own started (by kernel_rfl) Try.func9
    (ChangeSpec.witness6 (enc := enc) (C := Try.checked) false ⟨#[], #[.slice none 0 0, .slice none 0 0, .int .u16 0], []⟩ 8 (by kernel_rfl) (by kernel_rfl) (by kernel_rfl) (by kernel_rfl)) ?_
  intro W base args ds gs before hval0 hW hcnd _
  have hval : ∀ (j : Nat) t v, Try.f9.params[j]? = some t → args[j]? = some v → Value.okWide Try.prog W .any base t v := hval0
  have hW' := hW
  obtain ⟨p, q, hA0, hV, rfl, hfz, hnd⟩ := hW
  have hA : DataW.TrodAll enc Try.prog W 0 (fun _ => true) true Try.f9.params.toList args.toList ds p := hA0
  rw [Try.params9] at hA hval
  obtain ⟨v0, v1, v2, d0, d1, d2, p0, p1, p2, rfl, rfl, rfl, h0, h1, h2⟩ := trodAll_three hA
  obtain ⟨rfl, rfl⟩ := trodVars_none hV
  obtain ⟨a2, rfl, rfl, rfl, wa2⟩ := open_int Try.underlying41 (hval 2 41 v2 rfl rfl) h2
  obtain ⟨l0, hl0⟩ := ext_of_trod (hval 0 22 v0 rfl rfl) h0
  obtain ⟨l1, hl1⟩ := ext_of_trod (hval 1 22 v1 rfl rfl) h1
  clear hA0 hval0
  simp only [List.append_nil] at hW'
  have hlt0 : ∀ x ∈ p0, x.block < W.heap.size := fun x hx => hW'.lt x (by simp [hx])
  have hlt1 : ∀ x ∈ p1, x.block < W.heap.size := fun x hx => hW'.lt x (by simp [hx])
  refine (duals_walk l0 l1 v0 v1 a2 W hl0 hl1 (bounds_u16 wa2).1 (bounds_u16 wa2).2).mono fun e W' ⟨he, hb⟩ => ?_
  subst he
  exact ⟨_, rfl, _, _, _, [], _, [], hW', trodAll_mk1 (shut_bool Try.underlying4 _), trodAll_mk3 (Below.trod Try.laidOut read22 row22 h0 hb hlt0) (Below.trod Try.laidOut read22 row22 h1 hb hlt1) (shut_int Try.underlying41 wa2), rfl, hb.frame _, fun h => by cases h⟩

theorem extentDuals_holds : Rows.ExtentDualsSaid :=
  OpenClaim.holds_of_wide 9 Try.f9 rfl rfl rfl rfl rfl rfl rfl ⟨rfl, rfl, rfl, rfl, rfl⟩ rfl rfl rfl rfl rfl (by kernel_rfl) Try.func9 (by kernel_rfl)
    (of_decide_eq_true (by kernel_rfl)) (by unfold Func.isWrapper; rw [if_neg (of_decide_eq_false (by kernel_rfl))]; exact ⟨rfl, rfl⟩)
    (fun os started H enc _ => extentDuals_lifted os started H enc)
end Go.Proofs.Ytkchenhkolpinaa
