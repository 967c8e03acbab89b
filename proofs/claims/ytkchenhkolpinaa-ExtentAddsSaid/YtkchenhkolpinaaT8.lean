/- The law ExtentAdds is proved: for all lists of extents the numbers of sectors of union and intersection add up to those of both sets, and those of difference and intersection to that of the first. No condition. -/
import Derived.Test.YtkchenhkolpinaaU
import Derived.Test.YtkchenhkolpinaaX
namespace Go.Proofs.Ytkchenhkolpinaa
open Go.ChangeShapes Go.WideShapes Go.ChangeAt Go.RowKit Go.Deep

def CountSays (p : Int → Bool) (n : Int) : Prop := ∀ (l : List (Int × Int)) (v : Value) (w : World), Ext w v l → l.length ≤ 10000 → (∀ x, mem l x = p x) → Calls Try.prog 25 #[v] w fun e w' => e = .returned (.int .i64 n) ∧ Below w.heap.size w w'
theorem count_says (p : Int → Bool) : ∃ n, CountSays p n ∧ n = card p ∧ 0 ≤ n ∧ n ≤ 4096 := ⟨card p, fun l v w h hl hp => count_c l v p w h hl hp, rfl, (card_range p).1, (card_range p).2⟩

set_option maxHeartbeats 4000000 in
theorem adds_walk (a b : List (Int × Int)) (va vb : Value) (w : World) (ha : Ext w va a) (hb : Ext w vb b) :
    Calls Try.prog 10 #[va, vb] w fun e w' => e = .returned (.bool true) ∧ Below w.heap.size w w' := by
  by_cases hl : a.length ≤ 20 ∧ b.length ≤ 20
  · have HFew := hid (few_yes ha hb hl)
    obtain ⟨la', lb'⟩ := hl
    have la : a.length ≤ 10000 := by omega
    have lb : b.length ≤ 10000 := by omega
    clear la' lb'
    obtain ⟨nI, CI, eI, i0, i1⟩ := count_says (fun x => mem a x && mem b x)
    obtain ⟨nU, CU, eU, u0, u1⟩ := count_says (fun x => mem a x || mem b x)
    obtain ⟨nS, CS, eS, s0, s1⟩ := count_says (fun x => mem a x && !mem b x)
    obtain ⟨nA, CA, eA, a0, a1⟩ := count_says (fun x => mem a x)
    obtain ⟨nB, CB, eB, b0, b1⟩ := count_says (fun x => mem b x)
    have q1 : (nU + nI == nA + nB) = true := by rw [beq_iff_eq, eU, eI, eA, eB]; exact (card_add _ _).symm
    have q2 : (nS + nI == nA) = true := by rw [beq_iff_eq, eS, eI, eA]; exact card_sub _ _
    have cI := CI
    have cU := CU
    have cS := CS
    have cA := CA
    have cB := CB
    clear CI CU CS CA CB eI eU eS eA eB
    obtain ⟨A, ca, rfl⟩ := ext_form ha
    obtain ⟨B, cb, rfl⟩ := ext_form hb
    go_enter Try.func10, Try.ntmps10
    go_wp2_with fail
    refine HFew.out.mono ?_
    rintro e w1 ⟨rfl, rfl⟩
    go_wp2_with fail
    refine (made_len (intersect_any a b _ _ _ ha hb la lb)).mono ?_
    rintro e w2 ⟨v1, l1, rfl, hx1, hc1, hm1, hl1, hBw⟩
    have hT1 : Below w.heap.size w w2 := hBw
    have ha := ha.below hBw
    have hb := hb.below hBw
    clear hBw
    go_wp2_with fail
    refine (cI l1 _ _ hx1 (by omega) hm1).mono ?_
    rintro e w3 ⟨rfl, hBw⟩
    have hT2 : Below w.heap.size w w3 := below_both hT1 hBw
    clear hT1
    have ha := ha.below hBw
    have hb := hb.below hBw
    have hx1 := hx1.below hBw
    clear hBw
    clear hx1
    go_wp2_with fail
    refine (made_len (union_any a b _ _ _ ha hb la lb)).mono ?_
    rintro e w4 ⟨v2, l2, rfl, hx2, hc2, hm2, hl2, hBw⟩
    have hT3 : Below w.heap.size w w4 := below_both hT2 hBw
    clear hT2
    have ha := ha.below hBw
    have hb := hb.below hBw
    clear hBw
    go_wp2_with fail
    refine (cU l2 _ _ hx2 (by omega) hm2).mono ?_
    rintro e w5 ⟨rfl, hBw⟩
    have hT4 : Below w.heap.size w w5 := below_both hT3 hBw
    clear hT3
    have ha := ha.below hBw
    have hb := hb.below hBw
    have hx2 := hx2.below hBw
    clear hBw
    clear hx2
    go_wp2_with fail
    refine (cA a _ _ ha (by omega) (fun _ => rfl)).mono ?_
    rintro e w6 ⟨rfl, hBw⟩
    have hT5 : Below w.heap.size w w6 := below_both hT4 hBw
    clear hT4
    have ha := ha.below hBw
    have hb := hb.below hBw
    clear hBw
    go_wp2_with fail
    refine (cB b _ _ hb (by omega) (fun _ => rfl)).mono ?_
    rintro e w7 ⟨rfl, hBw⟩
    have hT6 : Below w.heap.size w w7 := below_both hT5 hBw
    clear hT5
    have ha := ha.below hBw
    have hb := hb.below hBw
    clear hBw
    go_wp2_with fail
    refine (made_len (subtract_any a b _ _ _ ha hb la lb)).mono ?_
    rintro e w8 ⟨v3, l3, rfl, hx3, hc3, hm3, hl3, hBw⟩
    have hT7 : Below w.heap.size w w8 := below_both hT6 hBw
    clear hT6
    have ha := ha.below hBw
    have hb := hb.below hBw
    clear hBw
    go_wp2_with fail
    refine (cS l3 _ _ hx3 (by omega) hm3).mono ?_
    rintro e w9 ⟨rfl, hBw⟩
    have hT8 : Below w.heap.size w w9 := below_both hT7 hBw
    clear hT7
    have ha := ha.below hBw
    have hb := hb.below hBw
    have hx3 := hx3.below hBw
    clear hBw
    clear hx3
    go_wp2_with fail
    refine (cA a _ _ ha (by omega) (fun _ => rfl)).mono ?_
    rintro e w10 ⟨rfl, hBw⟩
    have hT9 : Below w.heap.size w w10 := below_both hT8 hBw
    clear hT8
    have ha := ha.below hBw
    have hb := hb.below hBw
    clear hBw
    go_wp2_with fail
    refine (awake_any _).mono ?_
    rintro e w11 ⟨rfl, hBw⟩
    have hT10 : Below w.heap.size w w11 := below_both hT9 hBw
    clear hT9
    have ha := ha.below hBw
    have hb := hb.below hBw
    clear hBw
    go_wp2_with fail
    go_ret
    exact ⟨rfl, hT10⟩
  · have HFew := hid (few_no ha hb hl)
    obtain ⟨A, ca, rfl⟩ := ext_form ha
    obtain ⟨B, cb, rfl⟩ := ext_form hb
    clear ha hb hl
    go_enter Try.func10, Try.ntmps10
    go_wp2_with (first | (go_at_call 12; refine HFew.out.mono ?_; rintro e w1 ⟨rfl, rfl⟩) | (go_at_call 13; refine (awake_any _).mono ?_; rintro e w3 ⟨rfl, hb3⟩))
    go_ret
    exact ⟨rfl, hb3⟩

set_option maxRecDepth 100000 in
theorem extentAdds_lifted (os : Os) (started : os.Started) (H : Type) (enc : TypeId × Value → H) :
    ReturnsInHanded {} Try.checked os 10 .any (Rows.extentAddsSpec.pre6 enc Try.prog Try.f10 Rows.extentAddsRow.domain false) (Rows.extentAddsSpec.post enc Try.prog Try.f10 false true false false) := by
  refine returnsInHanded_of_change (C := Try.checked) Try.own started (by kernel_rfl) Try.func10
    (ChangeSpec.witness6 (enc := enc) (C := Try.checked) false ⟨#[], #[.slice none 0 0, .slice none 0 0], []⟩ 8 (by kernel_rfl) (by kernel_rfl) (by kernel_rfl) (by kernel_rfl)) ?_
  intro W base args ds gs before hval0 hW hcnd _
  have hval : ∀ (j : Nat) t v, Try.f10.params[j]? = some t → args[j]? = some v → Value.okWide Try.prog W .any base t v := hval0
  have hW' := hW
  obtain ⟨p, q, hA0, hV, rfl, hfz, hnd⟩ := hW
  have hA : DataW.TrodAll enc Try.prog W 0 (fun _ => true) true Try.f10.params.toList args.toList ds p := hA0
  rw [Try.params10] at hA hval
  obtain ⟨v0, v1, d0, d1, p0, p1, rfl, rfl, rfl, h0, h1⟩ := trodAll_two hA
  obtain ⟨rfl, rfl⟩ := trodVars_none hV
  obtain ⟨l0, hl0⟩ := ext_of_trod (hval 0 22 v0 rfl rfl) h0
  obtain ⟨l1, hl1⟩ := ext_of_trod (hval 1 22 v1 rfl rfl) h1
  clear hA0 hval0
  simp only [List.append_nil] at hW'
  have hlt0 : ∀ x ∈ p0, x.block < W.heap.size := fun x hx => hW'.lt x (by simp [hx])
  have hlt1 : ∀ x ∈ p1, x.block < W.heap.size := fun x hx => hW'.lt x (by simp [hx])
  refine (adds_walk l0 l1 v0 v1 W hl0 hl1).mono fun e W' ⟨he, hb⟩ => ?_
  subst he
  exact ⟨_, rfl, _, _, _, [], _, [], hW', trodAll_mk1 (shut_bool Try.underlying4 _), trodAll_mk2 (Below.trod Try.laidOut read22 row22 h0 hb hlt0) (Below.trod Try.laidOut read22 row22 h1 hb hlt1), rfl, hb.frame _, fun h => by cases h⟩

theorem extentAdds_holds : Rows.ExtentAddsSaid :=
  OpenClaim.holds_of_wide 10 Try.f10 rfl rfl rfl rfl rfl rfl rfl ⟨rfl, rfl, rfl, rfl, rfl⟩ rfl rfl rfl rfl rfl (by kernel_rfl) Try.func10 (by kernel_rfl)
    (of_decide_eq_true (by kernel_rfl)) (by unfold Func.isWrapper; rw [if_neg (of_decide_eq_false (by kernel_rfl))]; exact ⟨rfl, rfl⟩)
    (fun os started H enc _ => extentAdds_lifted os started H enc)
end Go.Proofs.Ytkchenhkolpinaa
