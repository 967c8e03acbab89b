/- Dial. -/
import Derived.Test.YtkdladacmjkdoaaF
import Derived.Test.YtkdladacmjkdoaaE
namespace Go.Proofs.Ytkdladacmjkdoaa
open Go.RowKit Go.Lib
theorem siteB_true {x : Int} (h : siteB x = true) : 0 ≤ x ∧ x < 4 := by unfold siteB at h; simp only [Bool.and_eq_true, decide_eq_true_eq] at h; exact h
theorem timeB_true {x : Int} (h : timeB x = true) : 0 ≤ x ∧ x ≤ 1073741824 := by unfold timeB at h; simp only [Bool.and_eq_true, decide_eq_true_eq] at h; exact h
theorem chk_ok {s : Ses} (h : chk s = 0) : (0 ≤ s.l ∧ s.l < 4) ∧ (0 ≤ s.r ∧ s.r < 4) ∧ s.l ≠ s.r ∧ (0 ≤ s.e ∧ s.e ≤ 1073741824) ∧ (0 ≤ s.n ∧ s.n ≤ 1073741824) ∧ (s.p = 0 ∨ s.p = 1 ∨ s.p = 2) ∧ (0 ≤ s.d ∧ s.d ≤ 1073741824) ∧ (s.p = 1 ∨ s.d = 0) := by
  unfold chk siteB timeB at h
  simp only [Bool.and_eq_false_iff, decide_eq_false_iff_not] at h
  (repeat' split at h) <;> omega
theorem fitB_true {n p : Int} (hn : timeB n = true) (h : fitB n p = true) : 0 ≤ p ∧ n + p ≤ 1073741824 := by
  have := timeB_true hn
  unfold fitB at h
  rw [w64 (by omega) (by omega)] at h
  simp only [Bool.and_eq_true, decide_eq_true_eq] at h
  omega
/-- What Dial returns. -/
def dialR (s : Ses) (n p : Int) : Ses × List Mes × Int :=
  if chk s = 0 then
    if s.p ≠ 0 then (z6, [], 26)
    else if timeB n = false ∨ fitB n p = false then (z6, [], 24)
    else if s.n = 1073741824 then (z6, [], 11)
    else ({ s with n := s.n + 1, p := 1, d := n + p }, [nm 5 { s with n := s.n + 1, p := 1, d := n + p }], 0)
  else (z6, [], chk s)
def DialQ (x : Ses × List Mes × Int) (w : World) (f : Ending) (w' : World) : Prop := ∃ v, f = .returned (.tuple #[sv x.1, v, .int .i64 x.2.2]) ∧ MsgQ w.heap.size w' v x.2.1 ∧ Below w.heap.size w w'
set_option maxHeartbeats 4000000 in
set_option maxRecDepth 100000 in
theorem dial_any (s : Ses) (n p : Int) (w : World) : Calls Try.prog 17 #[sv s, .int .i64 n, .int .i64 p] w (DialQ (dialR s n p) w) := by
  obtain ⟨g, hg⟩ : ∃ g, w.heap.size = g := ⟨_, rfl⟩
  obtain ⟨W2, hW2⟩ : ∃ X, (w.alloc (.cells (cS s) 23)).alloc (.cells (cS z6) 23) = X := ⟨_, rfl⟩
  have HB2 : Hid (Below g w W2) := hid (by rw [← hW2, ← hg]; exact below_both (al1 w _) (al1 _ _))
  have H3 : Hid (W2.heap[g]? = some (.cells (cS s) 23)) := hid (by rw [← hW2, ← hg]; exact (Below.heap_alloc _ _ _ (by rw [World.size_alloc]; omega)).trans (heap_alloc_new w _))
  have H6 : Hid (W2.heap[g + 1]? = some (.cells (cS z6) 23)) := hid (by rw [← hW2, ← hg]; exact new_two w _ _)
  obtain ⟨c, hc⟩ : ∃ c, chk s = c := ⟨_, rfl⟩
  have HCK := hid (check_any s W2)
  have HOK : Hid (c = 0 → 0 ≤ s.n ∧ s.n ≤ 1073741824) := hid (fun h => (chk_ok (hc.trans h)).2.2.2.2.1)
  obtain ⟨R, hR⟩ : ∃ R, dialR s n p = R := ⟨_, rfl⟩
  rw [hR]
  unfold dialR at hR
  rw [hc] at HCK hR
  obtain ⟨y0, y1, y2, y3, y4, y5⟩ := load6 H3.out
  have HW2 := hid hW2
  have HG := hid hg
  clear hW2 hg hc
  obtain ⟨l, r, se, sn, sp, sd⟩ := s
  unfold sv
  simp only at y0 y1 y2 y3 y4 y5 hR ⊢
  simp only [cS, z6] at HW2
  by_cases c0 : c = 0
  rotate_left
  · have d0 : (c != 0) = true := by simp [c0]
    rw [if_neg c0] at hR
    have HR := hid hR
    clear hR
    go_enter Try.func17, Try.ntmps17
    go_upto_region 1 with fail
    rw [HG.out, HW2.out]
    go_wp2_with (first | (go_at_call 13; refine HCK.out.mono ?_; rintro e' w3 ⟨rfl, hb⟩; have HB3 := hid (HB2.out.trans (hb.mono (Nat.le_of_lt (box_lt H3.out)))); have h3' := (hb.block _ (box_lt H3.out)).trans H3.out; have h6' := (hb.block _ (box_lt H6.out)).trans H6.out; have H6' := hid h6'; obtain ⟨u0, u1, u2, u3, u4, u5⟩ := load6 h3'; obtain ⟨v0, v1, v2, v3, v4, v5⟩ := load6 h6'; have f6 := box_fr h6'; clear hb h3' h6') | (go_at_call 30; refine (isTime_any n _).mono ?_; rintro _ w' ⟨rfl, hh⟩; subst w'; rw [h3]) | (go_at_call 31; refine (fits_any n p _).mono ?_; rintro _ w' ⟨rfl, hh⟩; subst w'; rw [h4]))
    refine bodyPost_ret (results_s2 rfl _ _ (g + 1) 23 z6 rfl (set6h z6 H6'.out) _ rfl _ rfl) rfl ?_
    rw [← HR.out]
    exact ⟨_, rfl, msgQ_nil _ _, by rw [HG.out]; exact set6b z6 HB3.out (Nat.le_succ _)⟩
  subst c0
  rw [if_pos rfl] at hR
  by_cases p0 : sp = 0
  rotate_left
  · have d2 : (sp != 0) = true := by simp [p0]
    rw [if_pos p0] at hR
    have HR := hid hR
    clear hR
    go_enter Try.func17, Try.ntmps17
    go_upto_region 1 with fail
    rw [HG.out, HW2.out]
    go_wp2_with (first | (go_at_call 13; refine HCK.out.mono ?_; rintro e' w3 ⟨rfl, hb⟩; have HB3 := hid (HB2.out.trans (hb.mono (Nat.le_of_lt (box_lt H3.out)))); have h3' := (hb.block _ (box_lt H3.out)).trans H3.out; have h6' := (hb.block _ (box_lt H6.out)).trans H6.out; have H6' := hid h6'; obtain ⟨u0, u1, u2, u3, u4, u5⟩ := load6 h3'; obtain ⟨v0, v1, v2, v3, v4, v5⟩ := load6 h6'; have f6 := box_fr h6'; clear hb h3' h6') | (go_at_call 30; refine (isTime_any n _).mono ?_; rintro _ w' ⟨rfl, hh⟩; subst w'; rw [h3]) | (go_at_call 31; refine (fits_any n p _).mono ?_; rintro _ w' ⟨rfl, hh⟩; subst w'; rw [h4]))
    refine bodyPost_ret (results_s2 rfl _ _ (g + 1) 23 z6 rfl (set6h z6 H6'.out) _ rfl _ rfl) rfl ?_
    rw [← HR.out]
    exact ⟨_, rfl, msgQ_nil _ _, by rw [HG.out]; exact set6b z6 HB3.out (Nat.le_succ _)⟩
  subst p0
  rw [if_neg (by simp)] at hR
  cases h3 : timeB n
  · rw [if_pos (.inl h3)] at hR
    have HR := hid hR
    clear hR
    go_enter Try.func17, Try.ntmps17
    go_upto_region 1 with fail
    rw [HG.out, HW2.out]
    go_wp2_with (first | (go_at_call 13; refine HCK.out.mono ?_; rintro e' w3 ⟨rfl, hb⟩; have HB3 := hid (HB2.out.trans (hb.mono (Nat.le_of_lt (box_lt H3.out)))); have h3' := (hb.block _ (box_lt H3.out)).trans H3.out; have h6' := (hb.block _ (box_lt H6.out)).trans H6.out; have H6' := hid h6'; obtain ⟨u0, u1, u2, u3, u4, u5⟩ := load6 h3'; obtain ⟨v0, v1, v2, v3, v4, v5⟩ := load6 h6'; have f6 := box_fr h6'; clear hb h3' h6') | (go_at_call 30; refine (isTime_any n _).mono ?_; rintro _ w' ⟨rfl, hh⟩; subst w'; rw [h3]) | (go_at_call 31; refine (fits_any n p _).mono ?_; rintro _ w' ⟨rfl, hh⟩; subst w'; rw [h4]))
    refine bodyPost_ret (results_s2 rfl _ _ (g + 1) 23 z6 rfl (set6h z6 H6'.out) _ rfl _ rfl) rfl ?_
    rw [← HR.out]
    exact ⟨_, rfl, msgQ_nil _ _, by rw [HG.out]; exact set6b z6 HB3.out (Nat.le_succ _)⟩
  cases h4 : fitB n p
  · rw [if_pos (.inr h4)] at hR
    have HR := hid hR
    clear hR
    go_enter Try.func17, Try.ntmps17
    go_upto_region 1 with fail
    rw [HG.out, HW2.out]
    go_wp2_with (first | (go_at_call 13; refine HCK.out.mono ?_; rintro e' w3 ⟨rfl, hb⟩; have HB3 := hid (HB2.out.trans (hb.mono (Nat.le_of_lt (box_lt H3.out)))); have h3' := (hb.block _ (box_lt H3.out)).trans H3.out; have h6' := (hb.block _ (box_lt H6.out)).trans H6.out; have H6' := hid h6'; obtain ⟨u0, u1, u2, u3, u4, u5⟩ := load6 h3'; obtain ⟨v0, v1, v2, v3, v4, v5⟩ := load6 h6'; have f6 := box_fr h6'; clear hb h3' h6') | (go_at_call 30; refine (isTime_any n _).mono ?_; rintro _ w' ⟨rfl, hh⟩; subst w'; rw [h3]) | (go_at_call 31; refine (fits_any n p _).mono ?_; rintro _ w' ⟨rfl, hh⟩; subst w'; rw [h4]))
    refine bodyPost_ret (results_s2 rfl _ _ (g + 1) 23 z6 rfl (set6h z6 H6'.out) _ rfl _ rfl) rfl ?_
    rw [← HR.out]
    exact ⟨_, rfl, msgQ_nil _ _, by rw [HG.out]; exact set6b z6 HB3.out (Nat.le_succ _)⟩
  rw [if_neg (by rw [h3, h4]; simp)] at hR
  by_cases a5 : sn = 1073741824
  · subst a5
    rw [if_pos rfl] at hR
    have HR := hid hR
    clear hR
    go_enter Try.func17, Try.ntmps17
    go_upto_region 1 with fail
    rw [HG.out, HW2.out]
    go_wp2_with (first | (go_at_call 13; refine HCK.out.mono ?_; rintro e' w3 ⟨rfl, hb⟩; have HB3 := hid (HB2.out.trans (hb.mono (Nat.le_of_lt (box_lt H3.out)))); have h3' := (hb.block _ (box_lt H3.out)).trans H3.out; have h6' := (hb.block _ (box_lt H6.out)).trans H6.out; have H6' := hid h6'; obtain ⟨u0, u1, u2, u3, u4, u5⟩ := load6 h3'; obtain ⟨v0, v1, v2, v3, v4, v5⟩ := load6 h6'; have f6 := box_fr h6'; clear hb h3' h6') | (go_at_call 30; refine (isTime_any n _).mono ?_; rintro _ w' ⟨rfl, hh⟩; subst w'; rw [h3]) | (go_at_call 31; refine (fits_any n p _).mono ?_; rintro _ w' ⟨rfl, hh⟩; subst w'; rw [h4]))
    refine bodyPost_ret (results_s2 rfl _ _ (g + 1) 23 z6 rfl (set6h z6 H6'.out) _ rfl _ rfl) rfl ?_
    rw [← HR.out]
    exact ⟨_, rfl, msgQ_nil _ _, by rw [HG.out]; exact set6b z6 HB3.out (Nat.le_succ _)⟩
  rw [if_neg a5] at hR
  have b5 : (sn == 1073741824) = false := by simp [a5]
  have hw1 : wrap64 (sn + 1) = sn + 1 := by have := HOK.out rfl; simp only at this; exact w64 (by omega) (by omega)
  have hw2 : wrap64 (n + p) = n + p := by have := fitB_true h3 h4; have := timeB_true h3; exact w64 (by omega) (by omega)
  go_enter Try.func17, Try.ntmps17
  go_upto_region 1 with fail
  rw [HG.out, HW2.out]
  go_upto_region 13 with (first
   | (go_at_call 13; refine HCK.out.mono ?_; rintro e' w3 ⟨rfl, hb⟩; have HB3 := hid (HB2.out.trans (hb.mono (Nat.le_of_lt (box_lt H3.out)))); have h3' := (hb.block _ (box_lt H3.out)).trans H3.out; have h6' := (hb.block _ (box_lt H6.out)).trans H6.out; have H6' := hid h6'; obtain ⟨u0, u1, u2, u3, u4, u5⟩ := load6 h3'; obtain ⟨v0, v1, v2, v3, v4, v5⟩ := load6 h6'; have f6 := box_fr h6'; clear hb h3' h6')
   | (go_at_call 30; refine (isTime_any n _).mono ?_; rintro _ w' ⟨rfl, hh⟩; subst w'; rw [h3])
   | (go_at_call 31; refine (fits_any n p _).mono ?_; rintro _ w' ⟨rfl, hh⟩; subst w'; rw [h4])
   | (go_at_call 32; refine (enter_any _ ⟨l, r, se, sn + 1, 0, sd⟩ 1 (n + p) _ (heap_alloc_new _ _)).mono ?_; rintro e' w5 ⟨rfl, he5, hu5⟩; have HE5 := hid he5; have HU5 := hid hu5; clear he5 hu5))
  obtain ⟨s1, hs1⟩ : ∃ s1 : Ses, (⟨l, r, se, sn + 1, 1, n + p⟩ : Ses) = s1 := ⟨_, rfl⟩
  have h3l := box_lt H6'.out
  obtain ⟨X0, hX0⟩ : ∃ X, w5.drew = X := ⟨_, rfl⟩
  have hE0 : EndAt X0 w3.heap.size ⟨l, r, se, sn + 1, 1, n + p⟩ := by rw [← hX0]; exact HE5.out
  have hU0 : Upd w3.heap.size w3 X0 := by rw [← hX0]; exact (((Upd.refl _ w3).alloc _).trans HU5.out).drew
  have h60 : X0.heap[g + 1]? = some (.cells (cS z6) 23) := (hU0.block _ h3l (by omega)).trans H6'.out
  obtain ⟨h, hh⟩ : ∃ h, w3.heap.size = h := ⟨_, rfl⟩
  have HB0 : Hid (Below g w X0) := hid (HB3.out.trans (hU0.below (by omega) (by omega)))
  rw [hh] at hE0 hU0 h3l ⊢
  have HX0 := hid hX0
  have hHeld := load6 hE0
  simp only at hHeld
  have HSN := hid (send_any h ⟨l, r, se, sn + 1, 1, n + p⟩ 5 X0 hE0)
  have HE0 := hid hE0
  have HL := hid h3l
  have H60 := hid h60
  have HR := hid hR
  clear hX0 hE0 hU0 h60 hh u0 u1 u2 u3 u4 u5 v0 v1 v2 v3 v4 v5 f6 y0 y1 y2 y3 y4 y5 hR h3l hs1
  refine region_tail 3 (fun X => X.cell? ⟨h, 0, none⟩ = some (.int .i64 l) ∧ X.cell? ⟨h, 1, none⟩ = some (.int .i64 r) ∧ X.cell? ⟨h, 2, none⟩ = some (.int .i64 se) ∧ X.cell? ⟨h, 3, none⟩ = some (.int .i64 (sn + 1)) ∧ X.cell? ⟨h, 4, none⟩ = some (.int .i64 1) ∧ X.cell? ⟨h, 5, none⟩ = some (.int .i64 (n + p))) (by kernel_rfl) ?_
  rw [HX0.out]
  refine' wpAnyT_take (i := 0) (oi := ?oix0) (v := ?vx0) ?hix0 (by kernel_rfl) (by kernel_rfl) ?hqx0 ?hyx0 hHeld ?restx0
  case hix0 => (simp only [List.getElem?_toArray, List.getElem?_cons_zero]; rfl)
  case hqx0 => exact fun _ _ _ h => h
  case hyx0 => (refine Or.inl ⟨by rfl, ?_⟩; intro w' hSw; (try dsimp only at hSw); go_simp; try with_reducible rfl)
  (try simp only [Act.put, List.setIfInBounds_toArray, List.set_cons_zero, List.set_cons_succ])
  refine' wpAnyT_take (i := 1) (oi := ?oix1) (v := ?vx1) ?hix1 (by kernel_rfl) (by kernel_rfl) ?hqx1 ?hyx1 hHeld ?restx1
  case hix1 => (simp only [List.getElem?_toArray, List.getElem?_cons_zero, List.getElem?_cons_succ]; rfl)
  case hqx1 => exact fun _ _ _ h => h
  case hyx1 => (refine Or.inl ⟨by rfl, ?_⟩; intro w' hSw; (try dsimp only at hSw); go_simp; try with_reducible rfl)
  (try simp only [Act.put, List.setIfInBounds_toArray, List.set_cons_zero, List.set_cons_succ])
  refine' wpAnyT_one (i := 2) (o := ?oix2) (by kernel_rfl) ?hix2 (fun K hK => ?stx2)
  case hix2 => (simp only [List.getElem?_toArray, List.getElem?_cons_zero, List.getElem?_cons_succ]; rfl)
  go_simp
  go_at_call 33
  refine HSN.out.mono ?_
  rintro e' X1 ⟨v, rfl, hm, hb⟩
  have HM1 := hid hm
  have HB1 := hid (HB0.out.trans (hb.mono (Nat.le_of_lt (Nat.lt_of_succ_lt (box_lt H60.out)))))
  have h61 := (hb.block _ (box_lt H60.out)).trans H60.out
  have H61 := hid h61
  obtain ⟨v0, v1, v2, v3, v4, v5⟩ := load6 h61
  have f6 := box_fr h61
  have hHeld := load6 ((hb.block _ (box_lt HE0.out)).trans HE0.out)
  simp only at hHeld
  clear hm hb h61
  refine hK.out _ _ (fun _ => hHeld) ?_
  clear hK K
  (try simp only [Act.put, List.setIfInBounds_toArray, List.set_cons_zero, List.set_cons_succ])
  refine' wpAnyT_one (i := 3) (o := ?oix3) (by kernel_rfl) ?hix3 (fun K hK => ?stx3)
  case hix3 => (simp only [List.getElem?_toArray, List.getElem?_cons_zero, List.getElem?_cons_succ]; rfl)
  go_simp
  refine hK.out _ _ (fun h => absurd h (by decide)) ?_
  clear hK K
  (try simp only [Act.put, List.setIfInBounds_toArray, List.set_cons_zero, List.set_cons_succ])
  refine' wpAnyT_one (i := 4) (o := ?oix4) (by kernel_rfl) ?hix4 (fun K hK => ?stx4)
  case hix4 => (simp only [List.getElem?_toArray, List.getElem?_cons_zero, List.getElem?_cons_succ]; rfl)
  go_simp
  refine hK.out _ _ (fun h => absurd h (by decide)) ?_
  clear hK K
  (try simp only [Act.put, List.setIfInBounds_toArray, List.set_cons_zero, List.set_cons_succ])
  refine' wpAnyT_one (i := 5) (o := ?oix5) (by kernel_rfl) ?hix5 (fun K hK => ?stx5)
  case hix5 => (simp only [List.getElem?_toArray, List.getElem?_cons_zero, List.getElem?_cons_succ]; rfl)
  go_simp
  refine hK.out _ _ (fun h => absurd h (by decide)) ?_
  clear hK K
  (try simp only [Act.put, List.setIfInBounds_toArray, List.set_cons_zero, List.set_cons_succ])
  refine wpAnyT_done (by kernel_rfl) ?_ _
  go_wp2_with fail
  refine bodyPost_ret (results_s2 rfl _ _ (g + 1) 23 ⟨l, r, se, sn + 1, 1, n + p⟩ rfl (set6h ⟨l, r, se, sn + 1, 1, n + p⟩ H61.out) _ rfl _ rfl) rfl ?_
  rw [← HR.out]
  refine ⟨v, rfl, ?_, ?_⟩
  · refine HM1.out.keep (by have := HB0.out.size; have := HG.out; omega) (fun b x hb hx => ?_)
    have hne : b ≠ g + 1 := by have := box_lt H60.out; omega
    exact ((set6u (g := g + 1) ⟨l, r, se, sn + 1, 1, n + p⟩ (Upd.refl _ X1)).block b (box_lt hx) hne).trans hx
  · rw [HG.out]
    exact set6b ⟨l, r, se, sn + 1, 1, n + p⟩ HB1.out (Nat.le_succ _)
end Go.Proofs.Ytkdladacmjkdoaa
