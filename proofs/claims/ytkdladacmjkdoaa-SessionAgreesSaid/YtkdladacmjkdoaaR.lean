/- The reference's Dial. -/
import Derived.Test.YtkdladacmjkdoaaQ
namespace Go.Proofs.Ytkdladacmjkdoaa
open Go.RowKit Go.Lib
set_option maxHeartbeats 8000000 in
set_option maxRecDepth 100000 in
theorem rdial_any (s : Ses) (n p : Int) (w : World) : Calls Try.prog 18 #[sv s, .int .i64 n, .int .i64 p] w (DialQ (dialR s n p) w) := by
  obtain ⟨g, hg⟩ : ∃ g, w.heap.size = g := ⟨_, rfl⟩
  obtain ⟨W2, hW2⟩ : ∃ X, (w.alloc (.cells (cS s) 23)).alloc (.cells (cS z6) 23) = X := ⟨_, rfl⟩
  have HB2 : Hid (Below g w W2) := hid (by rw [← hW2, ← hg]; exact below_both (al1 w _) (al1 _ _))
  have H3 : Hid (W2.heap[g]? = some (.cells (cS s) 23)) := hid (by rw [← hW2, ← hg]; exact (Below.heap_alloc _ _ _ (by rw [World.size_alloc]; omega)).trans (heap_alloc_new w _))
  have H6 : Hid (W2.heap[g + 1]? = some (.cells (cS z6) 23)) := hid (by rw [← hW2, ← hg]; exact new_two w _ _)
  obtain ⟨c, hc⟩ : ∃ c, chk s = c := ⟨_, rfl⟩
  have HCK := hid (rcheck_any s W2)
  have HOK : Hid (c = 0 → chk s = 0) := hid (fun h => hc.trans h)
  obtain ⟨R, hR⟩ : ∃ R, dialR s n p = R := ⟨_, rfl⟩
  rw [hR]
  unfold dialR at hR
  rw [hc] at HCK hR
  obtain ⟨y0, y1, y2, y3, y4, y5⟩ := load6 H3.out
  have HW2 := hid hW2
  have HG := hid hg
  clear hW2 hg hc
  obtain ⟨l, r, se, sn, sp, sd⟩ := s
  unfold sv
  simp only at y0 y1 y2 y3 y4 y5 hR ⊢
  simp only [cS, z6] at HW2
  simp only [sv] at HCK
  by_cases c0 : c = 0
  rotate_left
  · have d0 : (c != 0) = true := by simp [c0]
    rw [if_neg c0] at hR
    have HR := hid hR
    clear hR
    go_enter Try.func18, Try.ntmps18
    go_upto_region 1 with fail
    rw [HG.out, HW2.out]
    go_wp2_with (first | (go_at_call 14; (with_reducible refine HCK.out.mono ?_); rintro e' w3 ⟨rfl, hb⟩; have HB3 := hid (HB2.out.trans (hb.mono (Nat.le_of_lt (box_lt H3.out)))); have h3' := (hb.block _ (box_lt H3.out)).trans H3.out; have h6' := (hb.block _ (box_lt H6.out)).trans H6.out; have H3' := hid h3'; have H6' := hid h6'; obtain ⟨u0, u1, u2, u3, u4, u5⟩ := load6 h3'; obtain ⟨v0, v1, v2, v3, v4, v5⟩ := load6 h6'; simp only at u0 u1 u2 u3 u4 u5; simp only [z6] at v0 v1 v2 v3 v4 v5; have f3 := box_fr h3'; have f6 := box_fr h6'; clear hb h3' h6'))
    refine bodyPost_ret (results_s2 rfl _ _ (g + 1) 23 z6 rfl (set6h z6 H6'.out) _ rfl _ rfl) rfl ?_
    rw [← HR.out]
    exact ⟨_, rfl, msgQ_nil _ _, by rw [HG.out]; exact set6b z6 HB3.out (Nat.le_succ _)⟩
  have ok := chk_ok (HOK.out c0)
  have hn0 : 0 ≤ sn ∧ sn ≤ 1073741824 := ok.2.2.2.2.1
  subst c0
  clear ok
  rw [if_pos rfl] at hR
  by_cases p0 : sp = 0
  rotate_left
  · have q1 : (sp != 0) = true := by simp [p0]
    rw [if_pos p0] at hR
    have HR := hid hR
    clear hR
    go_enter Try.func18, Try.ntmps18
    go_upto_region 1 with fail
    rw [HG.out, HW2.out]
    go_wp2_with (first | (go_at_call 14; (with_reducible refine HCK.out.mono ?_); rintro e' w3 ⟨rfl, hb⟩; have HB3 := hid (HB2.out.trans (hb.mono (Nat.le_of_lt (box_lt H3.out)))); have h3' := (hb.block _ (box_lt H3.out)).trans H3.out; have h6' := (hb.block _ (box_lt H6.out)).trans H6.out; have H3' := hid h3'; have H6' := hid h6'; obtain ⟨u0, u1, u2, u3, u4, u5⟩ := load6 h3'; obtain ⟨v0, v1, v2, v3, v4, v5⟩ := load6 h6'; simp only at u0 u1 u2 u3 u4 u5; simp only [z6] at v0 v1 v2 v3 v4 v5; have f3 := box_fr h3'; have f6 := box_fr h6'; clear hb h3' h6'))
    refine bodyPost_ret (results_s2 rfl _ _ (g + 1) 23 z6 rfl (set6h z6 H6'.out) _ rfl _ rfl) rfl ?_
    rw [← HR.out]
    exact ⟨_, rfl, msgQ_nil _ _, by rw [HG.out]; exact set6b z6 HB3.out (Nat.le_succ _)⟩
  subst p0
  rw [if_neg (by simp)] at hR
  by_cases hl : timeB n = false ∨ fitB n p = false
  · have hlt : lateB n p = true := by
      by_cases ht : timeB n = false
      · exact lateB_time ht
      · have ht' := timeB_true (by simpa using ht)
        rw [lateB_fit ht'.1 (by omega), hl.resolve_left ht]
        rfl
    rw [if_pos hl] at hR
    have HR := hid hR
    clear hR
    go_enter Try.func18, Try.ntmps18
    go_upto_region 1 with fail
    rw [HG.out, HW2.out]
    go_wp2_with (first | (go_at_call 14; (with_reducible refine HCK.out.mono ?_); rintro e' w3 ⟨rfl, hb⟩; have HB3 := hid (HB2.out.trans (hb.mono (Nat.le_of_lt (box_lt H3.out)))); have h3' := (hb.block _ (box_lt H3.out)).trans H3.out; have h6' := (hb.block _ (box_lt H6.out)).trans H6.out; have H3' := hid h3'; have H6' := hid h6'; obtain ⟨u0, u1, u2, u3, u4, u5⟩ := load6 h3'; obtain ⟨v0, v1, v2, v3, v4, v5⟩ := load6 h6'; simp only at u0 u1 u2 u3 u4 u5; simp only [z6] at v0 v1 v2 v3 v4 v5; have f3 := box_fr h3'; have f6 := box_fr h6'; clear hb h3' h6') | (go_at_call 34; (with_reducible refine (late_any n p _).mono ?_); rintro _ w' ⟨rfl, hh⟩; subst w'; rw [hlt]))
    refine bodyPost_ret (results_s2 rfl _ _ (g + 1) 23 z6 rfl (set6h z6 H6'.out) _ rfl _ rfl) rfl ?_
    rw [← HR.out]
    exact ⟨_, rfl, msgQ_nil _ _, by rw [HG.out]; exact set6b z6 HB3.out (Nat.le_succ _)⟩
  rw [if_neg hl] at hR
  have hlt : lateB n p = false := by
    have h1 : timeB n = true := by simpa using fun h => hl (.inl h)
    have h2 : fitB n p = true := by simpa using fun h => hl (.inr h)
    have ht' := timeB_true h1
    rw [lateB_fit ht'.1 (by omega), h2]
    rfl
  by_cases a5 : sn = 1073741824
  · subst a5
    rw [if_pos rfl] at hR
    have HR := hid hR
    clear hR
    go_enter Try.func18, Try.ntmps18
    go_upto_region 1 with fail
    rw [HG.out, HW2.out]
    go_wp2_with (first | (go_at_call 14; (with_reducible refine HCK.out.mono ?_); rintro e' w3 ⟨rfl, hb⟩; have HB3 := hid (HB2.out.trans (hb.mono (Nat.le_of_lt (box_lt H3.out)))); have h3' := (hb.block _ (box_lt H3.out)).trans H3.out; have h6' := (hb.block _ (box_lt H6.out)).trans H6.out; have H3' := hid h3'; have H6' := hid h6'; obtain ⟨u0, u1, u2, u3, u4, u5⟩ := load6 h3'; obtain ⟨v0, v1, v2, v3, v4, v5⟩ := load6 h6'; simp only at u0 u1 u2 u3 u4 u5; simp only [z6] at v0 v1 v2 v3 v4 v5; have f3 := box_fr h3'; have f6 := box_fr h6'; clear hb h3' h6') | (go_at_call 34; (with_reducible refine (late_any n p _).mono ?_); rintro _ w' ⟨rfl, hh⟩; subst w'; rw [hlt]))
    refine bodyPost_ret (results_s2 rfl _ _ (g + 1) 23 z6 rfl (set6h z6 H6'.out) _ rfl _ rfl) rfl ?_
    rw [← HR.out]
    exact ⟨_, rfl, msgQ_nil _ _, by rw [HG.out]; exact set6b z6 HB3.out (Nat.le_succ _)⟩
  rw [if_neg a5] at hR
  have b5 : (sn == 1073741824) = false := by simp [a5]
  have hfb : 0 ≤ p ∧ p ≤ 1073741824 ∧ 0 ≤ n ∧ n ≤ 1073741824 := by
    have h1 := hlt
    unfold lateB at h1
    simp only [decide_eq_false_iff_not] at h1
    omega
  have hw1 : wrap64 (sn + 1) = sn + 1 := w64 (by omega) (by omega)
  have hw2 : wrap64 (n + p) = n + p := w64 (by omega) (by omega)
  clear hfb hl hn0 a5
  go_enter Try.func18, Try.ntmps18
  go_upto_region 1 with fail
  rw [HG.out, HW2.out]
  go_upto_region 11 with (first | (go_at_call 14; (with_reducible refine HCK.out.mono ?_); rintro e' w3 ⟨rfl, hb⟩; have HB3 := hid (HB2.out.trans (hb.mono (Nat.le_of_lt (box_lt H3.out)))); have h3' := (hb.block _ (box_lt H3.out)).trans H3.out; have h6' := (hb.block _ (box_lt H6.out)).trans H6.out; have H3' := hid h3'; have H6' := hid h6'; obtain ⟨u0, u1, u2, u3, u4, u5⟩ := load6 h3'; obtain ⟨v0, v1, v2, v3, v4, v5⟩ := load6 h6'; simp only at u0 u1 u2 u3 u4 u5; simp only [z6] at v0 v1 v2 v3 v4 v5; have f3 := box_fr h3'; have f6 := box_fr h6'; clear hb h3' h6') | (go_at_call 34; (with_reducible refine (late_any n p _).mono ?_); rintro _ w' ⟨rfl, hh⟩; subst w'; rw [hlt]))
  obtain ⟨Wf, hWf⟩ : ∃ X, ((w3.setCell ⟨g, 3, none⟩ (.int .i64 (sn + 1))).setCell ⟨g, 4, none⟩ (.int .i64 1)).setCell ⟨g, 5, none⟩ (.int .i64 (n + p)) = X := ⟨_, rfl⟩
  have h3f : Wf.heap[g]? = some (.cells (cS ⟨l, r, se, sn + 1, 1, n + p⟩) 23) := by rw [← hWf]; exact box_set (cs := [.int .i64 l, .int .i64 r, .int .i64 se, .int .i64 (sn + 1), .int .i64 1, .int .i64 sd]) (box_set (cs := [.int .i64 l, .int .i64 r, .int .i64 se, .int .i64 (sn + 1), .int .i64 0, .int .i64 sd]) (box_set (cs := [.int .i64 l, .int .i64 r, .int .i64 se, .int .i64 sn, .int .i64 0, .int .i64 sd]) H3'.out 3 _) 4 _) 5 _
  have h6f : Wf.heap[g + 1]? = some (.cells (cS z6) 23) := by rw [← hWf]; exact keep1 (keep1 (keep1 H6'.out (by omega) _ _) (by omega) _ _) (by omega) _ _
  have hBf : Below g w Wf := by rw [← hWf]; exact (((HB3.out.setCell (Nat.le_refl _) _).setCell (Nat.le_refl _) _).setCell (Nat.le_refl _) _)
  have HWf := hid hWf
  (try simp only [set6] at HWf)
  rw [HWf.out]
  obtain ⟨X0, hX0⟩ : ∃ X, Wf.drew = X := ⟨_, rfl⟩
  have h30 : X0.heap[g]? = some (.cells (cS ⟨l, r, se, sn + 1, 1, n + p⟩) 23) := by rw [← hX0]; exact h3f
  have h60 : X0.heap[g + 1]? = some (.cells (cS z6) 23) := by rw [← hX0]; exact h6f
  have HB0 : Hid (Below g w X0) := hid (by rw [← hX0]; exact below_drew hBf)
  clear h3f h6f hBf hWf
  have hHeld := load6 h30
  simp only at hHeld
  have HSN := hid (message_any ⟨l, r, se, sn + 1, 1, n + p⟩ 5 X0)
  simp only [sv] at HSN
  have HX0 := hid hX0
  have H30 := hid h30
  have H60 := hid h60
  have HR := hid hR
  clear hX0 h30 h60 u0 u1 u2 u3 u4 u5 v0 v1 v2 v3 v4 v5 f3 f6 y0 y1 y2 y3 y4 y5 hR
  refine region_tail 3 (fun X => X.cell? ⟨g, 0, none⟩ = some (.int .i64 l) ∧ X.cell? ⟨g, 1, none⟩ = some (.int .i64 r) ∧ X.cell? ⟨g, 2, none⟩ = some (.int .i64 se) ∧ X.cell? ⟨g, 3, none⟩ = some (.int .i64 (sn + 1)) ∧ X.cell? ⟨g, 4, none⟩ = some (.int .i64 1) ∧ X.cell? ⟨g, 5, none⟩ = some (.int .i64 (n + p))) (by kernel_rfl) ?_
  rw [HX0.out]
  refine' wpAnyT_take (i := 0) (oi := ?oiy0) (v := ?vy0) ?hiy0 (by kernel_rfl) (by kernel_rfl) ?hqy0 ?hyy0 hHeld ?resty0
  case hiy0 => (simp only [List.getElem?_toArray, List.getElem?_cons_zero]; rfl)
  case hqy0 => exact fun _ _ _ h => h
  case hyy0 => (refine Or.inl ⟨by rfl, ?_⟩; intro w' hSw; (try dsimp only at hSw); go_simp; try with_reducible rfl)
  (try simp only [Act.put, List.setIfInBounds_toArray, List.set_cons_zero, List.set_cons_succ])
  refine' wpAnyT_take (i := 1) (oi := ?oiy1) (v := ?vy1) ?hiy1 (by kernel_rfl) (by kernel_rfl) ?hqy1 ?hyy1 hHeld ?resty1
  case hiy1 => (simp only [List.getElem?_toArray, List.getElem?_cons_zero, List.getElem?_cons_succ]; rfl)
  case hqy1 => exact fun _ _ _ h => h
  case hyy1 => (refine Or.inl ⟨by rfl, ?_⟩; intro w' hSw; (try dsimp only at hSw); go_simp; try with_reducible rfl)
  (try simp only [Act.put, List.setIfInBounds_toArray, List.set_cons_zero, List.set_cons_succ])
  refine' wpAnyT_one (i := 2) (o := ?oiy2) (by kernel_rfl) ?hiy2 (fun K hK => ?sty2)
  case hiy2 => (simp only [List.getElem?_toArray, List.getElem?_cons_zero, List.getElem?_cons_succ]; rfl)
  go_simp
  go_at_call 35
  (with_reducible refine HSN.out.mono ?_)
  rintro e' X1 ⟨v, rfl, hm, hb⟩
  have HM1 := hid hm
  have HB1 := hid (HB0.out.trans (hb.mono (Nat.le_of_lt (box_lt H30.out))))
  have h61 := (hb.block _ (box_lt H60.out)).trans H60.out
  have H61 := hid h61
  obtain ⟨v0, v1, v2, v3, v4, v5⟩ := load6 h61
  simp only [z6] at v0 v1 v2 v3 v4 v5
  have f6 := box_fr h61
  have hHeld := load6 ((hb.block _ (box_lt H30.out)).trans H30.out)
  simp only at hHeld
  clear hm hb h61
  refine hK.out _ _ (fun _ => hHeld) ?_
  clear hK K
  (try simp only [Act.put, List.setIfInBounds_toArray, List.set_cons_zero, List.set_cons_succ])
  refine' wpAnyT_one (i := 3) (o := ?oiy3) (by kernel_rfl) ?hiy3 (fun K hK => ?sty3)
  case hiy3 => (simp only [List.getElem?_toArray, List.getElem?_cons_zero, List.getElem?_cons_succ]; rfl)
  go_simp
  refine hK.out _ _ (fun h => absurd h (by decide)) ?_
  clear hK K
  (try simp only [Act.put, List.setIfInBounds_toArray, List.set_cons_zero, List.set_cons_succ])
  refine' wpAnyT_one (i := 4) (o := ?oiy4) (by kernel_rfl) ?hiy4 (fun K hK => ?sty4)
  case hiy4 => (simp only [List.getElem?_toArray, List.getElem?_cons_zero, List.getElem?_cons_succ]; rfl)
  go_simp
  refine hK.out _ _ (fun h => absurd h (by decide)) ?_
  clear hK K
  (try simp only [Act.put, List.setIfInBounds_toArray, List.set_cons_zero, List.set_cons_succ])
  refine' wpAnyT_one (i := 5) (o := ?oiy5) (by kernel_rfl) ?hiy5 (fun K hK => ?sty5)
  case hiy5 => (simp only [List.getElem?_toArray, List.getElem?_cons_zero, List.getElem?_cons_succ]; rfl)
  go_simp
  refine hK.out _ _ (fun h => absurd h (by decide)) ?_
  clear hK K
  (try simp only [Act.put, List.setIfInBounds_toArray, List.set_cons_zero, List.set_cons_succ])
  refine wpAnyT_done (by kernel_rfl) ?_ _
  go_wp2_with fail
  refine bodyPost_ret (results_s2 rfl _ _ (g + 1) 23 ⟨l, r, se, sn + 1, 1, n + p⟩ rfl (set6h ⟨l, r, se, sn + 1, 1, n + p⟩ H61.out) _ rfl _ rfl) rfl ?_
  rw [← HR.out]
  refine ⟨v, rfl, ?_, ?_⟩
  · refine HM1.out.keep (by have := HB0.out.size; have := HG.out; omega) (fun b x hb hx => ?_)
    have hne : b ≠ g + 1 := by have := box_lt H60.out; omega
    exact ((set6u (g := g + 1) ⟨l, r, se, sn + 1, 1, n + p⟩ (Upd.refl _ X1)).block b (box_lt hx) hne).trans hx
  · rw [HG.out]
    exact set6b ⟨l, r, se, sn + 1, 1, n + p⟩ HB1.out (Nat.le_succ _)
end Go.Proofs.Ytkdladacmjkdoaa
