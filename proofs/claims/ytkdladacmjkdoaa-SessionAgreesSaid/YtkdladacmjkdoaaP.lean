/- Expire. -/
import Derived.Test.YtkdladacmjkdoaaO
namespace Go.Proofs.Ytkdladacmjkdoaa
open Go.RowKit Go.Lib
/-- What Expire returns. -/
def expR (s : Ses) (n q : Int) : Ses × List Mes := if chk s = 0 ∧ s.p = 1 ∧ s.d ≤ n then (if fitB n q = false then ({ s with p := 0, d := 0 }, []) else ({ s with p := 1, d := n + q }, [nm 5 { s with p := 1, d := n + q }])) else (s, [])
set_option maxHeartbeats 4000000 in
set_option maxRecDepth 100000 in
theorem expire_any (s : Ses) (n q : Int) (w : World) (hrn : R64 n) : Calls Try.prog 20 #[sv s, .int .i64 n, .int .i64 q] w (PairQ (expR s n q) w) := by
  obtain ⟨g, hg⟩ : ∃ g, w.heap.size = g := ⟨_, rfl⟩
  obtain ⟨W2, hW2⟩ : ∃ X, (w.alloc (.cells (cS s) 23)).alloc (.cells (cS z6) 23) = X := ⟨_, rfl⟩
  have HB2 : Hid (Below g w W2) := hid (by rw [← hW2, ← hg]; exact below_both (al1 w _) (al1 _ _))
  have H3 : Hid (W2.heap[g]? = some (.cells (cS s) 23)) := hid (by rw [← hW2, ← hg]; exact (Below.heap_alloc _ _ _ (by rw [World.size_alloc]; omega)).trans (heap_alloc_new w _))
  have H6 : Hid (W2.heap[g + 1]? = some (.cells (cS z6) 23)) := hid (by rw [← hW2, ← hg]; exact new_two w _ _)
  obtain ⟨c, hc⟩ : ∃ c, chk s = c := ⟨_, rfl⟩
  have HCK := hid (check_any s W2)
  have HOK : Hid (c = 0 → 0 ≤ s.d ∧ s.d ≤ 1073741824) := hid (fun h => (chk_ok (hc.trans h)).2.2.2.2.2.2.1)
  obtain ⟨R, hR⟩ : ∃ R, expR s n q = R := ⟨_, rfl⟩
  rw [hR]
  unfold expR at hR
  rw [hc] at HCK hR
  obtain ⟨y0, y1, y2, y3, y4, y5⟩ := load6 H3.out
  have HW2 := hid hW2
  have HG := hid hg
  clear hW2 hg hc
  obtain ⟨l, r, se, sn, sp, sd⟩ := s
  unfold sv
  simp only at y0 y1 y2 y3 y4 y5 hR ⊢
  simp only [cS, z6] at HW2
  by_cases c0 : c = 0
  rotate_left
  · have d0 : (c != 0) = true := by simp [c0]
    rw [if_neg (fun h => c0 h.1)] at hR
    have HR := hid hR
    clear hR
    go_enter Try.func20, Try.ntmps20
    go_upto_region 1 with fail
    rw [HG.out, HW2.out]
    go_wp2_with (go_at_call 13; refine HCK.out.mono ?_; rintro e' w3 ⟨rfl, hb⟩; have HB3 := hid (HB2.out.trans (hb.mono (Nat.le_of_lt (box_lt H3.out)))); have h3' := (hb.block _ (box_lt H3.out)).trans H3.out; have h6' := (hb.block _ (box_lt H6.out)).trans H6.out; have H6' := hid h6'; obtain ⟨u0, u1, u2, u3, u4, u5⟩ := load6 h3'; obtain ⟨v0, v1, v2, v3, v4, v5⟩ := load6 h6'; have f6 := box_fr h6'; clear hb h3' h6')
    refine bodyPost_ret (results_s1 rfl _ _ (g + 1) 23 ⟨l, r, se, sn, sp, sd⟩ rfl (set6h ⟨l, r, se, sn, sp, sd⟩ H6'.out) _ rfl) rfl ?_
    rw [← HR.out]
    exact ⟨_, rfl, msgQ_nil _ _, by rw [HG.out]; exact set6b ⟨l, r, se, sn, sp, sd⟩ HB3.out (Nat.le_succ _)⟩
  subst c0
  have hok := HOK.out rfl
  simp only at hok
  by_cases p1 : sp = 1
  rotate_left
  · have q0 : (sp != 1) = true := by simp [p1]
    rw [if_neg (fun h => p1 h.2.1)] at hR
    have HR := hid hR
    clear hR
    go_enter Try.func20, Try.ntmps20
    go_upto_region 1 with fail
    rw [HG.out, HW2.out]
    go_wp2_with (go_at_call 13; refine HCK.out.mono ?_; rintro e' w3 ⟨rfl, hb⟩; have HB3 := hid (HB2.out.trans (hb.mono (Nat.le_of_lt (box_lt H3.out)))); have h3' := (hb.block _ (box_lt H3.out)).trans H3.out; have h6' := (hb.block _ (box_lt H6.out)).trans H6.out; have H6' := hid h6'; obtain ⟨u0, u1, u2, u3, u4, u5⟩ := load6 h3'; obtain ⟨v0, v1, v2, v3, v4, v5⟩ := load6 h6'; have f6 := box_fr h6'; clear hb h3' h6')
    refine bodyPost_ret (results_s1 rfl _ _ (g + 1) 23 ⟨l, r, se, sn, sp, sd⟩ rfl (set6h ⟨l, r, se, sn, sp, sd⟩ H6'.out) _ rfl) rfl ?_
    rw [← HR.out]
    exact ⟨_, rfl, msgQ_nil _ _, by rw [HG.out]; exact set6b ⟨l, r, se, sn, sp, sd⟩ HB3.out (Nat.le_succ _)⟩
  subst p1
  by_cases a1 : sd ≤ n
  rotate_left
  · have b1 : decide (n < sd) = true := decide_eq_true (by omega)
    rw [if_neg (fun h => a1 h.2.2)] at hR
    have HA1 := hid a1
    clear a1 hok
    have HR := hid hR
    clear hR
    go_enter Try.func20, Try.ntmps20
    go_upto_region 1 with fail
    rw [HG.out, HW2.out]
    go_wp2_with (go_at_call 13; refine HCK.out.mono ?_; rintro e' w3 ⟨rfl, hb⟩; have HB3 := hid (HB2.out.trans (hb.mono (Nat.le_of_lt (box_lt H3.out)))); have h3' := (hb.block _ (box_lt H3.out)).trans H3.out; have h6' := (hb.block _ (box_lt H6.out)).trans H6.out; have H6' := hid h6'; obtain ⟨u0, u1, u2, u3, u4, u5⟩ := load6 h3'; obtain ⟨v0, v1, v2, v3, v4, v5⟩ := load6 h6'; have f6 := box_fr h6'; clear hb h3' h6')
    refine bodyPost_ret (results_s1 rfl _ _ (g + 1) 23 ⟨l, r, se, sn, 1, sd⟩ rfl (set6h ⟨l, r, se, sn, 1, sd⟩ H6'.out) _ rfl) rfl ?_
    rw [← HR.out]
    exact ⟨_, rfl, msgQ_nil _ _, by rw [HG.out]; exact set6b ⟨l, r, se, sn, 1, sd⟩ HB3.out (Nat.le_succ _)⟩
  have b1 : decide (n < sd) = false := decide_eq_false (by omega)
  rw [if_pos ⟨rfl, rfl, a1⟩] at hR
  cases h4 : fitB n q
  · rw [if_pos h4] at hR
    have HR := hid hR
    have HA1 := hid a1
    clear hR a1 hok
    go_enter Try.func20, Try.ntmps20
    go_upto_region 1 with fail
    rw [HG.out, HW2.out]
    go_wp2_with (first
      | (go_at_call 13; refine HCK.out.mono ?_; rintro e' w3 ⟨rfl, hb⟩; have HB3 := hid (HB2.out.trans (hb.mono (Nat.le_of_lt (box_lt H3.out)))); have h3' := (hb.block _ (box_lt H3.out)).trans H3.out; have h6' := (hb.block _ (box_lt H6.out)).trans H6.out; have H6' := hid h6'; obtain ⟨u0, u1, u2, u3, u4, u5⟩ := load6 h3'; obtain ⟨v0, v1, v2, v3, v4, v5⟩ := load6 h6'; have f6 := box_fr h6'; clear hb h3' h6')
      | (go_at_call 31; refine (fits_any n q _).mono ?_; rintro _ w' ⟨rfl, hh⟩; subst w'; rw [h4])
      | (go_at_call 37; refine (close_any _ ⟨l, r, se, sn, 1, sd⟩ _ (heap_alloc_new _ _)).mono ?_; rintro e' w5 ⟨rfl, he5, hu5⟩; have HU5 := hid (((Upd.refl _ w3).alloc _).trans hu5); have P6 := hid ((HU5.out.block _ (box_lt H6'.out) (by have := box_lt H6'.out; omega)).trans H6'.out); obtain ⟨r0, r1, r2, r3, r4, r5⟩ := load6 he5; obtain ⟨t0, t1, t2, t3, t4, t5⟩ := load6 P6.out; have f8 := box_fr P6.out; clear he5 hu5))
    refine bodyPost_ret (results_s1 rfl _ _ (g + 1) 23 ⟨l, r, se, sn, 0, 0⟩ rfl (set6h ⟨l, r, se, sn, 0, 0⟩ P6.out) _ rfl) rfl ?_
    rw [← HR.out]
    exact ⟨_, rfl, msgQ_nil _ _, by rw [HG.out]; exact set6b ⟨l, r, se, sn, 0, 0⟩ (HB3.out.trans (HU5.out.below (by have := box_lt H6'.out; omega) (by have := box_lt H6'.out; omega))) (Nat.le_succ _)⟩
  rw [if_neg (by rw [h4]; simp)] at hR
  have hw2 : wrap64 (n + q) = n + q := by
    have h := h4
    obtain ⟨z1, z2⟩ := hrn
    unfold fitB at h
    rw [w64 (by omega) (by omega)] at h
    simp only [Bool.and_eq_true, decide_eq_true_eq] at h
    exact w64 (by omega) (by omega)
  have HA1 := hid a1
  clear a1 hok
  go_enter Try.func20, Try.ntmps20
  go_upto_region 1 with fail
  rw [HG.out, HW2.out]
  go_upto_region 8 with (first
   | (go_at_call 13; refine HCK.out.mono ?_; rintro e' w3 ⟨rfl, hb⟩; have HB3 := hid (HB2.out.trans (hb.mono (Nat.le_of_lt (box_lt H3.out)))); have h3' := (hb.block _ (box_lt H3.out)).trans H3.out; have h6' := (hb.block _ (box_lt H6.out)).trans H6.out; have H6' := hid h6'; obtain ⟨u0, u1, u2, u3, u4, u5⟩ := load6 h3'; obtain ⟨v0, v1, v2, v3, v4, v5⟩ := load6 h6'; have f6 := box_fr h6'; clear hb h3' h6')
   | (go_at_call 31; refine (fits_any n q _).mono ?_; rintro _ w' ⟨rfl, hh⟩; subst w'; rw [h4])
   | (go_at_call 32; refine (enter_any _ ⟨l, r, se, sn, 1, sd⟩ 1 (n + q) _ (heap_alloc_new _ _)).mono ?_; rintro e' w5 ⟨rfl, he5, hu5⟩; have HE5 := hid he5; have HU5 := hid hu5; clear he5 hu5))
  have h3l := box_lt H6'.out
  obtain ⟨X0, hX0⟩ : ∃ X, w5.drew = X := ⟨_, rfl⟩
  have hE0 : EndAt X0 w3.heap.size ⟨l, r, se, sn, 1, n + q⟩ := by rw [← hX0]; exact HE5.out
  have hU0 : Upd w3.heap.size w3 X0 := by rw [← hX0]; exact (((Upd.refl _ w3).alloc _).trans HU5.out).drew
  have h60 : X0.heap[g + 1]? = some (.cells (cS z6) 23) := (hU0.block _ h3l (by omega)).trans H6'.out
  obtain ⟨h, hh⟩ : ∃ h, w3.heap.size = h := ⟨_, rfl⟩
  have HB0 : Hid (Below g w X0) := hid (HB3.out.trans (hU0.below (by omega) (by omega)))
  rw [hh] at hE0 hU0 h3l ⊢
  have HX0 := hid hX0
  have hHeld := load6 hE0
  simp only at hHeld
  have HSN := hid (send_any h ⟨l, r, se, sn, 1, n + q⟩ 5 X0 hE0)
  have HE0 := hid hE0
  have HL := hid h3l
  have H60 := hid h60
  have HR := hid hR
  clear hX0 hE0 hU0 h60 hh u0 u1 u2 u3 u4 u5 v0 v1 v2 v3 v4 v5 f6 y0 y1 y2 y3 y4 y5 hR h3l
  refine region_tail 3 (fun X => X.cell? ⟨h, 0, none⟩ = some (.int .i64 l) ∧ X.cell? ⟨h, 1, none⟩ = some (.int .i64 r) ∧ X.cell? ⟨h, 2, none⟩ = some (.int .i64 se) ∧ X.cell? ⟨h, 3, none⟩ = some (.int .i64 sn) ∧ X.cell? ⟨h, 4, none⟩ = some (.int .i64 1) ∧ X.cell? ⟨h, 5, none⟩ = some (.int .i64 (n + q))) (by kernel_rfl) ?_
  rw [HX0.out]
  refine' wpAnyT_take (i := 0) (oi := ?oix0) (v := ?vx0) ?hix0 (by kernel_rfl) (by kernel_rfl) ?hqx0 ?hyx0 hHeld ?restx0
  case hix0 => (simp only [List.getElem?_toArray, List.getElem?_cons_zero]; rfl)
  case hqx0 => exact fun _ _ _ h => h
  case hyx0 => (refine Or.inl ⟨by rfl, ?_⟩; intro w' hSw; (try dsimp only at hSw); go_simp; try with_reducible rfl)
  (try simp only [Act.put, List.setIfInBounds_toArray, List.set_cons_zero, List.set_cons_succ])
  refine' wpAnyT_take (i := 1) (oi := ?oix1) (v := ?vx1) ?hix1 (by kernel_rfl) (by kernel_rfl) ?hqx1 ?hyx1 hHeld ?restx1
  case hix1 => (simp only [List.getElem?_toArray, List.getElem?_cons_zero, List.getElem?_cons_succ]; rfl)
  case hqx1 => exact fun _ _ _ h => h
  case hyx1 => (refine Or.inl ⟨by rfl, ?_⟩; intro w' hSw; (try dsimp only at hSw); go_simp; try with_reducible rfl)
  (try simp only [Act.put, List.setIfInBounds_toArray, List.set_cons_zero, List.set_cons_succ])
  refine' wpAnyT_one (i := 2) (o := ?oix2) (by kernel_rfl) ?hix2 (fun K hK => ?stx2)
  case hix2 => (simp only [List.getElem?_toArray, List.getElem?_cons_zero, List.getElem?_cons_succ]; rfl)
  go_simp
  go_at_call 33
  refine HSN.out.mono ?_
  rintro e' X1 ⟨v, rfl, hm, hb⟩
  have HM1 := hid hm
  have HB1 := hid (HB0.out.trans (hb.mono (Nat.le_of_lt (Nat.lt_of_succ_lt (box_lt H60.out)))))
  have h61 := (hb.block _ (box_lt H60.out)).trans H60.out
  have H61 := hid h61
  obtain ⟨v0, v1, v2, v3, v4, v5⟩ := load6 h61
  have f6 := box_fr h61
  have hHeld := load6 ((hb.block _ (box_lt HE0.out)).trans HE0.out)
  simp only at hHeld
  clear hm hb h61
  refine hK.out _ _ (fun _ => hHeld) ?_
  clear hK K
  (try simp only [Act.put, List.setIfInBounds_toArray, List.set_cons_zero, List.set_cons_succ])
  refine' wpAnyT_one (i := 3) (o := ?oix3) (by kernel_rfl) ?hix3 (fun K hK => ?stx3)
  case hix3 => (simp only [List.getElem?_toArray, List.getElem?_cons_zero, List.getElem?_cons_succ]; rfl)
  go_simp
  refine hK.out _ _ (fun h => absurd h (by decide)) ?_
  clear hK K
  (try simp only [Act.put, List.setIfInBounds_toArray, List.set_cons_zero, List.set_cons_succ])
  refine' wpAnyT_one (i := 4) (o := ?oix4) (by kernel_rfl) ?hix4 (fun K hK => ?stx4)
  case hix4 => (simp only [List.getElem?_toArray, List.getElem?_cons_zero, List.getElem?_cons_succ]; rfl)
  go_simp
  refine hK.out _ _ (fun h => absurd h (by decide)) ?_
  clear hK K
  (try simp only [Act.put, List.setIfInBounds_toArray, List.set_cons_zero, List.set_cons_succ])
  refine wpAnyT_done (by kernel_rfl) ?_ _
  go_wp2_with fail
  refine bodyPost_ret (results_s1 rfl _ _ (g + 1) 23 ⟨l, r, se, sn, 1, n + q⟩ rfl (set6h ⟨l, r, se, sn, 1, n + q⟩ H61.out) _ rfl) rfl ?_
  rw [← HR.out]
  refine ⟨v, rfl, ?_, ?_⟩
  · refine HM1.out.keep (by have := HB0.out.size; have := HG.out; omega) (fun b x hb hx => ?_)
    have hne : b ≠ g + 1 := by have := box_lt H60.out; omega
    exact ((set6u (g := g + 1) ⟨l, r, se, sn, 1, n + q⟩ (Upd.refl _ X1)).block b (box_lt hx) hne).trans hx
  · rw [HG.out]
    exact set6b ⟨l, r, se, sn, 1, n + q⟩ HB1.out (Nat.le_succ _)
end Go.Proofs.Ytkdladacmjkdoaa
