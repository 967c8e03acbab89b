/- The reference's Close and Expire. -/
import Derived.Test.YtkdladacmjkdoaaO
import Derived.Test.YtkdladacmjkdoaaP
namespace Go.Proofs.Ytkdladacmjkdoaa
open Go.RowKit Go.Lib
theorem phase_any' (s : Ses) (p : Int) (w : World) : Calls Try.prog 38 #[.agg #[.int .i64 s.l, .int .i64 s.r, .int .i64 s.e, .int .i64 s.n, .int .i64 s.p, .int .i64 s.d], .int .i64 p] w fun e w' => e = .returned (.agg #[.int .i64 s.l, .int .i64 s.r, .int .i64 s.e, .int .i64 s.n, .int .i64 p, .int .i64 0]) ∧ Below w.heap.size w w' := phase_any s p w
theorem keep1 {w : World} {g h : Nat} {o : Obj} (hk : w.heap[g]? = some o) (hn : g ≠ h) (i : Nat) (x : Value) : (w.setCell ⟨h, i, none⟩ x).heap[g]? = some o := (Below.heap_setCell _ _ _ _ hn).trans hk
theorem keep6 {w : World} {g h : Nat} {o : Obj} (hk : w.heap[g]? = some o) (hn : g ≠ h) (s : Ses) : (set6 w h s).heap[g]? = some o := keep1 (keep1 (keep1 (keep1 (keep1 (keep1 hk hn 0 _) hn 1 _) hn 2 _) hn 3 _) hn 4 _) hn 5 _
set_option maxHeartbeats 8000000 in
set_option maxRecDepth 100000 in
theorem rclose_any (s : Ses) (w : World) : Calls Try.prog 23 #[sv s] w (PairQ (closeR s) w) := by
  obtain ⟨g, hg⟩ : ∃ g, w.heap.size = g := ⟨_, rfl⟩
  obtain ⟨W2, hW2⟩ : ∃ X, (w.alloc (.cells (cS s) 23)).alloc (.cells (cS z6) 23) = X := ⟨_, rfl⟩
  have HB2 : Hid (Below g w W2) := hid (by rw [← hW2, ← hg]; exact below_both (al1 w _) (al1 _ _))
  have H3 : Hid (W2.heap[g]? = some (.cells (cS s) 23)) := hid (by rw [← hW2, ← hg]; exact (Below.heap_alloc _ _ _ (by rw [World.size_alloc]; omega)).trans (heap_alloc_new w _))
  have H6 : Hid (W2.heap[g + 1]? = some (.cells (cS z6) 23)) := hid (by rw [← hW2, ← hg]; exact new_two w _ _)
  obtain ⟨c, hc⟩ : ∃ c, chk s = c := ⟨_, rfl⟩
  have HCK := hid (rcheck_any s W2)
  have HOK : Hid (c = 0 → chk s = 0) := hid (fun h => hc.trans h)
  obtain ⟨R, hR⟩ : ∃ R, closeR s = R := ⟨_, rfl⟩
  rw [hR]
  unfold closeR at hR
  rw [hc] at HCK hR
  obtain ⟨y0, y1, y2, y3, y4, y5⟩ := load6 H3.out
  have HW2 := hid hW2
  have HG := hid hg
  clear hW2 hg hc
  obtain ⟨l, r, se, sn, sp, sd⟩ := s
  unfold sv
  simp only at y0 y1 y2 y3 y4 y5 hR ⊢
  simp only [cS, z6] at HW2
  simp only [sv] at HCK
  by_cases c0 : c = 0
  rotate_left
  · have d0 : (c != 0) = true := by simp [c0]
    rw [if_neg (fun h => c0 h.1)] at hR
    have HR := hid hR
    clear hR
    go_enter Try.func23, Try.ntmps23
    go_upto_region 1 with fail
    rw [HG.out, HW2.out]
    go_wp2_with (first | (go_at_call 14; (with_reducible refine HCK.out.mono ?_); rintro e' w3 ⟨rfl, hb⟩; have HB3 := hid (HB2.out.trans (hb.mono (Nat.le_of_lt (box_lt H3.out)))); have h3' := (hb.block _ (box_lt H3.out)).trans H3.out; have h6' := (hb.block _ (box_lt H6.out)).trans H6.out; have H3' := hid h3'; have H6' := hid h6'; obtain ⟨u0, u1, u2, u3, u4, u5⟩ := load6 h3'; obtain ⟨v0, v1, v2, v3, v4, v5⟩ := load6 h6'; simp only at u0 u1 u2 u3 u4 u5; simp only [z6] at v0 v1 v2 v3 v4 v5; have f3 := box_fr h3'; have f6 := box_fr h6'; clear hb h3' h6'))
    refine bodyPost_ret (results_s1 rfl _ _ (g + 1) 23 ⟨l, r, se, sn, sp, sd⟩ rfl (set6h ⟨l, r, se, sn, sp, sd⟩ H6'.out) _ rfl) rfl ?_
    rw [← HR.out]
    exact ⟨_, rfl, msgQ_nil _ _, by rw [HG.out]; exact set6b ⟨l, r, se, sn, sp, sd⟩ HB3.out (Nat.le_succ _)⟩
  subst c0
  by_cases p0 : sp = 0
  · subst p0
    rw [if_neg (fun h => h.2 rfl)] at hR
    have HR := hid hR
    clear hR
    go_enter Try.func23, Try.ntmps23
    go_upto_region 1 with fail
    rw [HG.out, HW2.out]
    go_wp2_with (first | (go_at_call 14; (with_reducible refine HCK.out.mono ?_); rintro e' w3 ⟨rfl, hb⟩; have HB3 := hid (HB2.out.trans (hb.mono (Nat.le_of_lt (box_lt H3.out)))); have h3' := (hb.block _ (box_lt H3.out)).trans H3.out; have h6' := (hb.block _ (box_lt H6.out)).trans H6.out; have H3' := hid h3'; have H6' := hid h6'; obtain ⟨u0, u1, u2, u3, u4, u5⟩ := load6 h3'; obtain ⟨v0, v1, v2, v3, v4, v5⟩ := load6 h6'; simp only at u0 u1 u2 u3 u4 u5; simp only [z6] at v0 v1 v2 v3 v4 v5; have f3 := box_fr h3'; have f6 := box_fr h6'; clear hb h3' h6'))
    refine bodyPost_ret (results_s1 rfl _ _ (g + 1) 23 ⟨l, r, se, sn, 0, sd⟩ rfl (set6h ⟨l, r, se, sn, 0, sd⟩ H6'.out) _ rfl) rfl ?_
    rw [← HR.out]
    exact ⟨_, rfl, msgQ_nil _ _, by rw [HG.out]; exact set6b ⟨l, r, se, sn, 0, sd⟩ HB3.out (Nat.le_succ _)⟩
  have q0 : (sp == 0) = false := by simp [p0]
  rw [if_pos ⟨rfl, p0⟩] at hR
  clear p0
  go_enter Try.func23, Try.ntmps23
  go_upto_region 1 with fail
  rw [HG.out, HW2.out]
  go_upto_region 4 with (first | (go_at_call 14; (with_reducible refine HCK.out.mono ?_); rintro e' w3 ⟨rfl, hb⟩; have HB3 := hid (HB2.out.trans (hb.mono (Nat.le_of_lt (box_lt H3.out)))); have h3' := (hb.block _ (box_lt H3.out)).trans H3.out; have h6' := (hb.block _ (box_lt H6.out)).trans H6.out; have H3' := hid h3'; have H6' := hid h6'; obtain ⟨u0, u1, u2, u3, u4, u5⟩ := load6 h3'; obtain ⟨v0, v1, v2, v3, v4, v5⟩ := load6 h6'; simp only at u0 u1 u2 u3 u4 u5; simp only [z6] at v0 v1 v2 v3 v4 v5; have f3 := box_fr h3'; have f6 := box_fr h6'; clear hb h3' h6') | (go_at_call 38; (with_reducible refine (phase_any' ⟨l, r, se, sn, sp, sd⟩ 0 _).mono ?_); rintro e' w5 ⟨rfl, hb⟩; have HB5 := hid (HB3.out.trans (hb.mono (Nat.le_of_lt (box_lt H3'.out)))); have h3' := (hb.block _ (box_lt H3'.out)).trans H3'.out; have h6' := (hb.block _ (box_lt H6'.out)).trans H6'.out; have H35 := hid h3'; have H65 := hid h6'; obtain ⟨u0, u1, u2, u3, u4, u5⟩ := load6 h3'; obtain ⟨v0, v1, v2, v3, v4, v5⟩ := load6 h6'; simp only at u0 u1 u2 u3 u4 u5; simp only [z6] at v0 v1 v2 v3 v4 v5; have f3 := box_fr h3'; have f6 := box_fr h6'; clear hb h3' h6'))
  obtain ⟨Wf, hWf⟩ : ∃ X, set6 w5 g ⟨l, r, se, sn, 0, 0⟩ = X := ⟨_, rfl⟩
  have h3f : Wf.heap[g]? = some (.cells (cS ⟨l, r, se, sn, 0, 0⟩) 23) := by rw [← hWf]; exact set6h ⟨l, r, se, sn, 0, 0⟩ H35.out
  have h6f : Wf.heap[g + 1]? = some (.cells (cS z6) 23) := by rw [← hWf]; exact keep6 H65.out (by omega) _
  have hBf : Below g w Wf := by rw [← hWf]; exact (set6b ⟨l, r, se, sn, 0, 0⟩ HB5.out (Nat.le_refl _))
  have HWf := hid hWf
  (try simp only [set6] at HWf)
  rw [HWf.out]
  obtain ⟨X0, hX0⟩ : ∃ X, Wf.drew = X := ⟨_, rfl⟩
  have h30 : X0.heap[g]? = some (.cells (cS ⟨l, r, se, sn, 0, 0⟩) 23) := by rw [← hX0]; exact h3f
  have h60 : X0.heap[g + 1]? = some (.cells (cS z6) 23) := by rw [← hX0]; exact h6f
  have HB0 : Hid (Below g w X0) := hid (by rw [← hX0]; exact below_drew hBf)
  clear h3f h6f hBf hWf
  have hHeld := load6 h30
  simp only at hHeld
  have HSN := hid (message_any ⟨l, r, se, sn, 0, 0⟩ 7 X0)
  simp only [sv] at HSN
  have HX0 := hid hX0
  have H30 := hid h30
  have H60 := hid h60
  have HR := hid hR
  clear hX0 h30 h60 u0 u1 u2 u3 u4 u5 v0 v1 v2 v3 v4 v5 f3 f6 y0 y1 y2 y3 y4 y5 hR
  refine region_tail 3 (fun X => X.cell? ⟨g, 0, none⟩ = some (.int .i64 l) ∧ X.cell? ⟨g, 1, none⟩ = some (.int .i64 r) ∧ X.cell? ⟨g, 2, none⟩ = some (.int .i64 se) ∧ X.cell? ⟨g, 3, none⟩ = some (.int .i64 sn) ∧ X.cell? ⟨g, 4, none⟩ = some (.int .i64 0) ∧ X.cell? ⟨g, 5, none⟩ = some (.int .i64 0)) (by kernel_rfl) ?_
  rw [HX0.out]
  refine' wpAnyT_take (i := 0) (oi := ?oix0) (v := ?vx0) ?hix0 (by kernel_rfl) (by kernel_rfl) ?hqx0 ?hyx0 hHeld ?restx0
  case hix0 => (simp only [List.getElem?_toArray, List.getElem?_cons_zero]; rfl)
  case hqx0 => exact fun _ _ _ h => h
  case hyx0 => (refine Or.inl ⟨by rfl, ?_⟩; intro w' hSw; (try dsimp only at hSw); go_simp; try with_reducible rfl)
  (try simp only [Act.put, List.setIfInBounds_toArray, List.set_cons_zero, List.set_cons_succ])
  refine' wpAnyT_take (i := 1) (oi := ?oix1) (v := ?vx1) ?hix1 (by kernel_rfl) (by kernel_rfl) ?hqx1 ?hyx1 hHeld ?restx1
  case hix1 => (simp only [List.getElem?_toArray, List.getElem?_cons_zero, List.getElem?_cons_succ]; rfl)
  case hqx1 => exact fun _ _ _ h => h
  case hyx1 => (refine Or.inl ⟨by rfl, ?_⟩; intro w' hSw; (try dsimp only at hSw); go_simp; try with_reducible rfl)
  (try simp only [Act.put, List.setIfInBounds_toArray, List.set_cons_zero, List.set_cons_succ])
  refine' wpAnyT_one (i := 2) (o := ?oix2) (by kernel_rfl) ?hix2 (fun K hK => ?stx2)
  case hix2 => (simp only [List.getElem?_toArray, List.getElem?_cons_zero, List.getElem?_cons_succ]; rfl)
  go_simp
  go_at_call 35
  (with_reducible refine HSN.out.mono ?_)
  rintro e' X1 ⟨v, rfl, hm, hb⟩
  have HM1 := hid hm
  have HB1 := hid (HB0.out.trans (hb.mono (Nat.le_of_lt (box_lt H30.out))))
  have h61 := (hb.block _ (box_lt H60.out)).trans H60.out
  have H61 := hid h61
  obtain ⟨v0, v1, v2, v3, v4, v5⟩ := load6 h61
  simp only [z6] at v0 v1 v2 v3 v4 v5
  have f6 := box_fr h61
  have hHeld := load6 ((hb.block _ (box_lt H30.out)).trans H30.out)
  simp only at hHeld
  clear hm hb h61
  refine hK.out _ _ (fun _ => hHeld) ?_
  clear hK K
  (try simp only [Act.put, List.setIfInBounds_toArray, List.set_cons_zero, List.set_cons_succ])
  refine' wpAnyT_one (i := 3) (o := ?oix3) (by kernel_rfl) ?hix3 (fun K hK => ?stx3)
  case hix3 => (simp only [List.getElem?_toArray, List.getElem?_cons_zero, List.getElem?_cons_succ]; rfl)
  go_simp
  refine hK.out _ _ (fun h => absurd h (by decide)) ?_
  clear hK K
  (try simp only [Act.put, List.setIfInBounds_toArray, List.set_cons_zero, List.set_cons_succ])
  refine' wpAnyT_one (i := 4) (o := ?oix4) (by kernel_rfl) ?hix4 (fun K hK => ?stx4)
  case hix4 => (simp only [List.getElem?_toArray, List.getElem?_cons_zero, List.getElem?_cons_succ]; rfl)
  go_simp
  refine hK.out _ _ (fun h => absurd h (by decide)) ?_
  clear hK K
  (try simp only [Act.put, List.setIfInBounds_toArray, List.set_cons_zero, List.set_cons_succ])
  refine wpAnyT_done (by kernel_rfl) ?_ _
  go_wp2_with fail
  refine bodyPost_ret (results_s1 rfl _ _ (g + 1) 23 ⟨l, r, se, sn, 0, 0⟩ rfl (set6h ⟨l, r, se, sn, 0, 0⟩ H61.out) _ rfl) rfl ?_
  rw [← HR.out]
  refine ⟨v, rfl, ?_, ?_⟩
  · refine HM1.out.keep (by have := HB0.out.size; have := HG.out; omega) (fun b x hb hx => ?_)
    have hne : b ≠ g + 1 := by have := box_lt H60.out; omega
    exact ((set6u (g := g + 1) ⟨l, r, se, sn, 0, 0⟩ (Upd.refl _ X1)).block b (box_lt hx) hne).trans hx
  · rw [HG.out]
    exact set6b ⟨l, r, se, sn, 0, 0⟩ HB1.out (Nat.le_succ _)
set_option maxHeartbeats 8000000 in
set_option maxRecDepth 100000 in
theorem rexpire_any (s : Ses) (n q : Int) (w : World) (hrn : R64 n) : Calls Try.prog 21 #[sv s, .int .i64 n, .int .i64 q] w (PairQ (expR s n q) w) := by
  obtain ⟨g, hg⟩ : ∃ g, w.heap.size = g := ⟨_, rfl⟩
  obtain ⟨W2, hW2⟩ : ∃ X, (w.alloc (.cells (cS s) 23)).alloc (.cells (cS z6) 23) = X := ⟨_, rfl⟩
  have HB2 : Hid (Below g w W2) := hid (by rw [← hW2, ← hg]; exact below_both (al1 w _) (al1 _ _))
  have H3 : Hid (W2.heap[g]? = some (.cells (cS s) 23)) := hid (by rw [← hW2, ← hg]; exact (Below.heap_alloc _ _ _ (by rw [World.size_alloc]; omega)).trans (heap_alloc_new w _))
  have H6 : Hid (W2.heap[g + 1]? = some (.cells (cS z6) 23)) := hid (by rw [← hW2, ← hg]; exact new_two w _ _)
  obtain ⟨c, hc⟩ : ∃ c, chk s = c := ⟨_, rfl⟩
  have HCK := hid (rcheck_any s W2)
  have HOK : Hid (c = 0 → chk s = 0) := hid (fun h => hc.trans h)
  obtain ⟨R, hR⟩ : ∃ R, expR s n q = R := ⟨_, rfl⟩
  rw [hR]
  unfold expR at hR
  rw [hc] at HCK hR
  obtain ⟨y0, y1, y2, y3, y4, y5⟩ := load6 H3.out
  have HW2 := hid hW2
  have HG := hid hg
  clear hW2 hg hc
  obtain ⟨l, r, se, sn, sp, sd⟩ := s
  unfold sv
  simp only at y0 y1 y2 y3 y4 y5 hR ⊢
  simp only [cS, z6] at HW2
  simp only [sv] at HCK
  by_cases c0 : c = 0
  rotate_left
  · have d0 : (c != 0) = true := by simp [c0]
    rw [if_neg (fun h => c0 h.1)] at hR
    have HR := hid hR
    clear hR
    go_enter Try.func21, Try.ntmps21
    go_upto_region 1 with fail
    rw [HG.out, HW2.out]
    go_wp2_with (first | (go_at_call 14; (with_reducible refine HCK.out.mono ?_); rintro e' w3 ⟨rfl, hb⟩; have HB3 := hid (HB2.out.trans (hb.mono (Nat.le_of_lt (box_lt H3.out)))); have h3' := (hb.block _ (box_lt H3.out)).trans H3.out; have h6' := (hb.block _ (box_lt H6.out)).trans H6.out; have H3' := hid h3'; have H6' := hid h6'; obtain ⟨u0, u1, u2, u3, u4, u5⟩ := load6 h3'; obtain ⟨v0, v1, v2, v3, v4, v5⟩ := load6 h6'; simp only at u0 u1 u2 u3 u4 u5; simp only [z6] at v0 v1 v2 v3 v4 v5; have f3 := box_fr h3'; have f6 := box_fr h6'; clear hb h3' h6'))
    refine bodyPost_ret (results_s1 rfl _ _ (g + 1) 23 ⟨l, r, se, sn, sp, sd⟩ rfl (set6h ⟨l, r, se, sn, sp, sd⟩ H6'.out) _ rfl) rfl ?_
    rw [← HR.out]
    exact ⟨_, rfl, msgQ_nil _ _, by rw [HG.out]; exact set6b ⟨l, r, se, sn, sp, sd⟩ HB3.out (Nat.le_succ _)⟩
  have ok := chk_ok (HOK.out c0)
  have hd0 : 0 ≤ sd ∧ sd ≤ 1073741824 := ok.2.2.2.2.2.2.1
  subst c0
  clear ok
  by_cases p1 : sp = 1
  rotate_left
  · have q1 : (sp != 1) = true := by simp [p1]
    rw [if_neg (fun h => p1 h.2.1)] at hR
    have HR := hid hR
    clear hR
    go_enter Try.func21, Try.ntmps21
    go_upto_region 1 with fail
    rw [HG.out, HW2.out]
    go_wp2_with (first | (go_at_call 14; (with_reducible refine HCK.out.mono ?_); rintro e' w3 ⟨rfl, hb⟩; have HB3 := hid (HB2.out.trans (hb.mono (Nat.le_of_lt (box_lt H3.out)))); have h3' := (hb.block _ (box_lt H3.out)).trans H3.out; have h6' := (hb.block _ (box_lt H6.out)).trans H6.out; have H3' := hid h3'; have H6' := hid h6'; obtain ⟨u0, u1, u2, u3, u4, u5⟩ := load6 h3'; obtain ⟨v0, v1, v2, v3, v4, v5⟩ := load6 h6'; simp only at u0 u1 u2 u3 u4 u5; simp only [z6] at v0 v1 v2 v3 v4 v5; have f3 := box_fr h3'; have f6 := box_fr h6'; clear hb h3' h6'))
    refine bodyPost_ret (results_s1 rfl _ _ (g + 1) 23 ⟨l, r, se, sn, sp, sd⟩ rfl (set6h ⟨l, r, se, sn, sp, sd⟩ H6'.out) _ rfl) rfl ?_
    rw [← HR.out]
    exact ⟨_, rfl, msgQ_nil _ _, by rw [HG.out]; exact set6b ⟨l, r, se, sn, sp, sd⟩ HB3.out (Nat.le_succ _)⟩
  subst p1
  by_cases nd : sd ≤ n
  rotate_left
  · have q2 : decide (n < sd) = true := decide_eq_true (by omega)
    rw [if_neg (fun h => nd h.2.2)] at hR
    have HR := hid hR
    clear hR
    go_enter Try.func21, Try.ntmps21
    go_upto_region 1 with fail
    rw [HG.out, HW2.out]
    go_wp2_with (first | (go_at_call 14; (with_reducible refine HCK.out.mono ?_); rintro e' w3 ⟨rfl, hb⟩; have HB3 := hid (HB2.out.trans (hb.mono (Nat.le_of_lt (box_lt H3.out)))); have h3' := (hb.block _ (box_lt H3.out)).trans H3.out; have h6' := (hb.block _ (box_lt H6.out)).trans H6.out; have H3' := hid h3'; have H6' := hid h6'; obtain ⟨u0, u1, u2, u3, u4, u5⟩ := load6 h3'; obtain ⟨v0, v1, v2, v3, v4, v5⟩ := load6 h6'; simp only at u0 u1 u2 u3 u4 u5; simp only [z6] at v0 v1 v2 v3 v4 v5; have f3 := box_fr h3'; have f6 := box_fr h6'; clear hb h3' h6'))
    refine bodyPost_ret (results_s1 rfl _ _ (g + 1) 23 ⟨l, r, se, sn, 1, sd⟩ rfl (set6h ⟨l, r, se, sn, 1, sd⟩ H6'.out) _ rfl) rfl ?_
    rw [← HR.out]
    exact ⟨_, rfl, msgQ_nil _ _, by rw [HG.out]; exact set6b ⟨l, r, se, sn, 1, sd⟩ HB3.out (Nat.le_succ _)⟩
  have q2 : decide (n < sd) = false := decide_eq_false (by omega)
  rw [if_pos ⟨rfl, rfl, nd⟩] at hR
  have hlf := lateB_fit (n := n) (p := q) (by omega) (by unfold R64 at hrn; omega)
  cases hf : fitB n q
  · rw [if_pos hf] at hR
    have hlt : lateB n q = true := by rw [hlf, hf]; rfl
    clear hlf nd hrn
    have HR := hid hR
    clear hR
    go_enter Try.func21, Try.ntmps21
    go_upto_region 1 with fail
    rw [HG.out, HW2.out]
    go_wp2_with (first | (go_at_call 14; (with_reducible refine HCK.out.mono ?_); rintro e' w3 ⟨rfl, hb⟩; have HB3 := hid (HB2.out.trans (hb.mono (Nat.le_of_lt (box_lt H3.out)))); have h3' := (hb.block _ (box_lt H3.out)).trans H3.out; have h6' := (hb.block _ (box_lt H6.out)).trans H6.out; have H3' := hid h3'; have H6' := hid h6'; obtain ⟨u0, u1, u2, u3, u4, u5⟩ := load6 h3'; obtain ⟨v0, v1, v2, v3, v4, v5⟩ := load6 h6'; simp only at u0 u1 u2 u3 u4 u5; simp only [z6] at v0 v1 v2 v3 v4 v5; have f3 := box_fr h3'; have f6 := box_fr h6'; clear hb h3' h6') | (go_at_call 34; (with_reducible refine (late_any n q _).mono ?_); rintro _ w' ⟨rfl, hh⟩; subst w'; rw [hlt]) | (go_at_call 38; (with_reducible refine (phase_any' ⟨l, r, se, sn, 1, sd⟩ 0 _).mono ?_); rintro e' w5 ⟨rfl, hb⟩; have HB5 := hid (HB3.out.trans (hb.mono (Nat.le_of_lt (box_lt H3'.out)))); have h3' := (hb.block _ (box_lt H3'.out)).trans H3'.out; have h6' := (hb.block _ (box_lt H6'.out)).trans H6'.out; have H35 := hid h3'; have H65 := hid h6'; obtain ⟨u0, u1, u2, u3, u4, u5⟩ := load6 h3'; obtain ⟨v0, v1, v2, v3, v4, v5⟩ := load6 h6'; simp only at u0 u1 u2 u3 u4 u5; simp only [z6] at v0 v1 v2 v3 v4 v5; have f3 := box_fr h3'; have f6 := box_fr h6'; clear hb h3' h6'))
    refine bodyPost_ret (results_s1 rfl _ _ (g + 1) 23 ⟨l, r, se, sn, 0, 0⟩ rfl (set6h ⟨l, r, se, sn, 0, 0⟩ H65.out) _ rfl) rfl ?_
    rw [← HR.out]
    exact ⟨_, rfl, msgQ_nil _ _, by rw [HG.out]; exact set6b ⟨l, r, se, sn, 0, 0⟩ HB5.out (Nat.le_succ _)⟩
  rw [if_neg (by rw [hf]; decide)] at hR
  have hlt : lateB n q = false := by rw [hlf, hf]; rfl
  have hfb : 0 ≤ q ∧ q ≤ 1073741824 := by
    have h1 := hlt
    unfold lateB at h1
    simp only [decide_eq_false_iff_not] at h1
    omega
  have hfn : n ≤ 1073741824 := by
    have h1 := hlt
    unfold lateB at h1
    simp only [decide_eq_false_iff_not] at h1
    omega
  have hw2 : wrap64 (n + q) = n + q := w64 (by omega) (by omega)
  clear hlf nd hrn hfb hfn
  go_enter Try.func21, Try.ntmps21
  go_upto_region 1 with fail
  rw [HG.out, HW2.out]
  go_upto_region 6 with (first | (go_at_call 14; (with_reducible refine HCK.out.mono ?_); rintro e' w3 ⟨rfl, hb⟩; have HB3 := hid (HB2.out.trans (hb.mono (Nat.le_of_lt (box_lt H3.out)))); have h3' := (hb.block _ (box_lt H3.out)).trans H3.out; have h6' := (hb.block _ (box_lt H6.out)).trans H6.out; have H3' := hid h3'; have H6' := hid h6'; obtain ⟨u0, u1, u2, u3, u4, u5⟩ := load6 h3'; obtain ⟨v0, v1, v2, v3, v4, v5⟩ := load6 h6'; simp only at u0 u1 u2 u3 u4 u5; simp only [z6] at v0 v1 v2 v3 v4 v5; have f3 := box_fr h3'; have f6 := box_fr h6'; clear hb h3' h6') | (go_at_call 34; (with_reducible refine (late_any n q _).mono ?_); rintro _ w' ⟨rfl, hh⟩; subst w'; rw [hlt]))
  obtain ⟨Wf, hWf⟩ : ∃ X, w3.setCell ⟨g, 5, none⟩ (.int .i64 (n + q)) = X := ⟨_, rfl⟩
  have h3f : Wf.heap[g]? = some (.cells (cS ⟨l, r, se, sn, 1, n + q⟩) 23) := by rw [← hWf]; exact box_set (cs := [.int .i64 l, .int .i64 r, .int .i64 se, .int .i64 sn, .int .i64 1, .int .i64 sd]) H3'.out 5 _
  have h6f : Wf.heap[g + 1]? = some (.cells (cS z6) 23) := by rw [← hWf]; exact keep1 H6'.out (by omega) _ _
  have hBf : Below g w Wf := by rw [← hWf]; exact (HB3.out.setCell (Nat.le_refl _) _)
  have HWf := hid hWf
  (try simp only [set6] at HWf)
  rw [HWf.out]
  obtain ⟨X0, hX0⟩ : ∃ X, Wf.drew = X := ⟨_, rfl⟩
  have h30 : X0.heap[g]? = some (.cells (cS ⟨l, r, se, sn, 1, n + q⟩) 23) := by rw [← hX0]; exact h3f
  have h60 : X0.heap[g + 1]? = some (.cells (cS z6) 23) := by rw [← hX0]; exact h6f
  have HB0 : Hid (Below g w X0) := hid (by rw [← hX0]; exact below_drew hBf)
  clear h3f h6f hBf hWf
  have hHeld := load6 h30
  simp only at hHeld
  have HSN := hid (message_any ⟨l, r, se, sn, 1, n + q⟩ 5 X0)
  simp only [sv] at HSN
  have HX0 := hid hX0
  have H30 := hid h30
  have H60 := hid h60
  have HR := hid hR
  clear hX0 h30 h60 u0 u1 u2 u3 u4 u5 v0 v1 v2 v3 v4 v5 f3 f6 y0 y1 y2 y3 y4 y5 hR
  refine region_tail 3 (fun X => X.cell? ⟨g, 0, none⟩ = some (.int .i64 l) ∧ X.cell? ⟨g, 1, none⟩ = some (.int .i64 r) ∧ X.cell? ⟨g, 2, none⟩ = some (.int .i64 se) ∧ X.cell? ⟨g, 3, none⟩ = some (.int .i64 sn) ∧ X.cell? ⟨g, 4, none⟩ = some (.int .i64 1) ∧ X.cell? ⟨g, 5, none⟩ = some (.int .i64 (n + q))) (by kernel_rfl) ?_
  rw [HX0.out]
  refine' wpAnyT_take (i := 0) (oi := ?oiy0) (v := ?vy0) ?hiy0 (by kernel_rfl) (by kernel_rfl) ?hqy0 ?hyy0 hHeld ?resty0
  case hiy0 => (simp only [List.getElem?_toArray, List.getElem?_cons_zero]; rfl)
  case hqy0 => exact fun _ _ _ h => h
  case hyy0 => (refine Or.inl ⟨by rfl, ?_⟩; intro w' hSw; (try dsimp only at hSw); go_simp; try with_reducible rfl)
  (try simp only [Act.put, List.setIfInBounds_toArray, List.set_cons_zero, List.set_cons_succ])
  refine' wpAnyT_take (i := 1) (oi := ?oiy1) (v := ?vy1) ?hiy1 (by kernel_rfl) (by kernel_rfl) ?hqy1 ?hyy1 hHeld ?resty1
  case hiy1 => (simp only [List.getElem?_toArray, List.getElem?_cons_zero, List.getElem?_cons_succ]; rfl)
  case hqy1 => exact fun _ _ _ h => h
  case hyy1 => (refine Or.inl ⟨by rfl, ?_⟩; intro w' hSw; (try dsimp only at hSw); go_simp; try with_reducible rfl)
  (try simp only [Act.put, List.setIfInBounds_toArray, List.set_cons_zero, List.set_cons_succ])
  refine' wpAnyT_one (i := 2) (o := ?oiy2) (by kernel_rfl) ?hiy2 (fun K hK => ?sty2)
  case hiy2 => (simp only [List.getElem?_toArray, List.getElem?_cons_zero, List.getElem?_cons_succ]; rfl)
  go_simp
  go_at_call 35
  (with_reducible refine HSN.out.mono ?_)
  rintro e' X1 ⟨v, rfl, hm, hb⟩
  have HM1 := hid hm
  have HB1 := hid (HB0.out.trans (hb.mono (Nat.le_of_lt (box_lt H30.out))))
  have h61 := (hb.block _ (box_lt H60.out)).trans H60.out
  have H61 := hid h61
  obtain ⟨v0, v1, v2, v3, v4, v5⟩ := load6 h61
  simp only [z6] at v0 v1 v2 v3 v4 v5
  have f6 := box_fr h61
  have hHeld := load6 ((hb.block _ (box_lt H30.out)).trans H30.out)
  simp only at hHeld
  clear hm hb h61
  refine hK.out _ _ (fun _ => hHeld) ?_
  clear hK K
  (try simp only [Act.put, List.setIfInBounds_toArray, List.set_cons_zero, List.set_cons_succ])
  refine' wpAnyT_one (i := 3) (o := ?oiy3) (by kernel_rfl) ?hiy3 (fun K hK => ?sty3)
  case hiy3 => (simp only [List.getElem?_toArray, List.getElem?_cons_zero, List.getElem?_cons_succ]; rfl)
  go_simp
  refine hK.out _ _ (fun h => absurd h (by decide)) ?_
  clear hK K
  (try simp only [Act.put, List.setIfInBounds_toArray, List.set_cons_zero, List.set_cons_succ])
  refine' wpAnyT_one (i := 4) (o := ?oiy4) (by kernel_rfl) ?hiy4 (fun K hK => ?sty4)
  case hiy4 => (simp only [List.getElem?_toArray, List.getElem?_cons_zero, List.getElem?_cons_succ]; rfl)
  go_simp
  refine hK.out _ _ (fun h => absurd h (by decide)) ?_
  clear hK K
  (try simp only [Act.put, List.setIfInBounds_toArray, List.set_cons_zero, List.set_cons_succ])
  refine wpAnyT_done (by kernel_rfl) ?_ _
  go_wp2_with fail
  refine bodyPost_ret (results_s1 rfl _ _ (g + 1) 23 ⟨l, r, se, sn, 1, n + q⟩ rfl (set6h ⟨l, r, se, sn, 1, n + q⟩ H61.out) _ rfl) rfl ?_
  rw [← HR.out]
  refine ⟨v, rfl, ?_, ?_⟩
  · refine HM1.out.keep (by have := HB0.out.size; have := HG.out; omega) (fun b x hb hx => ?_)
    have hne : b ≠ g + 1 := by have := box_lt H60.out; omega
    exact ((set6u (g := g + 1) ⟨l, r, se, sn, 1, n + q⟩ (Upd.refl _ X1)).block b (box_lt hx) hne).trans hx
  · rw [HG.out]
    exact set6b ⟨l, r, se, sn, 1, n + q⟩ HB1.out (Nat.le_succ _)
end Go.Proofs.Ytkdladacmjkdoaa
