/- Receive of messages of an older epoch. -/
import Derived.Test.YtkdladacmjkdoaaJ
namespace Go.Proofs.Ytkdladacmjkdoaa
open Go.RowKit Go.Lib
set_option maxHeartbeats 8000000 in
set_option maxRecDepth 100000 in
theorem receive_old (s : Ses) (now : Int) (m : Mes) (u : Int) (VA : Option Addr) (vn vc : Nat) (BA : Option Addr) (bn bc : Nat) (w : World)
    (hbad : chk s = 0 ∧ (m.k = 5 ∨ m.k = 6 ∨ m.k = 7) ∧ m.f = s.r ∧ m.t = s.l ∧ timeB m.e = true ∧ timeB m.n = true) (hep : m.e < s.e) :
    Calls Try.prog 24 #[sv s, .int .i64 now, mv m u VA vn vc BA bn bc] w (RecQ (if m.k = 5 then (s, [nm 7 s]) else (s, [])) w) := by
  obtain ⟨g, hg⟩ : ∃ g, w.heap.size = g := ⟨_, rfl⟩
  obtain ⟨k, mf, mt, mn, me⟩ := m
  obtain ⟨l, r, se, sn, sp, sd⟩ := s
  obtain ⟨W1, hW1⟩ : ∃ X, w.alloc (.cells (cS ⟨l, r, se, sn, sp, sd⟩) 23) = X := ⟨_, rfl⟩
  obtain ⟨W2, hW2⟩ : ∃ X, W1.alloc (.cells #[.int .i64 k, .int .i64 mf, .int .i64 mt, .int .i64 mn, .int .i64 u, .int .i64 me, .slice VA vn vc, .slice BA bn bc] 47) = X := ⟨_, rfl⟩
  obtain ⟨W3, hW3⟩ : ∃ X, W2.alloc (.cells (cS z6) 23) = X := ⟨_, rfl⟩
  obtain ⟨W4, hW4⟩ : ∃ X, W3.alloc (.cells (cS ⟨l, r, se, sn, sp, sd⟩) 71) = X := ⟨_, rfl⟩
  have z1 : W1.heap.size = g + 1 := by rw [← hW1, World.size_alloc, hg]
  have z2 : W2.heap.size = g + 2 := by rw [← hW2, World.size_alloc, z1]
  have z3 : W3.heap.size = g + 3 := by rw [← hW3, World.size_alloc, z2]
  have e1 : W1.heap[g]? = some (.cells (cS ⟨l, r, se, sn, sp, sd⟩) 23) := by rw [← hW1, ← hg]; exact heap_alloc_new w _
  have e2 : W2.heap[g + 1]? = some (.cells #[.int .i64 k, .int .i64 mf, .int .i64 mt, .int .i64 mn, .int .i64 u, .int .i64 me, .slice VA vn vc, .slice BA bn bc] 47) := by rw [← hW2, ← z1]; exact heap_alloc_new W1 _
  have e3 : W3.heap[g + 2]? = some (.cells (cS z6) 23) := by rw [← hW3, ← z2]; exact heap_alloc_new W2 _
  have e4 : W4.heap[g + 3]? = some (.cells (cS ⟨l, r, se, sn, sp, sd⟩) 71) := by rw [← hW4, ← z3]; exact heap_alloc_new W3 _
  have b12 : Below W1.heap.size W1 W4 := by rw [← hW4, ← hW3, ← hW2]; exact below_both (al1 _ _) ((below_both (al1 _ _) (al1 _ _)))
  have b24 : Below W2.heap.size W2 W4 := by rw [← hW4, ← hW3]; exact below_both (al1 _ _) (al1 _ _)
  have b34 : Below W3.heap.size W3 W4 := by rw [← hW4]; exact al1 _ _
  have H3 : Hid (W4.heap[g]? = some (.cells (cS ⟨l, r, se, sn, sp, sd⟩) 23)) := hid ((b12.block _ (by omega)).trans e1)
  have H5 : Hid (W4.heap[g + 1]? = some (.cells #[.int .i64 k, .int .i64 mf, .int .i64 mt, .int .i64 mn, .int .i64 u, .int .i64 me, .slice VA vn vc, .slice BA bn bc] 47)) := hid ((b24.block _ (by omega)).trans e2)
  have H6 : Hid (W4.heap[g + 2]? = some (.cells (cS z6) 23)) := hid ((b34.block _ (by omega)).trans e3)
  have H8 : Hid (EndAt W4 (g + 3) ⟨l, r, se, sn, sp, sd⟩) := hid e4
  have HB4 : Hid (Below g w W4) := hid (by rw [← hg]; exact below_both (by rw [← hW1]; exact al1 w _) b12)
  have HZ : Hid (W4.heap.size = g + 4) := hid (by rw [← hW4, World.size_alloc, z3])
  have HW4 : Hid ((((w.alloc (.cells (cS ⟨l, r, se, sn, sp, sd⟩) 23)).alloc (.cells #[.int .i64 k, .int .i64 mf, .int .i64 mt, .int .i64 mn, .int .i64 u, .int .i64 me, .slice VA vn vc, .slice BA bn bc] 47)).alloc (.cells (cS z6) 23)).alloc (.cells (cS ⟨l, r, se, sn, sp, sd⟩) 71) = W4) := hid (by rw [hW1, hW2, hW3, hW4])
  have HG := hid hg
  have HH := hid (handlingOf_any (g + 3) k W4)
  clear e1 e2 e3 e4 b12 b24 b34 z1 z2 z3 hW1 hW2 hW3 hW4 hg
  obtain ⟨c, hc⟩ : ∃ c, chk ⟨l, r, se, sn, sp, sd⟩ = c := ⟨_, rfl⟩
  have HCK := hid (fun X => check_any ⟨l, r, se, sn, sp, sd⟩ X)
  rw [hc] at HCK hbad
  obtain ⟨y0, y1, y2, y3, y4, y5⟩ := load6 H3.out
  have m0 := cell_of_row _ _ 0 _ _ _ H5.out
  have m1 := cell_of_row _ _ 1 _ _ _ H5.out
  have m2 := cell_of_row _ _ 2 _ _ _ H5.out
  have m3 := cell_of_row _ _ 3 _ _ _ H5.out
  have m5 := cell_of_row _ _ 5 _ _ _ H5.out
  clear hc
  unfold sv mv
  simp only [cS, z6] at HW4
  simp only at y0 y1 y2 y3 y4 y5 m0 m1 m2 m3 m5 hbad hep ⊢
  obtain ⟨c0, k0, a1, a2, h3, h4⟩ := hbad
  obtain ⟨fn, hfn⟩ := handV_fn (g := g + 3) k0
  have hq := eqf1 fn (.pointer (some ⟨g + 3, 0, none⟩))
  rw [hfn] at HH
  subst c0 a1 a2
  have b3 : decide (me < se) = true := decide_eq_true hep
  have HEP := hid hep
  clear hep hfn
  by_cases k5 : k = 5
  rotate_left
  · have q5 : (k == 5) = false := by simp [k5]
    rw [if_neg k5]
    have K0 := hid k0
    clear k0
    go_enter Try.func24, Try.ntmps24
    go_upto_region 2 with fail
    rw [HG.out, HW4.out]
    go_wp2_with (first | (go_at_call 39; refine HH.out.mono ?_; rintro e' w5 ⟨rfl, hb⟩; have K3 := hid ((hb.block _ (box_lt H3.out)).trans H3.out); have K5 := hid ((hb.block _ (box_lt H5.out)).trans H5.out); have K6 := hid ((hb.block _ (box_lt H6.out)).trans H6.out); have K8 := hid ((hb.block _ (box_lt H8.out)).trans H8.out); have KB := hid (HB4.out.trans (hb.mono (by have := HZ.out; omega))); obtain ⟨u0, u1, u2, u3, u4, u5⟩ := load6 K3.out; clear hb) | (go_at_call 13; refine (HCK.out w5).mono ?_; rintro e' w6 ⟨rfl, hb⟩; have L3 := hid ((hb.block _ (box_lt K3.out)).trans K3.out); have L5 := hid ((hb.block _ (box_lt K5.out)).trans K5.out); have L6 := hid ((hb.block _ (box_lt K6.out)).trans K6.out); have L8 := hid ((hb.block _ (box_lt K8.out)).trans K8.out); have LB := hid (KB.out.trans (hb.mono (by have := box_lt K8.out; omega))); obtain ⟨s0, s1, s2, s3, s4, s5⟩ := load6 L3.out; obtain ⟨q0, q1, q2, q3, q4, q5⟩ := load6 L6.out; have g8 := box_fr L8.out; have f6 := box_fr L6.out; have n0 := cell_of_row _ _ 0 _ _ _ L5.out; have n1 := cell_of_row _ _ 1 _ _ _ L5.out; have n2 := cell_of_row _ _ 2 _ _ _ L5.out; have n3 := cell_of_row _ _ 3 _ _ _ L5.out; have n5 := cell_of_row _ _ 5 _ _ _ L5.out; clear hb) | (go_at_call 30; refine (isTime_any _ _).mono ?_; rintro _ w' ⟨rfl, hh⟩; subst w'; first | rw [h3] | rw [h4]))
    refine bodyPost_ret (results_s1 rfl _ _ (g + 2) 23 ⟨mt, mf, se, sn, sp, sd⟩ rfl (set6h ⟨mt, mf, se, sn, sp, sd⟩ L6.out) _ rfl) rfl ?_
    exact ⟨_, rfl, msgQ_nil _ _, by rw [HG.out]; exact set6b ⟨mt, mf, se, sn, sp, sd⟩ LB.out (by omega)⟩
  subst k5
  rw [if_pos rfl]
  clear k0
  go_enter Try.func24, Try.ntmps24
  go_upto_region 2 with fail
  rw [HG.out, HW4.out]
  go_upto_region 7 with (first | (go_at_call 39; refine HH.out.mono ?_; rintro e' w5 ⟨rfl, hb⟩; have K3 := hid ((hb.block _ (box_lt H3.out)).trans H3.out); have K5 := hid ((hb.block _ (box_lt H5.out)).trans H5.out); have K6 := hid ((hb.block _ (box_lt H6.out)).trans H6.out); have K8 := hid ((hb.block _ (box_lt H8.out)).trans H8.out); have KB := hid (HB4.out.trans (hb.mono (by have := HZ.out; omega))); obtain ⟨u0, u1, u2, u3, u4, u5⟩ := load6 K3.out; clear hb) | (go_at_call 13; refine (HCK.out w5).mono ?_; rintro e' w6 ⟨rfl, hb⟩; have L3 := hid ((hb.block _ (box_lt K3.out)).trans K3.out); have L5 := hid ((hb.block _ (box_lt K5.out)).trans K5.out); have L6 := hid ((hb.block _ (box_lt K6.out)).trans K6.out); have L8 := hid ((hb.block _ (box_lt K8.out)).trans K8.out); have LB := hid (KB.out.trans (hb.mono (by have := box_lt K8.out; omega))); obtain ⟨s0, s1, s2, s3, s4, s5⟩ := load6 L3.out; obtain ⟨q0, q1, q2, q3, q4, q5⟩ := load6 L6.out; have g8 := box_fr L8.out; have f6 := box_fr L6.out; have n0 := cell_of_row _ _ 0 _ _ _ L5.out; have n1 := cell_of_row _ _ 1 _ _ _ L5.out; have n2 := cell_of_row _ _ 2 _ _ _ L5.out; have n3 := cell_of_row _ _ 3 _ _ _ L5.out; have n5 := cell_of_row _ _ 5 _ _ _ L5.out; clear hb) | (go_at_call 30; refine (isTime_any _ _).mono ?_; rintro _ w' ⟨rfl, hh⟩; subst w'; first | rw [h3] | rw [h4]))
  obtain ⟨X0, hX0⟩ : ∃ X, w6.drew = X := ⟨_, rfl⟩
  have HE0 : Hid (EndAt X0 (g + 3) ⟨mt, mf, se, sn, sp, sd⟩) := hid (by rw [← hX0]; exact L8.out)
  have HS0 : Hid (X0.heap[g]? = some (.cells (cS ⟨mt, mf, se, sn, sp, sd⟩) 23)) := hid (by rw [← hX0]; exact L3.out)
  have H60 : Hid (X0.heap[g + 2]? = some (.cells (cS z6) 23)) := hid (by rw [← hX0]; exact L6.out)
  have HB0 : Hid (Below g w X0) := hid (by rw [← hX0]; exact below_drew LB.out)
  have HSN := hid (send_any (g + 3) ⟨mt, mf, se, sn, sp, sd⟩ 7 X0 HE0.out)
  have HX0 := hid hX0
  have hHeld := load6 HS0.out
  simp only at hHeld
  clear hX0 u0 u1 u2 u3 u4 u5 s0 s1 s2 s3 s4 s5 q0 q1 q2 q3 q4 q5 f6 n0 n1 n2 n3 n5 y0 y1 y2 y3 y4 y5 m0 m1 m2 m3 m5 g8
  refine region_tail 2 (fun X => X.cell? ⟨g, 0, none⟩ = some (.int .i64 mt) ∧ X.cell? ⟨g, 1, none⟩ = some (.int .i64 mf) ∧ X.cell? ⟨g, 2, none⟩ = some (.int .i64 se) ∧ X.cell? ⟨g, 3, none⟩ = some (.int .i64 sn) ∧ X.cell? ⟨g, 4, none⟩ = some (.int .i64 sp) ∧ X.cell? ⟨g, 5, none⟩ = some (.int .i64 sd)) (by kernel_rfl) ?_
  rw [HX0.out]
  refine' wpAnyT_take (i := 0) (oi := ?oix0) (v := ?vx0) ?hix0 (by kernel_rfl) (by kernel_rfl) ?hqx0 ?hyx0 hHeld ?restx0
  case hix0 => (simp only [List.getElem?_toArray, List.getElem?_cons_zero]; rfl)
  case hqx0 => exact fun _ _ _ h => h
  case hyx0 => (refine Or.inl ⟨by rfl, ?_⟩; intro w' hSw; (try dsimp only at hSw); go_simp; try with_reducible rfl)
  (try simp only [Act.put, List.setIfInBounds_toArray, List.set_cons_zero, List.set_cons_succ])
  refine' wpAnyT_one (i := 1) (o := ?oix1) (by kernel_rfl) ?hix1 (fun K hK => ?stx1)
  case hix1 => (simp only [List.getElem?_toArray, List.getElem?_cons_zero, List.getElem?_cons_succ]; rfl)
  go_simp
  go_at_call 33
  refine HSN.out.mono ?_
  rintro e' X1 ⟨v, rfl, hm, hb⟩
  have HM1 := hid hm
  have HB1 := hid (HB0.out.trans (hb.mono (by have := box_lt H60.out; omega)))
  have h61 := (hb.block _ (box_lt H60.out)).trans H60.out
  have H61 := hid h61
  obtain ⟨v0, v1, v2, v3, v4, v5⟩ := load6 h61
  have f6 := box_fr h61
  have hHeld := load6 ((hb.block _ (box_lt HS0.out)).trans HS0.out)
  simp only at hHeld
  clear hm hb h61
  refine hK.out _ _ (fun _ => hHeld) ?_
  clear hK K
  (try simp only [Act.put, List.setIfInBounds_toArray, List.set_cons_zero, List.set_cons_succ])
  refine' wpAnyT_one (i := 2) (o := ?oix2) (by kernel_rfl) ?hix2 (fun K hK => ?stx2)
  case hix2 => (simp only [List.getElem?_toArray, List.getElem?_cons_zero, List.getElem?_cons_succ]; rfl)
  go_simp
  refine hK.out _ _ (fun h => absurd h (by decide)) ?_
  clear hK K
  (try simp only [Act.put, List.setIfInBounds_toArray, List.set_cons_zero, List.set_cons_succ])
  refine' wpAnyT_one (i := 3) (o := ?oix3) (by kernel_rfl) ?hix3 (fun K hK => ?stx3)
  case hix3 => (simp only [List.getElem?_toArray, List.getElem?_cons_zero, List.getElem?_cons_succ]; rfl)
  go_simp
  refine hK.out _ _ (fun h => absurd h (by decide)) ?_
  clear hK K
  (try simp only [Act.put, List.setIfInBounds_toArray, List.set_cons_zero, List.set_cons_succ])
  refine wpAnyT_done (by kernel_rfl) ?_ _
  go_wp2_with fail
  refine bodyPost_ret (results_s1 rfl _ _ (g + 2) 23 ⟨mt, mf, se, sn, sp, sd⟩ rfl (set6h ⟨mt, mf, se, sn, sp, sd⟩ H61.out) _ rfl) rfl ?_
  refine ⟨v, rfl, HM1.out.keep (by have := HB0.out.size; have := HG.out; omega) (fun b x hb hx => ?_), ?_⟩
  · have hne : b ≠ g + 2 := by have := box_lt H60.out; omega
    exact ((set6u (g := g + 2) ⟨mt, mf, se, sn, sp, sd⟩ (Upd.refl _ X1)).block b (box_lt hx) hne).trans hx
  · rw [HG.out]
    exact set6b ⟨mt, mf, se, sn, sp, sd⟩ HB1.out (by omega)
end Go.Proofs.Ytkdladacmjkdoaa
