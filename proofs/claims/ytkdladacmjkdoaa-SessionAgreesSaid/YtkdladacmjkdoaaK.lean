/- Receive of messages that are handled. -/
import Derived.Test.YtkdladacmjkdoaaJ
namespace Go.Proofs.Ytkdladacmjkdoaa
open Go.RowKit Go.Lib
set_option maxHeartbeats 8000000 in
set_option maxRecDepth 100000 in
theorem receive_hello (s : Ses) (now : Int) (m : Mes) (u : Int) (VA : Option Addr) (vn vc : Nat) (BA : Option Addr) (bn bc : Nat) (w : World)
    (hbad : chk s = 0 ∧ m.k = 5 ∧ m.f = s.r ∧ m.t = s.l ∧ timeB m.e = true ∧ timeB m.n = true) (hep : s.e ≤ m.e) :
    Calls Try.prog 24 #[sv s, .int .i64 now, mv m u VA vn vc BA bn bc] w (RecQ (helloR (if s.e < m.e then { s with e := m.e, p := 0, d := 0 } else s) m.n) w) := by
  obtain ⟨g, hg⟩ : ∃ g, w.heap.size = g := ⟨_, rfl⟩
  obtain ⟨k, mf, mt, mn, me⟩ := m
  obtain ⟨l, r, se, sn, sp, sd⟩ := s
  obtain ⟨W1, hW1⟩ : ∃ X, w.alloc (.cells (cS ⟨l, r, se, sn, sp, sd⟩) 23) = X := ⟨_, rfl⟩
  obtain ⟨W2, hW2⟩ : ∃ X, W1.alloc (.cells #[.int .i64 k, .int .i64 mf, .int .i64 mt, .int .i64 mn, .int .i64 u, .int .i64 me, .slice VA vn vc, .slice BA bn bc] 47) = X := ⟨_, rfl⟩
  obtain ⟨W3, hW3⟩ : ∃ X, W2.alloc (.cells (cS z6) 23) = X := ⟨_, rfl⟩
  obtain ⟨W4, hW4⟩ : ∃ X, W3.alloc (.cells (cS ⟨l, r, se, sn, sp, sd⟩) 71) = X := ⟨_, rfl⟩
  have z1 : W1.heap.size = g + 1 := by rw [← hW1, World.size_alloc, hg]
  have z2 : W2.heap.size = g + 2 := by rw [← hW2, World.size_alloc, z1]
  have z3 : W3.heap.size = g + 3 := by rw [← hW3, World.size_alloc, z2]
  have e1 : W1.heap[g]? = some (.cells (cS ⟨l, r, se, sn, sp, sd⟩) 23) := by rw [← hW1, ← hg]; exact heap_alloc_new w _
  have e2 : W2.heap[g + 1]? = some (.cells #[.int .i64 k, .int .i64 mf, .int .i64 mt, .int .i64 mn, .int .i64 u, .int .i64 me, .slice VA vn vc, .slice BA bn bc] 47) := by rw [← hW2, ← z1]; exact heap_alloc_new W1 _
  have e3 : W3.heap[g + 2]? = some (.cells (cS z6) 23) := by rw [← hW3, ← z2]; exact heap_alloc_new W2 _
  have e4 : W4.heap[g + 3]? = some (.cells (cS ⟨l, r, se, sn, sp, sd⟩) 71) := by rw [← hW4, ← z3]; exact heap_alloc_new W3 _
  have b12 : Below W1.heap.size W1 W4 := by rw [← hW4, ← hW3, ← hW2]; exact below_both (al1 _ _) ((below_both (al1 _ _) (al1 _ _)))
  have b24 : Below W2.heap.size W2 W4 := by rw [← hW4, ← hW3]; exact below_both (al1 _ _) (al1 _ _)
  have b34 : Below W3.heap.size W3 W4 := by rw [← hW4]; exact al1 _ _
  have H3 : Hid (W4.heap[g]? = some (.cells (cS ⟨l, r, se, sn, sp, sd⟩) 23)) := hid ((b12.block _ (by omega)).trans e1)
  have H5 : Hid (W4.heap[g + 1]? = some (.cells #[.int .i64 k, .int .i64 mf, .int .i64 mt, .int .i64 mn, .int .i64 u, .int .i64 me, .slice VA vn vc, .slice BA bn bc] 47)) := hid ((b24.block _ (by omega)).trans e2)
  have H6 : Hid (W4.heap[g + 2]? = some (.cells (cS z6) 23)) := hid ((b34.block _ (by omega)).trans e3)
  have H8 : Hid (EndAt W4 (g + 3) ⟨l, r, se, sn, sp, sd⟩) := hid e4
  have HB4 : Hid (Below g w W4) := hid (by rw [← hg]; exact below_both (by rw [← hW1]; exact al1 w _) b12)
  have HZ : Hid (W4.heap.size = g + 4) := hid (by rw [← hW4, World.size_alloc, z3])
  have HW4 : Hid ((((w.alloc (.cells (cS ⟨l, r, se, sn, sp, sd⟩) 23)).alloc (.cells #[.int .i64 k, .int .i64 mf, .int .i64 mt, .int .i64 mn, .int .i64 u, .int .i64 me, .slice VA vn vc, .slice BA bn bc] 47)).alloc (.cells (cS z6) 23)).alloc (.cells (cS ⟨l, r, se, sn, sp, sd⟩) 71) = W4) := hid (by rw [hW1, hW2, hW3, hW4])
  have HG := hid hg
  have HH := hid (handlingOf_any (g + 3) k W4)
  clear e1 e2 e3 e4 b12 b24 b34 z1 z2 z3 hW1 hW2 hW3 hW4 hg
  obtain ⟨c, hc⟩ : ∃ c, chk ⟨l, r, se, sn, sp, sd⟩ = c := ⟨_, rfl⟩
  have HCK := hid (fun X => check_any ⟨l, r, se, sn, sp, sd⟩ X)
  rw [hc] at HCK hbad
  obtain ⟨y0, y1, y2, y3, y4, y5⟩ := load6 H3.out
  have m0 := cell_of_row _ _ 0 _ _ _ H5.out
  have m1 := cell_of_row _ _ 1 _ _ _ H5.out
  have m2 := cell_of_row _ _ 2 _ _ _ H5.out
  have m3 := cell_of_row _ _ 3 _ _ _ H5.out
  have m5 := cell_of_row _ _ 5 _ _ _ H5.out
  clear hc
  unfold sv mv
  simp only [cS, z6] at HW4
  simp only at y0 y1 y2 y3 y4 y5 m0 m1 m2 m3 m5 hbad hep ⊢
  obtain ⟨c0, k0, a1, a2, h3, h4⟩ := hbad
  subst c0 k0
  have hq := eqf1 40 (.pointer (some ⟨g + 3, 0, none⟩))
  have hf : handV (g + 3) 5 = .func (.func 40) #[.pointer (some ⟨g + 3, 0, none⟩)] #[] := rfl
  rw [hf] at HH
  subst a1 a2
  have b3 : decide (me < se) = false := decide_eq_false (by omega)
  by_cases a4 : se < me
  · have b4 : decide (se < me) = true := decide_eq_true a4
    rw [if_pos a4]
    obtain ⟨⟨s', l'⟩, hR⟩ : ∃ R, helloR ⟨mt, mf, me, sn, 0, 0⟩ mn = R := ⟨_, rfl⟩
    have HA := hid (fun X (hX : EndAt X (g + 3) ⟨mt, mf, me, sn, 0, 0⟩) => hR ▸ hello_any (g + 3) ⟨mt, mf, me, sn, 0, 0⟩ mn X hX)
    rw [hR]
    clear hR
    have HEP := hid hep
    clear hep a4
    go_enter Try.func24, Try.ntmps24
    go_upto_region 2 with fail
    rw [HG.out, HW4.out]
    go_wp2_with (first | (go_at_call 39; refine HH.out.mono ?_; rintro e' w5 ⟨rfl, hb⟩; have K3 := hid ((hb.block _ (box_lt H3.out)).trans H3.out); have K5 := hid ((hb.block _ (box_lt H5.out)).trans H5.out); have K6 := hid ((hb.block _ (box_lt H6.out)).trans H6.out); have K8 := hid ((hb.block _ (box_lt H8.out)).trans H8.out); have KB := hid (HB4.out.trans (hb.mono (by have := HZ.out; omega))); obtain ⟨u0, u1, u2, u3, u4, u5⟩ := load6 K3.out; clear hb) | (go_at_call 13; refine (HCK.out w5).mono ?_; rintro e' w6 ⟨rfl, hb⟩; have L3 := hid ((hb.block _ (box_lt K3.out)).trans K3.out); have L5 := hid ((hb.block _ (box_lt K5.out)).trans K5.out); have L6 := hid ((hb.block _ (box_lt K6.out)).trans K6.out); have L8 := hid ((hb.block _ (box_lt K8.out)).trans K8.out); have LB := hid (KB.out.trans (hb.mono (by have := box_lt K8.out; omega))); obtain ⟨s0, s1, s2, s3, s4, s5⟩ := load6 L3.out; obtain ⟨q0, q1, q2, q3, q4, q5⟩ := load6 L6.out; have g8 := box_fr L8.out; obtain ⟨c80, c81, c82, c83, c84, c85⟩ := load6 L8.out; have f6 := box_fr L6.out; have n0 := cell_of_row _ _ 0 _ _ _ L5.out; have n1 := cell_of_row _ _ 1 _ _ _ L5.out; have n2 := cell_of_row _ _ 2 _ _ _ L5.out; have n3 := cell_of_row _ _ 3 _ _ _ L5.out; have n5 := cell_of_row _ _ 5 _ _ _ L5.out; clear hb) | (go_at_call 30; refine (isTime_any _ _).mono ?_; rintro _ w' ⟨rfl, hh⟩; subst w'; first | rw [h3] | rw [h4]) | (go_at_call 37; (refine (close_any (g + 3) ⟨mt, mf, me, sn, sp, sd⟩ _ (end_set2 L8.out me)).mono ?_; rintro e' w7 ⟨rfl, he, hu⟩; have HE7 := hid he; have HU7 := hid (((Upd.refl (g + 3) w6).set 2 (.int .i64 me)).trans hu); have M5 := (HU7.out.block _ (box_lt L5.out) (by omega)).trans L5.out; have o3 := cell_of_row _ _ 3 _ _ _ M5; clear he hu M5)) | (go_at_call 40; refine (HA.out _ HE7.out).mono ?_; rintro e' w8 ⟨v, rfl, he, hm, hu⟩; have HE8 := hid he; have HU8 := hid (HU7.out.trans hu); have HM8 := hid hm; have P6 := hid ((HU8.out.block _ (box_lt L6.out) (by omega)).trans L6.out); obtain ⟨r0, r1, r2, r3, r4, r5⟩ := load6 he; obtain ⟨t0, t1, t2, t3, t4, t5⟩ := load6 P6.out; have f8 := box_fr P6.out; clear he hm hu))
    have HSZ := HU7.out.low.size
    refine bodyPost_ret (results_s1 rfl _ _ (g + 2) 23 s' rfl (set6h s' P6.out) _ rfl) rfl ?_
    refine ⟨v, rfl, HM8.out.keep (by have := HG.out; have := box_lt L6.out; have := HSZ; omega) (fun b x hb hx => ?_), ?_⟩
    · have hne : b ≠ g + 2 := by have := box_lt L6.out; have := HSZ; omega
      exact ((set6u (g := g + 2) s' (Upd.refl _ w8)).block b (box_lt hx) hne).trans hx
    · rw [HG.out]
      exact set6b s' (LB.out.trans (HU8.out.below (by omega) (by have := box_lt L6.out; omega))) (by omega)
  · have b4 : decide (se < me) = false := decide_eq_false a4
    rw [if_neg a4]
    obtain ⟨⟨s', l'⟩, hR⟩ : ∃ R, helloR ⟨mt, mf, se, sn, sp, sd⟩ mn = R := ⟨_, rfl⟩
    have HA := hid (fun X (hX : EndAt X (g + 3) ⟨mt, mf, se, sn, sp, sd⟩) => hR ▸ hello_any (g + 3) ⟨mt, mf, se, sn, sp, sd⟩ mn X hX)
    rw [hR]
    clear hR
    have HEP := hid hep
    clear hep a4
    go_enter Try.func24, Try.ntmps24
    go_upto_region 2 with fail
    rw [HG.out, HW4.out]
    go_wp2_with (first | (go_at_call 39; refine HH.out.mono ?_; rintro e' w5 ⟨rfl, hb⟩; have K3 := hid ((hb.block _ (box_lt H3.out)).trans H3.out); have K5 := hid ((hb.block _ (box_lt H5.out)).trans H5.out); have K6 := hid ((hb.block _ (box_lt H6.out)).trans H6.out); have K8 := hid ((hb.block _ (box_lt H8.out)).trans H8.out); have KB := hid (HB4.out.trans (hb.mono (by have := HZ.out; omega))); obtain ⟨u0, u1, u2, u3, u4, u5⟩ := load6 K3.out; clear hb) | (go_at_call 13; refine (HCK.out w5).mono ?_; rintro e' w6 ⟨rfl, hb⟩; have L3 := hid ((hb.block _ (box_lt K3.out)).trans K3.out); have L5 := hid ((hb.block _ (box_lt K5.out)).trans K5.out); have L6 := hid ((hb.block _ (box_lt K6.out)).trans K6.out); have L8 := hid ((hb.block _ (box_lt K8.out)).trans K8.out); have LB := hid (KB.out.trans (hb.mono (by have := box_lt K8.out; omega))); obtain ⟨s0, s1, s2, s3, s4, s5⟩ := load6 L3.out; obtain ⟨q0, q1, q2, q3, q4, q5⟩ := load6 L6.out; have g8 := box_fr L8.out; obtain ⟨c80, c81, c82, c83, c84, c85⟩ := load6 L8.out; have f6 := box_fr L6.out; have n0 := cell_of_row _ _ 0 _ _ _ L5.out; have n1 := cell_of_row _ _ 1 _ _ _ L5.out; have n2 := cell_of_row _ _ 2 _ _ _ L5.out; have n3 := cell_of_row _ _ 3 _ _ _ L5.out; have n5 := cell_of_row _ _ 5 _ _ _ L5.out; clear hb) | (go_at_call 30; refine (isTime_any _ _).mono ?_; rintro _ w' ⟨rfl, hh⟩; subst w'; first | rw [h3] | rw [h4]) | (go_at_call 40; refine (HA.out _ L8.out).mono ?_; rintro e' w8 ⟨v, rfl, he, hm, hu⟩; have HE8 := hid he; have HU8 := hid (hu); have HM8 := hid hm; have P6 := hid ((HU8.out.block _ (box_lt L6.out) (by omega)).trans L6.out); obtain ⟨r0, r1, r2, r3, r4, r5⟩ := load6 he; obtain ⟨t0, t1, t2, t3, t4, t5⟩ := load6 P6.out; have f8 := box_fr P6.out; clear he hm hu))
    have HSZ := Nat.le_refl w6.heap.size
    refine bodyPost_ret (results_s1 rfl _ _ (g + 2) 23 s' rfl (set6h s' P6.out) _ rfl) rfl ?_
    refine ⟨v, rfl, HM8.out.keep (by have := HG.out; have := box_lt L6.out; have := HSZ; omega) (fun b x hb hx => ?_), ?_⟩
    · have hne : b ≠ g + 2 := by have := box_lt L6.out; have := HSZ; omega
      exact ((set6u (g := g + 2) s' (Upd.refl _ w8)).block b (box_lt hx) hne).trans hx
    · rw [HG.out]
      exact set6b s' (LB.out.trans (HU8.out.below (by omega) (by have := box_lt L6.out; omega))) (by omega)
set_option maxHeartbeats 8000000 in
set_option maxRecDepth 100000 in
theorem receive_welcome (s : Ses) (now : Int) (m : Mes) (u : Int) (VA : Option Addr) (vn vc : Nat) (BA : Option Addr) (bn bc : Nat) (w : World)
    (hbad : chk s = 0 ∧ m.k = 6 ∧ m.f = s.r ∧ m.t = s.l ∧ timeB m.e = true ∧ timeB m.n = true) (hep : s.e ≤ m.e) :
    Calls Try.prog 24 #[sv s, .int .i64 now, mv m u VA vn vc BA bn bc] w (RecQ (welcomeR (if s.e < m.e then { s with e := m.e, p := 0, d := 0 } else s) m.n) w) := by
  obtain ⟨g, hg⟩ : ∃ g, w.heap.size = g := ⟨_, rfl⟩
  obtain ⟨k, mf, mt, mn, me⟩ := m
  obtain ⟨l, r, se, sn, sp, sd⟩ := s
  obtain ⟨W1, hW1⟩ : ∃ X, w.alloc (.cells (cS ⟨l, r, se, sn, sp, sd⟩) 23) = X := ⟨_, rfl⟩
  obtain ⟨W2, hW2⟩ : ∃ X, W1.alloc (.cells #[.int .i64 k, .int .i64 mf, .int .i64 mt, .int .i64 mn, .int .i64 u, .int .i64 me, .slice VA vn vc, .slice BA bn bc] 47) = X := ⟨_, rfl⟩
  obtain ⟨W3, hW3⟩ : ∃ X, W2.alloc (.cells (cS z6) 23) = X := ⟨_, rfl⟩
  obtain ⟨W4, hW4⟩ : ∃ X, W3.alloc (.cells (cS ⟨l, r, se, sn, sp, sd⟩) 71) = X := ⟨_, rfl⟩
  have z1 : W1.heap.size = g + 1 := by rw [← hW1, World.size_alloc, hg]
  have z2 : W2.heap.size = g + 2 := by rw [← hW2, World.size_alloc, z1]
  have z3 : W3.heap.size = g + 3 := by rw [← hW3, World.size_alloc, z2]
  have e1 : W1.heap[g]? = some (.cells (cS ⟨l, r, se, sn, sp, sd⟩) 23) := by rw [← hW1, ← hg]; exact heap_alloc_new w _
  have e2 : W2.heap[g + 1]? = some (.cells #[.int .i64 k, .int .i64 mf, .int .i64 mt, .int .i64 mn, .int .i64 u, .int .i64 me, .slice VA vn vc, .slice BA bn bc] 47) := by rw [← hW2, ← z1]; exact heap_alloc_new W1 _
  have e3 : W3.heap[g + 2]? = some (.cells (cS z6) 23) := by rw [← hW3, ← z2]; exact heap_alloc_new W2 _
  have e4 : W4.heap[g + 3]? = some (.cells (cS ⟨l, r, se, sn, sp, sd⟩) 71) := by rw [← hW4, ← z3]; exact heap_alloc_new W3 _
  have b12 : Below W1.heap.size W1 W4 := by rw [← hW4, ← hW3, ← hW2]; exact below_both (al1 _ _) ((below_both (al1 _ _) (al1 _ _)))
  have b24 : Below W2.heap.size W2 W4 := by rw [← hW4, ← hW3]; exact below_both (al1 _ _) (al1 _ _)
  have b34 : Below W3.heap.size W3 W4 := by rw [← hW4]; exact al1 _ _
  have H3 : Hid (W4.heap[g]? = some (.cells (cS ⟨l, r, se, sn, sp, sd⟩) 23)) := hid ((b12.block _ (by omega)).trans e1)
  have H5 : Hid (W4.heap[g + 1]? = some (.cells #[.int .i64 k, .int .i64 mf, .int .i64 mt, .int .i64 mn, .int .i64 u, .int .i64 me, .slice VA vn vc, .slice BA bn bc] 47)) := hid ((b24.block _ (by omega)).trans e2)
  have H6 : Hid (W4.heap[g + 2]? = some (.cells (cS z6) 23)) := hid ((b34.block _ (by omega)).trans e3)
  have H8 : Hid (EndAt W4 (g + 3) ⟨l, r, se, sn, sp, sd⟩) := hid e4
  have HB4 : Hid (Below g w W4) := hid (by rw [← hg]; exact below_both (by rw [← hW1]; exact al1 w _) b12)
  have HZ : Hid (W4.heap.size = g + 4) := hid (by rw [← hW4, World.size_alloc, z3])
  have HW4 : Hid ((((w.alloc (.cells (cS ⟨l, r, se, sn, sp, sd⟩) 23)).alloc (.cells #[.int .i64 k, .int .i64 mf, .int .i64 mt, .int .i64 mn, .int .i64 u, .int .i64 me, .slice VA vn vc, .slice BA bn bc] 47)).alloc (.cells (cS z6) 23)).alloc (.cells (cS ⟨l, r, se, sn, sp, sd⟩) 71) = W4) := hid (by rw [hW1, hW2, hW3, hW4])
  have HG := hid hg
  have HH := hid (handlingOf_any (g + 3) k W4)
  clear e1 e2 e3 e4 b12 b24 b34 z1 z2 z3 hW1 hW2 hW3 hW4 hg
  obtain ⟨c, hc⟩ : ∃ c, chk ⟨l, r, se, sn, sp, sd⟩ = c := ⟨_, rfl⟩
  have HCK := hid (fun X => check_any ⟨l, r, se, sn, sp, sd⟩ X)
  rw [hc] at HCK hbad
  obtain ⟨y0, y1, y2, y3, y4, y5⟩ := load6 H3.out
  have m0 := cell_of_row _ _ 0 _ _ _ H5.out
  have m1 := cell_of_row _ _ 1 _ _ _ H5.out
  have m2 := cell_of_row _ _ 2 _ _ _ H5.out
  have m3 := cell_of_row _ _ 3 _ _ _ H5.out
  have m5 := cell_of_row _ _ 5 _ _ _ H5.out
  clear hc
  unfold sv mv
  simp only [cS, z6] at HW4
  simp only at y0 y1 y2 y3 y4 y5 m0 m1 m2 m3 m5 hbad hep ⊢
  obtain ⟨c0, k0, a1, a2, h3, h4⟩ := hbad
  subst c0 k0
  have hq := eqf1 41 (.pointer (some ⟨g + 3, 0, none⟩))
  have hf : handV (g + 3) 6 = .func (.func 41) #[.pointer (some ⟨g + 3, 0, none⟩)] #[] := rfl
  rw [hf] at HH
  subst a1 a2
  have b3 : decide (me < se) = false := decide_eq_false (by omega)
  by_cases a4 : se < me
  · have b4 : decide (se < me) = true := decide_eq_true a4
    rw [if_pos a4]
    obtain ⟨⟨s', l'⟩, hR⟩ : ∃ R, welcomeR ⟨mt, mf, me, sn, 0, 0⟩ mn = R := ⟨_, rfl⟩
    have HA := hid (fun X (hX : EndAt X (g + 3) ⟨mt, mf, me, sn, 0, 0⟩) => hR ▸ welcome_any (g + 3) ⟨mt, mf, me, sn, 0, 0⟩ mn X hX)
    rw [hR]
    clear hR
    have HEP := hid hep
    clear hep a4
    go_enter Try.func24, Try.ntmps24
    go_upto_region 2 with fail
    rw [HG.out, HW4.out]
    go_wp2_with (first | (go_at_call 39; refine HH.out.mono ?_; rintro e' w5 ⟨rfl, hb⟩; have K3 := hid ((hb.block _ (box_lt H3.out)).trans H3.out); have K5 := hid ((hb.block _ (box_lt H5.out)).trans H5.out); have K6 := hid ((hb.block _ (box_lt H6.out)).trans H6.out); have K8 := hid ((hb.block _ (box_lt H8.out)).trans H8.out); have KB := hid (HB4.out.trans (hb.mono (by have := HZ.out; omega))); obtain ⟨u0, u1, u2, u3, u4, u5⟩ := load6 K3.out; clear hb) | (go_at_call 13; refine (HCK.out w5).mono ?_; rintro e' w6 ⟨rfl, hb⟩; have L3 := hid ((hb.block _ (box_lt K3.out)).trans K3.out); have L5 := hid ((hb.block _ (box_lt K5.out)).trans K5.out); have L6 := hid ((hb.block _ (box_lt K6.out)).trans K6.out); have L8 := hid ((hb.block _ (box_lt K8.out)).trans K8.out); have LB := hid (KB.out.trans (hb.mono (by have := box_lt K8.out; omega))); obtain ⟨s0, s1, s2, s3, s4, s5⟩ := load6 L3.out; obtain ⟨q0, q1, q2, q3, q4, q5⟩ := load6 L6.out; have g8 := box_fr L8.out; obtain ⟨c80, c81, c82, c83, c84, c85⟩ := load6 L8.out; have f6 := box_fr L6.out; have n0 := cell_of_row _ _ 0 _ _ _ L5.out; have n1 := cell_of_row _ _ 1 _ _ _ L5.out; have n2 := cell_of_row _ _ 2 _ _ _ L5.out; have n3 := cell_of_row _ _ 3 _ _ _ L5.out; have n5 := cell_of_row _ _ 5 _ _ _ L5.out; clear hb) | (go_at_call 30; refine (isTime_any _ _).mono ?_; rintro _ w' ⟨rfl, hh⟩; subst w'; first | rw [h3] | rw [h4]) | (go_at_call 37; (refine (close_any (g + 3) ⟨mt, mf, me, sn, sp, sd⟩ _ (end_set2 L8.out me)).mono ?_; rintro e' w7 ⟨rfl, he, hu⟩; have HE7 := hid he; have HU7 := hid (((Upd.refl (g + 3) w6).set 2 (.int .i64 me)).trans hu); have M5 := (HU7.out.block _ (box_lt L5.out) (by omega)).trans L5.out; have o3 := cell_of_row _ _ 3 _ _ _ M5; clear he hu M5)) | (go_at_call 41; refine (HA.out _ HE7.out).mono ?_; rintro e' w8 ⟨v, rfl, he, hm, hu⟩; have HE8 := hid he; have HU8 := hid (HU7.out.trans hu); have HM8 := hid hm; have P6 := hid ((HU8.out.block _ (box_lt L6.out) (by omega)).trans L6.out); obtain ⟨r0, r1, r2, r3, r4, r5⟩ := load6 he; obtain ⟨t0, t1, t2, t3, t4, t5⟩ := load6 P6.out; have f8 := box_fr P6.out; clear he hm hu))
    have HSZ := HU7.out.low.size
    refine bodyPost_ret (results_s1 rfl _ _ (g + 2) 23 s' rfl (set6h s' P6.out) _ rfl) rfl ?_
    refine ⟨v, rfl, HM8.out.keep (by have := HG.out; have := box_lt L6.out; have := HSZ; omega) (fun b x hb hx => ?_), ?_⟩
    · have hne : b ≠ g + 2 := by have := box_lt L6.out; have := HSZ; omega
      exact ((set6u (g := g + 2) s' (Upd.refl _ w8)).block b (box_lt hx) hne).trans hx
    · rw [HG.out]
      exact set6b s' (LB.out.trans (HU8.out.below (by omega) (by have := box_lt L6.out; omega))) (by omega)
  · have b4 : decide (se < me) = false := decide_eq_false a4
    rw [if_neg a4]
    obtain ⟨⟨s', l'⟩, hR⟩ : ∃ R, welcomeR ⟨mt, mf, se, sn, sp, sd⟩ mn = R := ⟨_, rfl⟩
    have HA := hid (fun X (hX : EndAt X (g + 3) ⟨mt, mf, se, sn, sp, sd⟩) => hR ▸ welcome_any (g + 3) ⟨mt, mf, se, sn, sp, sd⟩ mn X hX)
    rw [hR]
    clear hR
    have HEP := hid hep
    clear hep a4
    go_enter Try.func24, Try.ntmps24
    go_upto_region 2 with fail
    rw [HG.out, HW4.out]
    go_wp2_with (first | (go_at_call 39; refine HH.out.mono ?_; rintro e' w5 ⟨rfl, hb⟩; have K3 := hid ((hb.block _ (box_lt H3.out)).trans H3.out); have K5 := hid ((hb.block _ (box_lt H5.out)).trans H5.out); have K6 := hid ((hb.block _ (box_lt H6.out)).trans H6.out); have K8 := hid ((hb.block _ (box_lt H8.out)).trans H8.out); have KB := hid (HB4.out.trans (hb.mono (by have := HZ.out; omega))); obtain ⟨u0, u1, u2, u3, u4, u5⟩ := load6 K3.out; clear hb) | (go_at_call 13; refine (HCK.out w5).mono ?_; rintro e' w6 ⟨rfl, hb⟩; have L3 := hid ((hb.block _ (box_lt K3.out)).trans K3.out); have L5 := hid ((hb.block _ (box_lt K5.out)).trans K5.out); have L6 := hid ((hb.block _ (box_lt K6.out)).trans K6.out); have L8 := hid ((hb.block _ (box_lt K8.out)).trans K8.out); have LB := hid (KB.out.trans (hb.mono (by have := box_lt K8.out; omega))); obtain ⟨s0, s1, s2, s3, s4, s5⟩ := load6 L3.out; obtain ⟨q0, q1, q2, q3, q4, q5⟩ := load6 L6.out; have g8 := box_fr L8.out; obtain ⟨c80, c81, c82, c83, c84, c85⟩ := load6 L8.out; have f6 := box_fr L6.out; have n0 := cell_of_row _ _ 0 _ _ _ L5.out; have n1 := cell_of_row _ _ 1 _ _ _ L5.out; have n2 := cell_of_row _ _ 2 _ _ _ L5.out; have n3 := cell_of_row _ _ 3 _ _ _ L5.out; have n5 := cell_of_row _ _ 5 _ _ _ L5.out; clear hb) | (go_at_call 30; refine (isTime_any _ _).mono ?_; rintro _ w' ⟨rfl, hh⟩; subst w'; first | rw [h3] | rw [h4]) | (go_at_call 41; refine (HA.out _ L8.out).mono ?_; rintro e' w8 ⟨v, rfl, he, hm, hu⟩; have HE8 := hid he; have HU8 := hid (hu); have HM8 := hid hm; have P6 := hid ((HU8.out.block _ (box_lt L6.out) (by omega)).trans L6.out); obtain ⟨r0, r1, r2, r3, r4, r5⟩ := load6 he; obtain ⟨t0, t1, t2, t3, t4, t5⟩ := load6 P6.out; have f8 := box_fr P6.out; clear he hm hu))
    have HSZ := Nat.le_refl w6.heap.size
    refine bodyPost_ret (results_s1 rfl _ _ (g + 2) 23 s' rfl (set6h s' P6.out) _ rfl) rfl ?_
    refine ⟨v, rfl, HM8.out.keep (by have := HG.out; have := box_lt L6.out; have := HSZ; omega) (fun b x hb hx => ?_), ?_⟩
    · have hne : b ≠ g + 2 := by have := box_lt L6.out; have := HSZ; omega
      exact ((set6u (g := g + 2) s' (Upd.refl _ w8)).block b (box_lt hx) hne).trans hx
    · rw [HG.out]
      exact set6b s' (LB.out.trans (HU8.out.below (by omega) (by have := box_lt L6.out; omega))) (by omega)
set_option maxHeartbeats 8000000 in
set_option maxRecDepth 100000 in
theorem receive_reset (s : Ses) (now : Int) (m : Mes) (u : Int) (VA : Option Addr) (vn vc : Nat) (BA : Option Addr) (bn bc : Nat) (w : World)
    (hbad : chk s = 0 ∧ m.k = 7 ∧ m.f = s.r ∧ m.t = s.l ∧ timeB m.e = true ∧ timeB m.n = true) (hep : s.e ≤ m.e) :
    Calls Try.prog 24 #[sv s, .int .i64 now, mv m u VA vn vc BA bn bc] w (RecQ (resetR (if s.e < m.e then { s with e := m.e, p := 0, d := 0 } else s) m.n) w) := by
  obtain ⟨g, hg⟩ : ∃ g, w.heap.size = g := ⟨_, rfl⟩
  obtain ⟨k, mf, mt, mn, me⟩ := m
  obtain ⟨l, r, se, sn, sp, sd⟩ := s
  obtain ⟨W1, hW1⟩ : ∃ X, w.alloc (.cells (cS ⟨l, r, se, sn, sp, sd⟩) 23) = X := ⟨_, rfl⟩
  obtain ⟨W2, hW2⟩ : ∃ X, W1.alloc (.cells #[.int .i64 k, .int .i64 mf, .int .i64 mt, .int .i64 mn, .int .i64 u, .int .i64 me, .slice VA vn vc, .slice BA bn bc] 47) = X := ⟨_, rfl⟩
  obtain ⟨W3, hW3⟩ : ∃ X, W2.alloc (.cells (cS z6) 23) = X := ⟨_, rfl⟩
  obtain ⟨W4, hW4⟩ : ∃ X, W3.alloc (.cells (cS ⟨l, r, se, sn, sp, sd⟩) 71) = X := ⟨_, rfl⟩
  have z1 : W1.heap.size = g + 1 := by rw [← hW1, World.size_alloc, hg]
  have z2 : W2.heap.size = g + 2 := by rw [← hW2, World.size_alloc, z1]
  have z3 : W3.heap.size = g + 3 := by rw [← hW3, World.size_alloc, z2]
  have e1 : W1.heap[g]? = some (.cells (cS ⟨l, r, se, sn, sp, sd⟩) 23) := by rw [← hW1, ← hg]; exact heap_alloc_new w _
  have e2 : W2.heap[g + 1]? = some (.cells #[.int .i64 k, .int .i64 mf, .int .i64 mt, .int .i64 mn, .int .i64 u, .int .i64 me, .slice VA vn vc, .slice BA bn bc] 47) := by rw [← hW2, ← z1]; exact heap_alloc_new W1 _
  have e3 : W3.heap[g + 2]? = some (.cells (cS z6) 23) := by rw [← hW3, ← z2]; exact heap_alloc_new W2 _
  have e4 : W4.heap[g + 3]? = some (.cells (cS ⟨l, r, se, sn, sp, sd⟩) 71) := by rw [← hW4, ← z3]; exact heap_alloc_new W3 _
  have b12 : Below W1.heap.size W1 W4 := by rw [← hW4, ← hW3, ← hW2]; exact below_both (al1 _ _) ((below_both (al1 _ _) (al1 _ _)))
  have b24 : Below W2.heap.size W2 W4 := by rw [← hW4, ← hW3]; exact below_both (al1 _ _) (al1 _ _)
  have b34 : Below W3.heap.size W3 W4 := by rw [← hW4]; exact al1 _ _
  have H3 : Hid (W4.heap[g]? = some (.cells (cS ⟨l, r, se, sn, sp, sd⟩) 23)) := hid ((b12.block _ (by omega)).trans e1)
  have H5 : Hid (W4.heap[g + 1]? = some (.cells #[.int .i64 k, .int .i64 mf, .int .i64 mt, .int .i64 mn, .int .i64 u, .int .i64 me, .slice VA vn vc, .slice BA bn bc] 47)) := hid ((b24.block _ (by omega)).trans e2)
  have H6 : Hid (W4.heap[g + 2]? = some (.cells (cS z6) 23)) := hid ((b34.block _ (by omega)).trans e3)
  have H8 : Hid (EndAt W4 (g + 3) ⟨l, r, se, sn, sp, sd⟩) := hid e4
  have HB4 : Hid (Below g w W4) := hid (by rw [← hg]; exact below_both (by rw [← hW1]; exact al1 w _) b12)
  have HZ : Hid (W4.heap.size = g + 4) := hid (by rw [← hW4, World.size_alloc, z3])
  have HW4 : Hid ((((w.alloc (.cells (cS ⟨l, r, se, sn, sp, sd⟩) 23)).alloc (.cells #[.int .i64 k, .int .i64 mf, .int .i64 mt, .int .i64 mn, .int .i64 u, .int .i64 me, .slice VA vn vc, .slice BA bn bc] 47)).alloc (.cells (cS z6) 23)).alloc (.cells (cS ⟨l, r, se, sn, sp, sd⟩) 71) = W4) := hid (by rw [hW1, hW2, hW3, hW4])
  have HG := hid hg
  have HH := hid (handlingOf_any (g + 3) k W4)
  clear e1 e2 e3 e4 b12 b24 b34 z1 z2 z3 hW1 hW2 hW3 hW4 hg
  obtain ⟨c, hc⟩ : ∃ c, chk ⟨l, r, se, sn, sp, sd⟩ = c := ⟨_, rfl⟩
  have HCK := hid (fun X => check_any ⟨l, r, se, sn, sp, sd⟩ X)
  rw [hc] at HCK hbad
  obtain ⟨y0, y1, y2, y3, y4, y5⟩ := load6 H3.out
  have m0 := cell_of_row _ _ 0 _ _ _ H5.out
  have m1 := cell_of_row _ _ 1 _ _ _ H5.out
  have m2 := cell_of_row _ _ 2 _ _ _ H5.out
  have m3 := cell_of_row _ _ 3 _ _ _ H5.out
  have m5 := cell_of_row _ _ 5 _ _ _ H5.out
  clear hc
  unfold sv mv
  simp only [cS, z6] at HW4
  simp only at y0 y1 y2 y3 y4 y5 m0 m1 m2 m3 m5 hbad hep ⊢
  obtain ⟨c0, k0, a1, a2, h3, h4⟩ := hbad
  subst c0 k0
  have hq := eqf1 42 (.pointer (some ⟨g + 3, 0, none⟩))
  have hf : handV (g + 3) 7 = .func (.func 42) #[.pointer (some ⟨g + 3, 0, none⟩)] #[] := rfl
  rw [hf] at HH
  subst a1 a2
  have b3 : decide (me < se) = false := decide_eq_false (by omega)
  by_cases a4 : se < me
  · have b4 : decide (se < me) = true := decide_eq_true a4
    rw [if_pos a4]
    obtain ⟨⟨s', l'⟩, hR⟩ : ∃ R, resetR ⟨mt, mf, me, sn, 0, 0⟩ mn = R := ⟨_, rfl⟩
    have HA := hid (fun X (hX : EndAt X (g + 3) ⟨mt, mf, me, sn, 0, 0⟩) => hR ▸ reset_any (g + 3) ⟨mt, mf, me, sn, 0, 0⟩ mn X hX)
    rw [hR]
    clear hR
    have HEP := hid hep
    clear hep a4
    go_enter Try.func24, Try.ntmps24
    go_upto_region 2 with fail
    rw [HG.out, HW4.out]
    go_wp2_with (first | (go_at_call 39; refine HH.out.mono ?_; rintro e' w5 ⟨rfl, hb⟩; have K3 := hid ((hb.block _ (box_lt H3.out)).trans H3.out); have K5 := hid ((hb.block _ (box_lt H5.out)).trans H5.out); have K6 := hid ((hb.block _ (box_lt H6.out)).trans H6.out); have K8 := hid ((hb.block _ (box_lt H8.out)).trans H8.out); have KB := hid (HB4.out.trans (hb.mono (by have := HZ.out; omega))); obtain ⟨u0, u1, u2, u3, u4, u5⟩ := load6 K3.out; clear hb) | (go_at_call 13; refine (HCK.out w5).mono ?_; rintro e' w6 ⟨rfl, hb⟩; have L3 := hid ((hb.block _ (box_lt K3.out)).trans K3.out); have L5 := hid ((hb.block _ (box_lt K5.out)).trans K5.out); have L6 := hid ((hb.block _ (box_lt K6.out)).trans K6.out); have L8 := hid ((hb.block _ (box_lt K8.out)).trans K8.out); have LB := hid (KB.out.trans (hb.mono (by have := box_lt K8.out; omega))); obtain ⟨s0, s1, s2, s3, s4, s5⟩ := load6 L3.out; obtain ⟨q0, q1, q2, q3, q4, q5⟩ := load6 L6.out; have g8 := box_fr L8.out; obtain ⟨c80, c81, c82, c83, c84, c85⟩ := load6 L8.out; have f6 := box_fr L6.out; have n0 := cell_of_row _ _ 0 _ _ _ L5.out; have n1 := cell_of_row _ _ 1 _ _ _ L5.out; have n2 := cell_of_row _ _ 2 _ _ _ L5.out; have n3 := cell_of_row _ _ 3 _ _ _ L5.out; have n5 := cell_of_row _ _ 5 _ _ _ L5.out; clear hb) | (go_at_call 30; refine (isTime_any _ _).mono ?_; rintro _ w' ⟨rfl, hh⟩; subst w'; first | rw [h3] | rw [h4]) | (go_at_call 37; (refine (close_any (g + 3) ⟨mt, mf, me, sn, sp, sd⟩ _ (end_set2 L8.out me)).mono ?_; rintro e' w7 ⟨rfl, he, hu⟩; have HE7 := hid he; have HU7 := hid (((Upd.refl (g + 3) w6).set 2 (.int .i64 me)).trans hu); have M5 := (HU7.out.block _ (box_lt L5.out) (by omega)).trans L5.out; have o3 := cell_of_row _ _ 3 _ _ _ M5; clear he hu M5)) | (go_at_call 42; refine (HA.out _ HE7.out).mono ?_; rintro e' w8 ⟨v, rfl, he, hm, hu⟩; have HE8 := hid he; have HU8 := hid (HU7.out.trans hu); have HM8 := hid hm; have P6 := hid ((HU8.out.block _ (box_lt L6.out) (by omega)).trans L6.out); obtain ⟨r0, r1, r2, r3, r4, r5⟩ := load6 he; obtain ⟨t0, t1, t2, t3, t4, t5⟩ := load6 P6.out; have f8 := box_fr P6.out; clear he hm hu))
    have HSZ := HU7.out.low.size
    refine bodyPost_ret (results_s1 rfl _ _ (g + 2) 23 s' rfl (set6h s' P6.out) _ rfl) rfl ?_
    refine ⟨v, rfl, HM8.out.keep (by have := HG.out; have := box_lt L6.out; have := HSZ; omega) (fun b x hb hx => ?_), ?_⟩
    · have hne : b ≠ g + 2 := by have := box_lt L6.out; have := HSZ; omega
      exact ((set6u (g := g + 2) s' (Upd.refl _ w8)).block b (box_lt hx) hne).trans hx
    · rw [HG.out]
      exact set6b s' (LB.out.trans (HU8.out.below (by omega) (by have := box_lt L6.out; omega))) (by omega)
  · have b4 : decide (se < me) = false := decide_eq_false a4
    rw [if_neg a4]
    obtain ⟨⟨s', l'⟩, hR⟩ : ∃ R, resetR ⟨mt, mf, se, sn, sp, sd⟩ mn = R := ⟨_, rfl⟩
    have HA := hid (fun X (hX : EndAt X (g + 3) ⟨mt, mf, se, sn, sp, sd⟩) => hR ▸ reset_any (g + 3) ⟨mt, mf, se, sn, sp, sd⟩ mn X hX)
    rw [hR]
    clear hR
    have HEP := hid hep
    clear hep a4
    go_enter Try.func24, Try.ntmps24
    go_upto_region 2 with fail
    rw [HG.out, HW4.out]
    go_wp2_with (first | (go_at_call 39; refine HH.out.mono ?_; rintro e' w5 ⟨rfl, hb⟩; have K3 := hid ((hb.block _ (box_lt H3.out)).trans H3.out); have K5 := hid ((hb.block _ (box_lt H5.out)).trans H5.out); have K6 := hid ((hb.block _ (box_lt H6.out)).trans H6.out); have K8 := hid ((hb.block _ (box_lt H8.out)).trans H8.out); have KB := hid (HB4.out.trans (hb.mono (by have := HZ.out; omega))); obtain ⟨u0, u1, u2, u3, u4, u5⟩ := load6 K3.out; clear hb) | (go_at_call 13; refine (HCK.out w5).mono ?_; rintro e' w6 ⟨rfl, hb⟩; have L3 := hid ((hb.block _ (box_lt K3.out)).trans K3.out); have L5 := hid ((hb.block _ (box_lt K5.out)).trans K5.out); have L6 := hid ((hb.block _ (box_lt K6.out)).trans K6.out); have L8 := hid ((hb.block _ (box_lt K8.out)).trans K8.out); have LB := hid (KB.out.trans (hb.mono (by have := box_lt K8.out; omega))); obtain ⟨s0, s1, s2, s3, s4, s5⟩ := load6 L3.out; obtain ⟨q0, q1, q2, q3, q4, q5⟩ := load6 L6.out; have g8 := box_fr L8.out; obtain ⟨c80, c81, c82, c83, c84, c85⟩ := load6 L8.out; have f6 := box_fr L6.out; have n0 := cell_of_row _ _ 0 _ _ _ L5.out; have n1 := cell_of_row _ _ 1 _ _ _ L5.out; have n2 := cell_of_row _ _ 2 _ _ _ L5.out; have n3 := cell_of_row _ _ 3 _ _ _ L5.out; have n5 := cell_of_row _ _ 5 _ _ _ L5.out; clear hb) | (go_at_call 30; refine (isTime_any _ _).mono ?_; rintro _ w' ⟨rfl, hh⟩; subst w'; first | rw [h3] | rw [h4]) | (go_at_call 42; refine (HA.out _ L8.out).mono ?_; rintro e' w8 ⟨v, rfl, he, hm, hu⟩; have HE8 := hid he; have HU8 := hid (hu); have HM8 := hid hm; have P6 := hid ((HU8.out.block _ (box_lt L6.out) (by omega)).trans L6.out); obtain ⟨r0, r1, r2, r3, r4, r5⟩ := load6 he; obtain ⟨t0, t1, t2, t3, t4, t5⟩ := load6 P6.out; have f8 := box_fr P6.out; clear he hm hu))
    have HSZ := Nat.le_refl w6.heap.size
    refine bodyPost_ret (results_s1 rfl _ _ (g + 2) 23 s' rfl (set6h s' P6.out) _ rfl) rfl ?_
    refine ⟨v, rfl, HM8.out.keep (by have := HG.out; have := box_lt L6.out; have := HSZ; omega) (fun b x hb hx => ?_), ?_⟩
    · have hne : b ≠ g + 2 := by have := box_lt L6.out; have := HSZ; omega
      exact ((set6u (g := g + 2) s' (Upd.refl _ w8)).block b (box_lt hx) hne).trans hx
    · rw [HG.out]
      exact set6b s' (LB.out.trans (HU8.out.below (by omega) (by have := box_lt L6.out; omega))) (by omega)
end Go.Proofs.Ytkdladacmjkdoaa
