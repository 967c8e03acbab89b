/- Receive. -/
import Derived.Test.YtkdladacmjkdoaaG
import Derived.Test.YtkdladacmjkdoaaH
import Derived.Test.YtkdladacmjkdoaaI
namespace Go.Proofs.Ytkdladacmjkdoaa
open Go.RowKit Go.Lib
/-- A message as a value, with whatever values and body. -/
def mv (m : Mes) (u : Int) (VA : Option Addr) (vn vc : Nat) (BA : Option Addr) (bn bc : Nat) : Value := .agg #[.int .i64 m.k, .int .i64 m.f, .int .i64 m.t, .int .i64 m.n, .int .i64 u, .int .i64 m.e, .slice VA vn vc, .slice BA bn bc]
def actR (k : Int) (s : Ses) (x : Int) : Ses × List Mes := if k = 5 then helloR s x else if k = 6 then welcomeR s x else resetR s x
/-- What Receive returns. -/
def recR (s : Ses) (m : Mes) : Ses × List Mes :=
  if chk s = 0 ∧ (m.k = 5 ∨ m.k = 6 ∨ m.k = 7) ∧ m.f = s.r ∧ m.t = s.l ∧ timeB m.e = true ∧ timeB m.n = true then
    if m.e < s.e then (if m.k = 5 then (s, [nm 7 s]) else (s, []))
    else actR m.k (if s.e < m.e then { s with e := m.e, p := 0, d := 0 } else s) m.n
  else (s, [])
def RecQ (x : Ses × List Mes) (w : World) (f : Ending) (w' : World) : Prop := ∃ v, f = .returned (.tuple #[sv x.1, v]) ∧ MsgQ w.heap.size w' v x.2 ∧ Below w.heap.size w w'
theorem handV_nil {g : Nat} {k : Int} (h : ¬(k = 5 ∨ k = 6 ∨ k = 7)) : handV g k = .nilFunc := by
  unfold handV
  rw [if_neg (by omega), if_neg (by omega), if_neg (by omega)]
theorem handV_fn {g : Nat} {k : Int} (h : k = 5 ∨ k = 6 ∨ k = 7) : ∃ fn, handV g k = .func (.func fn) #[.pointer (some ⟨g, 0, none⟩)] #[] := by
  unfold handV
  rcases h with rfl | rfl | rfl
  · exact ⟨40, rfl⟩
  · exact ⟨41, rfl⟩
  · exact ⟨42, rfl⟩
theorem eqf0 (W : World) : (binOp .eql 77 .nilFunc .nilFunc).run Try.prog W = .ok (.bool true) W := by kernel_rfl
theorem eqf1 (fn : Nat) (v : Value) (W : World) : (binOp .eql 77 (.func (.func fn) #[v] #[]) .nilFunc).run Try.prog W = .ok (.bool false) W := by rfl
set_option maxHeartbeats 8000000 in
set_option maxRecDepth 100000 in
theorem receive_bad (s : Ses) (now : Int) (m : Mes) (u : Int) (VA : Option Addr) (vn vc : Nat) (BA : Option Addr) (bn bc : Nat) (w : World)
    (hbad : ¬(chk s = 0 ∧ (m.k = 5 ∨ m.k = 6 ∨ m.k = 7) ∧ m.f = s.r ∧ m.t = s.l ∧ timeB m.e = true ∧ timeB m.n = true)) :
    Calls Try.prog 24 #[sv s, .int .i64 now, mv m u VA vn vc BA bn bc] w (RecQ (s, []) w) := by
  obtain ⟨g, hg⟩ : ∃ g, w.heap.size = g := ⟨_, rfl⟩
  obtain ⟨k, mf, mt, mn, me⟩ := m
  obtain ⟨l, r, se, sn, sp, sd⟩ := s
  obtain ⟨W1, hW1⟩ : ∃ X, w.alloc (.cells (cS ⟨l, r, se, sn, sp, sd⟩) 23) = X := ⟨_, rfl⟩
  obtain ⟨W2, hW2⟩ : ∃ X, W1.alloc (.cells #[.int .i64 k, .int .i64 mf, .int .i64 mt, .int .i64 mn, .int .i64 u, .int .i64 me, .slice VA vn vc, .slice BA bn bc] 47) = X := ⟨_, rfl⟩
  obtain ⟨W3, hW3⟩ : ∃ X, W2.alloc (.cells (cS z6) 23) = X := ⟨_, rfl⟩
  obtain ⟨W4, hW4⟩ : ∃ X, W3.alloc (.cells (cS ⟨l, r, se, sn, sp, sd⟩) 71) = X := ⟨_, rfl⟩
  have z1 : W1.heap.size = g + 1 := by rw [← hW1, World.size_alloc, hg]
  have z2 : W2.heap.size = g + 2 := by rw [← hW2, World.size_alloc, z1]
  have z3 : W3.heap.size = g + 3 := by rw [← hW3, World.size_alloc, z2]
  have e1 : W1.heap[g]? = some (.cells (cS ⟨l, r, se, sn, sp, sd⟩) 23) := by rw [← hW1, ← hg]; exact heap_alloc_new w _
  have e2 : W2.heap[g + 1]? = some (.cells #[.int .i64 k, .int .i64 mf, .int .i64 mt, .int .i64 mn, .int .i64 u, .int .i64 me, .slice VA vn vc, .slice BA bn bc] 47) := by rw [← hW2, ← z1]; exact heap_alloc_new W1 _
  have e3 : W3.heap[g + 2]? = some (.cells (cS z6) 23) := by rw [← hW3, ← z2]; exact heap_alloc_new W2 _
  have e4 : W4.heap[g + 3]? = some (.cells (cS ⟨l, r, se, sn, sp, sd⟩) 71) := by rw [← hW4, ← z3]; exact heap_alloc_new W3 _
  have b12 : Below W1.heap.size W1 W4 := by rw [← hW4, ← hW3, ← hW2]; exact below_both (al1 _ _) ((below_both (al1 _ _) (al1 _ _)))
  have b24 : Below W2.heap.size W2 W4 := by rw [← hW4, ← hW3]; exact below_both (al1 _ _) (al1 _ _)
  have b34 : Below W3.heap.size W3 W4 := by rw [← hW4]; exact al1 _ _
  have H3 : Hid (W4.heap[g]? = some (.cells (cS ⟨l, r, se, sn, sp, sd⟩) 23)) := hid ((b12.block _ (by omega)).trans e1)
  have H5 : Hid (W4.heap[g + 1]? = some (.cells #[.int .i64 k, .int .i64 mf, .int .i64 mt, .int .i64 mn, .int .i64 u, .int .i64 me, .slice VA vn vc, .slice BA bn bc] 47)) := hid ((b24.block _ (by omega)).trans e2)
  have H6 : Hid (W4.heap[g + 2]? = some (.cells (cS z6) 23)) := hid ((b34.block _ (by omega)).trans e3)
  have H8 : Hid (EndAt W4 (g + 3) ⟨l, r, se, sn, sp, sd⟩) := hid e4
  have HB4 : Hid (Below g w W4) := hid (by rw [← hg]; exact below_both (by rw [← hW1]; exact al1 w _) b12)
  have HZ : Hid (W4.heap.size = g + 4) := hid (by rw [← hW4, World.size_alloc, z3])
  have HW4 : Hid ((((w.alloc (.cells (cS ⟨l, r, se, sn, sp, sd⟩) 23)).alloc (.cells #[.int .i64 k, .int .i64 mf, .int .i64 mt, .int .i64 mn, .int .i64 u, .int .i64 me, .slice VA vn vc, .slice BA bn bc] 47)).alloc (.cells (cS z6) 23)).alloc (.cells (cS ⟨l, r, se, sn, sp, sd⟩) 71) = W4) := hid (by rw [hW1, hW2, hW3, hW4])
  have HG := hid hg
  have HH := hid (handlingOf_any (g + 3) k W4)
  clear e1 e2 e3 e4 b12 b24 b34 z1 z2 z3 hW1 hW2 hW3 hW4 hg
  obtain ⟨c, hc⟩ : ∃ c, chk ⟨l, r, se, sn, sp, sd⟩ = c := ⟨_, rfl⟩
  have HCK := hid (fun X => check_any ⟨l, r, se, sn, sp, sd⟩ X)
  rw [hc] at HCK hbad
  obtain ⟨y0, y1, y2, y3, y4, y5⟩ := load6 H3.out
  have m0 := cell_of_row _ _ 0 _ _ _ H5.out
  have m1 := cell_of_row _ _ 1 _ _ _ H5.out
  have m2 := cell_of_row _ _ 2 _ _ _ H5.out
  have m3 := cell_of_row _ _ 3 _ _ _ H5.out
  have m5 := cell_of_row _ _ 5 _ _ _ H5.out
  clear hc
  unfold sv mv
  simp only [cS, z6] at HW4
  simp only at y0 y1 y2 y3 y4 y5 m0 m1 m2 m3 m5 hbad ⊢
  have HBAD := hid hbad
  clear hbad
  by_cases c0 : c = 0
  rotate_left
  · have d0 : (c != 0) = true := by simp [c0]
    go_enter Try.func24, Try.ntmps24
    go_upto_region 2 with fail
    rw [HG.out, HW4.out]
    go_wp2_with (first | (go_at_call 39; refine HH.out.mono ?_; rintro e' w5 ⟨rfl, hb⟩; have K3 := hid ((hb.block _ (box_lt H3.out)).trans H3.out); have K5 := hid ((hb.block _ (box_lt H5.out)).trans H5.out); have K6 := hid ((hb.block _ (box_lt H6.out)).trans H6.out); have K8 := hid ((hb.block _ (box_lt H8.out)).trans H8.out); have KB := hid (HB4.out.trans (hb.mono (by have := HZ.out; omega))); obtain ⟨u0, u1, u2, u3, u4, u5⟩ := load6 K3.out; clear hb) | (go_at_call 13; refine (HCK.out w5).mono ?_; rintro e' w6 ⟨rfl, hb⟩; have L3 := hid ((hb.block _ (box_lt K3.out)).trans K3.out); have L5 := hid ((hb.block _ (box_lt K5.out)).trans K5.out); have L6 := hid ((hb.block _ (box_lt K6.out)).trans K6.out); have L8 := hid ((hb.block _ (box_lt K8.out)).trans K8.out); have LB := hid (KB.out.trans (hb.mono (by have := box_lt K8.out; omega))); obtain ⟨s0, s1, s2, s3, s4, s5⟩ := load6 L3.out; obtain ⟨q0, q1, q2, q3, q4, q5⟩ := load6 L6.out; have f6 := box_fr L6.out; have n0 := cell_of_row _ _ 0 _ _ _ L5.out; have n1 := cell_of_row _ _ 1 _ _ _ L5.out; have n2 := cell_of_row _ _ 2 _ _ _ L5.out; have n3 := cell_of_row _ _ 3 _ _ _ L5.out; have n5 := cell_of_row _ _ 5 _ _ _ L5.out; clear hb) | (go_at_call 30; refine (isTime_any _ _).mono ?_; rintro _ w' ⟨rfl, hh⟩; subst w'; first | rw [h3] | rw [h4]))
    refine bodyPost_ret (results_s1 rfl _ _ (g + 2) 23 ⟨l, r, se, sn, sp, sd⟩ rfl (set6h ⟨l, r, se, sn, sp, sd⟩ L6.out) _ rfl) rfl ?_
    exact ⟨_, rfl, msgQ_nil _ _, by rw [HG.out]; exact set6b ⟨l, r, se, sn, sp, sd⟩ LB.out (by omega)⟩
  subst c0
  by_cases k0 : k = 5 ∨ k = 6 ∨ k = 7
  rotate_left
  · rw [handV_nil k0] at HH
    have hq := eqf0
    go_enter Try.func24, Try.ntmps24
    go_upto_region 2 with fail
    rw [HG.out, HW4.out]
    go_wp2_with (first | (go_at_call 39; refine HH.out.mono ?_; rintro e' w5 ⟨rfl, hb⟩; have K3 := hid ((hb.block _ (box_lt H3.out)).trans H3.out); have K5 := hid ((hb.block _ (box_lt H5.out)).trans H5.out); have K6 := hid ((hb.block _ (box_lt H6.out)).trans H6.out); have K8 := hid ((hb.block _ (box_lt H8.out)).trans H8.out); have KB := hid (HB4.out.trans (hb.mono (by have := HZ.out; omega))); obtain ⟨u0, u1, u2, u3, u4, u5⟩ := load6 K3.out; clear hb) | (go_at_call 13; refine (HCK.out w5).mono ?_; rintro e' w6 ⟨rfl, hb⟩; have L3 := hid ((hb.block _ (box_lt K3.out)).trans K3.out); have L5 := hid ((hb.block _ (box_lt K5.out)).trans K5.out); have L6 := hid ((hb.block _ (box_lt K6.out)).trans K6.out); have L8 := hid ((hb.block _ (box_lt K8.out)).trans K8.out); have LB := hid (KB.out.trans (hb.mono (by have := box_lt K8.out; omega))); obtain ⟨s0, s1, s2, s3, s4, s5⟩ := load6 L3.out; obtain ⟨q0, q1, q2, q3, q4, q5⟩ := load6 L6.out; have f6 := box_fr L6.out; have n0 := cell_of_row _ _ 0 _ _ _ L5.out; have n1 := cell_of_row _ _ 1 _ _ _ L5.out; have n2 := cell_of_row _ _ 2 _ _ _ L5.out; have n3 := cell_of_row _ _ 3 _ _ _ L5.out; have n5 := cell_of_row _ _ 5 _ _ _ L5.out; clear hb) | (go_at_call 30; refine (isTime_any _ _).mono ?_; rintro _ w' ⟨rfl, hh⟩; subst w'; first | rw [h3] | rw [h4]))
    refine bodyPost_ret (results_s1 rfl _ _ (g + 2) 23 ⟨l, r, se, sn, sp, sd⟩ rfl (set6h ⟨l, r, se, sn, sp, sd⟩ L6.out) _ rfl) rfl ?_
    exact ⟨_, rfl, msgQ_nil _ _, by rw [HG.out]; exact set6b ⟨l, r, se, sn, sp, sd⟩ LB.out (by omega)⟩
  obtain ⟨fn, hfn⟩ := handV_fn (g := g + 3) k0
  rw [hfn] at HH
  have hq := eqf1 fn (.pointer (some ⟨g + 3, 0, none⟩))
  by_cases a1 : mf = r
  rotate_left
  · have b1 : (mf != r) = true := by simp [a1]
    go_enter Try.func24, Try.ntmps24
    go_upto_region 2 with fail
    rw [HG.out, HW4.out]
    go_wp2_with (first | (go_at_call 39; refine HH.out.mono ?_; rintro e' w5 ⟨rfl, hb⟩; have K3 := hid ((hb.block _ (box_lt H3.out)).trans H3.out); have K5 := hid ((hb.block _ (box_lt H5.out)).trans H5.out); have K6 := hid ((hb.block _ (box_lt H6.out)).trans H6.out); have K8 := hid ((hb.block _ (box_lt H8.out)).trans H8.out); have KB := hid (HB4.out.trans (hb.mono (by have := HZ.out; omega))); obtain ⟨u0, u1, u2, u3, u4, u5⟩ := load6 K3.out; clear hb) | (go_at_call 13; refine (HCK.out w5).mono ?_; rintro e' w6 ⟨rfl, hb⟩; have L3 := hid ((hb.block _ (box_lt K3.out)).trans K3.out); have L5 := hid ((hb.block _ (box_lt K5.out)).trans K5.out); have L6 := hid ((hb.block _ (box_lt K6.out)).trans K6.out); have L8 := hid ((hb.block _ (box_lt K8.out)).trans K8.out); have LB := hid (KB.out.trans (hb.mono (by have := box_lt K8.out; omega))); obtain ⟨s0, s1, s2, s3, s4, s5⟩ := load6 L3.out; obtain ⟨q0, q1, q2, q3, q4, q5⟩ := load6 L6.out; have f6 := box_fr L6.out; have n0 := cell_of_row _ _ 0 _ _ _ L5.out; have n1 := cell_of_row _ _ 1 _ _ _ L5.out; have n2 := cell_of_row _ _ 2 _ _ _ L5.out; have n3 := cell_of_row _ _ 3 _ _ _ L5.out; have n5 := cell_of_row _ _ 5 _ _ _ L5.out; clear hb) | (go_at_call 30; refine (isTime_any _ _).mono ?_; rintro _ w' ⟨rfl, hh⟩; subst w'; first | rw [h3] | rw [h4]))
    refine bodyPost_ret (results_s1 rfl _ _ (g + 2) 23 ⟨l, r, se, sn, sp, sd⟩ rfl (set6h ⟨l, r, se, sn, sp, sd⟩ L6.out) _ rfl) rfl ?_
    exact ⟨_, rfl, msgQ_nil _ _, by rw [HG.out]; exact set6b ⟨l, r, se, sn, sp, sd⟩ LB.out (by omega)⟩
  have b1 : (mf != r) = false := by simp [a1]
  by_cases a2 : mt = l
  rotate_left
  · have b2 : (mt != l) = true := by simp [a2]
    have HA1 := hid a1
    clear a1
    go_enter Try.func24, Try.ntmps24
    go_upto_region 2 with fail
    rw [HG.out, HW4.out]
    go_wp2_with (first | (go_at_call 39; refine HH.out.mono ?_; rintro e' w5 ⟨rfl, hb⟩; have K3 := hid ((hb.block _ (box_lt H3.out)).trans H3.out); have K5 := hid ((hb.block _ (box_lt H5.out)).trans H5.out); have K6 := hid ((hb.block _ (box_lt H6.out)).trans H6.out); have K8 := hid ((hb.block _ (box_lt H8.out)).trans H8.out); have KB := hid (HB4.out.trans (hb.mono (by have := HZ.out; omega))); obtain ⟨u0, u1, u2, u3, u4, u5⟩ := load6 K3.out; clear hb) | (go_at_call 13; refine (HCK.out w5).mono ?_; rintro e' w6 ⟨rfl, hb⟩; have L3 := hid ((hb.block _ (box_lt K3.out)).trans K3.out); have L5 := hid ((hb.block _ (box_lt K5.out)).trans K5.out); have L6 := hid ((hb.block _ (box_lt K6.out)).trans K6.out); have L8 := hid ((hb.block _ (box_lt K8.out)).trans K8.out); have LB := hid (KB.out.trans (hb.mono (by have := box_lt K8.out; omega))); obtain ⟨s0, s1, s2, s3, s4, s5⟩ := load6 L3.out; obtain ⟨q0, q1, q2, q3, q4, q5⟩ := load6 L6.out; have f6 := box_fr L6.out; have n0 := cell_of_row _ _ 0 _ _ _ L5.out; have n1 := cell_of_row _ _ 1 _ _ _ L5.out; have n2 := cell_of_row _ _ 2 _ _ _ L5.out; have n3 := cell_of_row _ _ 3 _ _ _ L5.out; have n5 := cell_of_row _ _ 5 _ _ _ L5.out; clear hb) | (go_at_call 30; refine (isTime_any _ _).mono ?_; rintro _ w' ⟨rfl, hh⟩; subst w'; first | rw [h3] | rw [h4]))
    refine bodyPost_ret (results_s1 rfl _ _ (g + 2) 23 ⟨l, r, se, sn, sp, sd⟩ rfl (set6h ⟨l, r, se, sn, sp, sd⟩ L6.out) _ rfl) rfl ?_
    exact ⟨_, rfl, msgQ_nil _ _, by rw [HG.out]; exact set6b ⟨l, r, se, sn, sp, sd⟩ LB.out (by omega)⟩
  have b2 : (mt != l) = false := by simp [a2]
  have HA1 := hid a1
  have HA2 := hid a2
  clear a1 a2
  cases h3 : timeB me
  · go_enter Try.func24, Try.ntmps24
    go_upto_region 2 with fail
    rw [HG.out, HW4.out]
    go_wp2_with (first | (go_at_call 39; refine HH.out.mono ?_; rintro e' w5 ⟨rfl, hb⟩; have K3 := hid ((hb.block _ (box_lt H3.out)).trans H3.out); have K5 := hid ((hb.block _ (box_lt H5.out)).trans H5.out); have K6 := hid ((hb.block _ (box_lt H6.out)).trans H6.out); have K8 := hid ((hb.block _ (box_lt H8.out)).trans H8.out); have KB := hid (HB4.out.trans (hb.mono (by have := HZ.out; omega))); obtain ⟨u0, u1, u2, u3, u4, u5⟩ := load6 K3.out; clear hb) | (go_at_call 13; refine (HCK.out w5).mono ?_; rintro e' w6 ⟨rfl, hb⟩; have L3 := hid ((hb.block _ (box_lt K3.out)).trans K3.out); have L5 := hid ((hb.block _ (box_lt K5.out)).trans K5.out); have L6 := hid ((hb.block _ (box_lt K6.out)).trans K6.out); have L8 := hid ((hb.block _ (box_lt K8.out)).trans K8.out); have LB := hid (KB.out.trans (hb.mono (by have := box_lt K8.out; omega))); obtain ⟨s0, s1, s2, s3, s4, s5⟩ := load6 L3.out; obtain ⟨q0, q1, q2, q3, q4, q5⟩ := load6 L6.out; have f6 := box_fr L6.out; have n0 := cell_of_row _ _ 0 _ _ _ L5.out; have n1 := cell_of_row _ _ 1 _ _ _ L5.out; have n2 := cell_of_row _ _ 2 _ _ _ L5.out; have n3 := cell_of_row _ _ 3 _ _ _ L5.out; have n5 := cell_of_row _ _ 5 _ _ _ L5.out; clear hb) | (go_at_call 30; refine (isTime_any _ _).mono ?_; rintro _ w' ⟨rfl, hh⟩; subst w'; first | rw [h3] | rw [h4]))
    refine bodyPost_ret (results_s1 rfl _ _ (g + 2) 23 ⟨l, r, se, sn, sp, sd⟩ rfl (set6h ⟨l, r, se, sn, sp, sd⟩ L6.out) _ rfl) rfl ?_
    exact ⟨_, rfl, msgQ_nil _ _, by rw [HG.out]; exact set6b ⟨l, r, se, sn, sp, sd⟩ LB.out (by omega)⟩
  cases h4 : timeB mn
  · go_enter Try.func24, Try.ntmps24
    go_upto_region 2 with fail
    rw [HG.out, HW4.out]
    go_wp2_with (first | (go_at_call 39; refine HH.out.mono ?_; rintro e' w5 ⟨rfl, hb⟩; have K3 := hid ((hb.block _ (box_lt H3.out)).trans H3.out); have K5 := hid ((hb.block _ (box_lt H5.out)).trans H5.out); have K6 := hid ((hb.block _ (box_lt H6.out)).trans H6.out); have K8 := hid ((hb.block _ (box_lt H8.out)).trans H8.out); have KB := hid (HB4.out.trans (hb.mono (by have := HZ.out; omega))); obtain ⟨u0, u1, u2, u3, u4, u5⟩ := load6 K3.out; clear hb) | (go_at_call 13; refine (HCK.out w5).mono ?_; rintro e' w6 ⟨rfl, hb⟩; have L3 := hid ((hb.block _ (box_lt K3.out)).trans K3.out); have L5 := hid ((hb.block _ (box_lt K5.out)).trans K5.out); have L6 := hid ((hb.block _ (box_lt K6.out)).trans K6.out); have L8 := hid ((hb.block _ (box_lt K8.out)).trans K8.out); have LB := hid (KB.out.trans (hb.mono (by have := box_lt K8.out; omega))); obtain ⟨s0, s1, s2, s3, s4, s5⟩ := load6 L3.out; obtain ⟨q0, q1, q2, q3, q4, q5⟩ := load6 L6.out; have f6 := box_fr L6.out; have n0 := cell_of_row _ _ 0 _ _ _ L5.out; have n1 := cell_of_row _ _ 1 _ _ _ L5.out; have n2 := cell_of_row _ _ 2 _ _ _ L5.out; have n3 := cell_of_row _ _ 3 _ _ _ L5.out; have n5 := cell_of_row _ _ 5 _ _ _ L5.out; clear hb) | (go_at_call 30; refine (isTime_any _ _).mono ?_; rintro _ w' ⟨rfl, hh⟩; subst w'; first | rw [h3] | rw [h4]))
    refine bodyPost_ret (results_s1 rfl _ _ (g + 2) 23 ⟨l, r, se, sn, sp, sd⟩ rfl (set6h ⟨l, r, se, sn, sp, sd⟩ L6.out) _ rfl) rfl ?_
    exact ⟨_, rfl, msgQ_nil _ _, by rw [HG.out]; exact set6b ⟨l, r, se, sn, sp, sd⟩ LB.out (by omega)⟩
  exact absurd ⟨rfl, k0, HA1.out, HA2.out, h3, h4⟩ HBAD.out
end Go.Proofs.Ytkdladacmjkdoaa
