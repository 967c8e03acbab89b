/- New, Next, Cut, Restore. -/
import Derived.Test.YtacpejoablcffaaJ
namespace Go.Proofs.Ytacpejoablcffaa
open Go.RowKit Go.Lib

theorem results_v1 {fn : Func} {p u : Tmp} {ty : TypeId} (h : fn.results = #[.cell p ty, .tmp u]) (tmps : Array Value) (w : World) (g : Nat) (v : Value)
    (hp : tmps.getD p undef = .pointer (some ⟨g, 0, none⟩)) (hlv : (loadVar ty ⟨g, 0, none⟩).run Try.prog w = .ok v w) (z : Value) (hz : tmps.getD u undef = z) :
    (results fn tmps).run Try.prog w = .ok (.tuple #[v, z]) w := by
  have hp' : tmps[p]?.getD undef = .pointer (some ⟨g, 0, none⟩) := by simpa using hp
  have hz' : tmps[u]?.getD undef = z := by simpa using hz
  simp [results, h, hp', hz', asAddr, hlv]
/-- What Next gives. -/
def nxtS (s : Lk) (l : List Fc) : Int × Bool := if chk s l ≠ 0 then (0, false) else match l with
  | [] => (0, false)
  | x :: _ => (x.1, true)
set_option maxHeartbeats 4000000 in
set_option maxRecDepth 100000 in
theorem next_any (s : Lk) (l : List Fl) (v : Value) (w : World) (hv : FL w v l) (hr : ∀ x ∈ l, R64 x.n) :
    Calls Try.prog 24 #[vLk s v] w fun e w' => e = .returned (.tuple #[.int .i64 (nxtS s (l.map core)).1, .bool (nxtS s (l.map core)).2]) ∧ Below w.heap.size w w' := by
  obtain ⟨R, hR⟩ : ∃ R, nxtS s (l.map core) = R := ⟨_, rfl⟩
  rw [hR]
  have HR := hid hR
  clear hR
  obtain ⟨A, c, rfl⟩ := fl_form hv
  obtain ⟨N, hN⟩ : ∃ N, l.length = N := ⟨_, rfl⟩
  rw [hN] at hv ⊢
  obtain ⟨mn, mx, rt, dn, idle, next⟩ := s
  unfold vLk
  dsimp only
  obtain ⟨g, hg⟩ : ∃ g, w.heap.size = g := ⟨_, rfl⟩
  obtain ⟨W1, hW1⟩ : ∃ W1, w.alloc (.cells #[.int .i64 mn, .int .i64 mx, .int .i64 rt, .bool dn, .int .i64 idle, .int .i64 next, .slice A N c] 26) = W1 := ⟨_, rfl⟩
  have hb1 : Below w.heap.size w W1 := by rw [← hW1]; exact al1 _ _
  have hx1 : W1.heap[g]? = some (.cells #[.int .i64 mn, .int .i64 mx, .int .i64 rt, .bool dn, .int .i64 idle, .int .i64 next, .slice A N c] 26) := by rw [← hW1, ← hg]; exact heap_alloc_new w _
  have hz1 : W1.heap.size = g + 1 := by rw [← hW1, ← hg]; simp
  obtain ⟨ck, hck⟩ : ∃ ck, chk ⟨mn, mx, rt, dn, idle, next⟩ (l.map core) = ck := ⟨_, rfl⟩
  have HCK := hid (fun (X : World) (hX : Below w.heap.size w X) => check_any ⟨mn, mx, rt, dn, idle, next⟩ l _ X (hv.below hX) hr)
  rw [hck] at HCK
  have HCE := hid hck
  have HV := hid hv
  have HN := hid hN
  have HB1 := hid hb1
  have HX1 := hid hx1
  have HZ1 := hid hz1
  have HW1 := hid hW1
  have HG := hid hg
  have x0 := cell_of_row _ _ 0 _ _ _ HX1.out
  have x1 := cell_of_row _ _ 1 _ _ _ HX1.out
  have x2 := cell_of_row _ _ 2 _ _ _ HX1.out
  have x3 := cell_of_row _ _ 3 _ _ _ HX1.out
  have x4 := cell_of_row _ _ 4 _ _ _ HX1.out
  have x5 := cell_of_row _ _ 5 _ _ _ HX1.out
  have x6 := cell_of_row _ _ 6 _ _ _ HX1.out
  clear hv hr hN hb1 hx1 hz1 hW1 hg hck
  go_enter Try.func24, Try.ntmps24
  go_wp2_with fail
  rw [HW1.out, HG.out]
  refine (HCK.out W1 HB1.out).mono ?_
  rintro e w2 ⟨rfl, hb2⟩
  have HX2 := hid ((hb2.block _ (box_lt HX1.out)).trans HX1.out)
  have HB2 := hid (HB1.out.trans (hb2.mono HB1.out.size))
  have hz2 : g + 1 ≤ w2.heap.size := by rw [← HZ1.out]; exact hb2.size
  clear hb2 HCK x0 x1 x2 x3 x4 x5 x6
  have x6 := cell_of_row _ _ 6 _ _ _ HX2.out
  by_cases hc0 : ck = 0
  rotate_left
  · have d1 : (ck != 0) = true := by rw [bne_iff_ne]; exact hc0
    have HF : Hid (R = (0, false)) := hid (by rw [← HR.out]; unfold nxtS; rw [HCE.out, if_pos hc0])
    clear hc0
    go_wp2_with fail
    go_ret2
    rw [HF.out]
    exact ⟨rfl, HB2.out⟩
  subst hc0
  rcases l with _ | ⟨x, t⟩
  · have HF : Hid (R = (0, false)) := hid (by rw [← HR.out]; unfold nxtS; rw [HCE.out, if_neg (by simp)]; rfl)
    obtain rfl : N = 0 := by rw [← HN.out]; rfl
    have d2 : (((0 : Nat) : Int) == 0) = true := rfl
    go_wp2_with fail
    go_ret2
    rw [HF.out]
    exact ⟨rfl, HB2.out⟩
  · have HF : Hid (R = (x.t, true)) := hid (by rw [← HR.out]; unfold nxtS; rw [HCE.out, if_neg (by simp)]; rfl)
    have hN1 : 0 < N := by rw [← HN.out]; simp
    have hN1' : (0 : Int) < (N : Int) := by omega
    have d2 : ((N : Int) == 0) = false := by rw [beq_eq_false_iff_ne]; omega
    obtain ⟨b, off, rfl, hbl, hc⟩ := fl_cells (HV.out.below HB2.out) (by simp)
    obtain ⟨q0, q1, q2⟩ := hc 0 x rfl
    rw [Nat.zero_mul, Nat.add_zero] at q0
    clear hc q1 q2
    go_wp2_with fail
    go_ret2
    rw [HF.out]
    exact ⟨rfl, HB2.out⟩
/-- What Cut gives. -/
def cutS (s : Lk) (l : List Fc) : Lk × List Fc := if chk s l ≠ 0 then (s, l) else (⟨s.mn, s.mx, s.rt, true, s.idle, s.next⟩, [])
def LinkQ (w : World) (r : Lk × List Fc) (e : Ending) (w' : World) : Prop := ∃ v, e = .returned v ∧ OwnL w' w.heap.size r.1 r.2 v ∧ Below w.heap.size w w'
set_option maxHeartbeats 4000000 in
set_option maxRecDepth 100000 in
theorem cut_any (s : Lk) (l : List Fl) (v : Value) (w : World) (hv : FL w v l) (hr : ∀ x ∈ l, R64 x.n) (hl : l.length ≤ 100000) (hb : ∀ x ∈ l, x.p.length ≤ 100000) :
    Calls Try.prog 26 #[vLk s v] w (LinkQ w (cutS s (l.map core))) := by
  obtain ⟨R, hR⟩ : ∃ R, cutS s (l.map core) = R := ⟨_, rfl⟩
  rw [hR]
  have HR := hid hR
  have HPB := hid hb
  clear hR hb
  obtain ⟨A, c, rfl⟩ := fl_form hv
  obtain ⟨N, hN⟩ : ∃ N, l.length = N := ⟨_, rfl⟩
  rw [hN] at hv hl ⊢
  obtain ⟨mn, mx, rt, dn, idle, next⟩ := s
  unfold vLk
  dsimp only
  obtain ⟨g, hg⟩ : ∃ g, w.heap.size = g := ⟨_, rfl⟩
  obtain ⟨W1, hW1⟩ : ∃ W1, (w.alloc (.cells #[.int .i64 mn, .int .i64 mx, .int .i64 rt, .bool dn, .int .i64 idle, .int .i64 next, .slice A N c] 26)).alloc (.cells #[.int .i64 0, .int .i64 0, .int .i64 0, .bool false, .int .i64 0, .int .i64 0, .slice none 0 0] 26) = W1 := ⟨_, rfl⟩
  have hb1 : Below w.heap.size w W1 := by rw [← hW1]; exact ((Below.refl _ w).alloc (Nat.le_refl _) _).alloc (by simp) _
  have hx1 : W1.heap[g]? = some (.cells #[.int .i64 mn, .int .i64 mx, .int .i64 rt, .bool dn, .int .i64 idle, .int .i64 next, .slice A N c] 26) := by rw [← hW1, ← hg]; exact (Below.heap_alloc _ _ _ (by simp)).trans (heap_alloc_new w _)
  have hy1 : W1.heap[g + 1]? = some (.cells #[.int .i64 0, .int .i64 0, .int .i64 0, .bool false, .int .i64 0, .int .i64 0, .slice none 0 0] 26) := by rw [← hW1, ← hg]; simpa using heap_alloc_new (w.alloc (.cells #[.int .i64 mn, .int .i64 mx, .int .i64 rt, .bool dn, .int .i64 idle, .int .i64 next, .slice A N c] 26)) (.cells #[.int .i64 0, .int .i64 0, .int .i64 0, .bool false, .int .i64 0, .int .i64 0, .slice none 0 0] 26)
  have HY1 := hid hy1
  have hz1 : W1.heap.size = g + 2 := by rw [← hW1, ← hg]; simp
  obtain ⟨ck, hck⟩ : ∃ ck, chk ⟨mn, mx, rt, dn, idle, next⟩ (l.map core) = ck := ⟨_, rfl⟩
  have HCK := hid (fun (X : World) (hX : Below w.heap.size w X) => check_any ⟨mn, mx, rt, dn, idle, next⟩ l _ X (hv.below hX) hr)
  rw [hck] at HCK
  have HCE := hid hck
  have HV := hid hv
  have HN := hid hN
  have HB1 := hid hb1
  have HX1 := hid hx1
  have HZ1 := hid hz1
  have HW1 := hid hW1
  have HG := hid hg
  have x0 := cell_of_row _ _ 0 _ _ _ HX1.out
  have x1 := cell_of_row _ _ 1 _ _ _ HX1.out
  have x2 := cell_of_row _ _ 2 _ _ _ HX1.out
  have x3 := cell_of_row _ _ 3 _ _ _ HX1.out
  have x4 := cell_of_row _ _ 4 _ _ _ HX1.out
  have x5 := cell_of_row _ _ 5 _ _ _ HX1.out
  have x6 := cell_of_row _ _ 6 _ _ _ HX1.out
  clear hv hr hN hb1 hx1 hy1 hz1 hW1 hg hck
  go_enter Try.func26, Try.ntmps26
  go_wp2_with fail
  rw [HW1.out, HG.out]
  refine (HCK.out W1 HB1.out).mono ?_
  rintro e w2 ⟨rfl, hb2⟩
  have HX2 := hid ((hb2.block _ (box_lt HX1.out)).trans HX1.out)
  have HY2 := hid ((hb2.block _ (box_lt HY1.out)).trans HY1.out)
  have HB2 := hid (HB1.out.trans (hb2.mono HB1.out.size))
  have hz2 : g + 2 ≤ w2.heap.size := by rw [← HZ1.out]; exact hb2.size
  clear hb2 HCK x0 x1 x2 x3 x4 x5 x6
  have x0 := cell_of_row _ _ 0 _ _ _ HX2.out
  have x1 := cell_of_row _ _ 1 _ _ _ HX2.out
  have x2 := cell_of_row _ _ 2 _ _ _ HX2.out
  have x3 := cell_of_row _ _ 3 _ _ _ HX2.out
  have x4 := cell_of_row _ _ 4 _ _ _ HX2.out
  have x5 := cell_of_row _ _ 5 _ _ _ HX2.out
  have x6 := cell_of_row _ _ 6 _ _ _ HX2.out
  by_cases hc0 : ck = 0
  rotate_left
  · have d1 : (ck != 0) = true := by rw [bne_iff_ne]; exact hc0
    have HF : Hid (R = (⟨mn, mx, rt, dn, idle, next⟩, l.map core)) := hid (by rw [← HR.out]; unfold cutS; rw [HCE.out, if_pos hc0])
    clear hc0
    have HWI := hid (with_any mn mx rt dn idle next (.slice A N c) l (.slice A N c) w2 (HV.out.below HB2.out) (by rw [HN.out]; omega) HPB.out)
    go_wp2_with fail
    refine HWI.out.mono ?_
    rintro e w3 ⟨fv, vs, rfl, ho3, hc3, hp3, hb3⟩
    obtain ⟨fA, fc, rfl⟩ := own_form69 ho3
    have HY3 := hid ((hb3.block _ (box_lt HY2.out)).trans HY2.out)
    have HO3 := hid ho3
    have HP3 := hid hp3
    have HV3 := hid hc3
    have HB3 := hid (HB2.out.trans (hb3.mono HB2.out.size))
    clear ho3 hc3 hp3 hb3 HWI x0 x1 x2 x3 x4 x5 x6
    have y0 := cell_of_row _ _ 0 _ _ _ HY3.out
    have y1 := cell_of_row _ _ 1 _ _ _ HY3.out
    have y2 := cell_of_row _ _ 2 _ _ _ HY3.out
    have y3 := cell_of_row _ _ 3 _ _ _ HY3.out
    have y4 := cell_of_row _ _ 4 _ _ _ HY3.out
    have y5 := cell_of_row _ _ 5 _ _ _ HY3.out
    have y6 := cell_of_row _ _ 6 _ _ _ HY3.out
    have fy0 := box_fr HY3.out 0
    have fy1 := box_fr HY3.out 1
    have fy2 := box_fr HY3.out 2
    have fy3 := box_fr HY3.out 3
    have fy4 := box_fr HY3.out 4
    have fy5 := box_fr HY3.out 5
    have fy6 := box_fr HY3.out 6
    go_wp2_with fail
    refine bodyPost_ret (results_cell_row rfl _ _ (g + 1) 26 #[.int .i64 mn, .int .i64 mx, .int .i64 rt, .bool dn, .int .i64 idle, .int .i64 next, .slice fA vs.length fc] (0, 0) _ rfl (set7h _ _ _ _ _ _ _ HY3.out) Try.underlying26 rfl rfl) rfl ?_
    rw [HF.out]
    refine ⟨_, rfl, ⟨_, vs, rfl, own_base (set7r _ _ _ _ _ _ _ HO3.out (own_ne HO3.out HY3.out (by decide))) (by rw [HG.out]; omega), HV3.out, fun x hx => (HP3.out x hx).keep (fun q cs hq => (set7o _ _ _ _ _ _ _ (fun e => ?_)).trans hq)⟩, set7b _ _ _ _ _ _ _ HB3.out (by rw [HG.out]; omega)⟩
    rw [e, HY3.out] at hq
    cases hq
  subst hc0
  have HF : Hid (R = (⟨mn, mx, rt, true, idle, next⟩, [])) := hid (by rw [← HR.out]; unfold cutS; rw [HCE.out, if_neg (by simp)])
  have HWI := hid (with_any mn mx rt dn idle next (.slice A N c) [] (.slice none 0 0) w2 ⟨fun x hx => by (cases hx), nilOk_nil, arr_nil _ _⟩ (by simp) (fun x hx => by cases hx))
  go_wp2_with fail
  refine HWI.out.mono ?_
  rintro e w3 ⟨fv, vs, rfl, ho3, hc3, hp3, hb3⟩
  obtain ⟨fA, fc, rfl⟩ := own_form69 ho3
  have HY3 := hid ((hb3.block _ (box_lt HY2.out)).trans HY2.out)
  have HO3 := hid ho3
  have HP3 := hid hp3
  have HV3 := hid hc3
  have HB3 := hid (HB2.out.trans (hb3.mono HB2.out.size))
  have hs3 : g + 2 ≤ w3.heap.size := Nat.le_trans hz2 hb3.size
  clear ho3 hc3 hp3 hb3 HWI x0 x1 x2 x3 x4 x5 x6
  have y0 := cell_of_row _ _ 0 _ _ _ HY3.out
  have y1 := cell_of_row _ _ 1 _ _ _ HY3.out
  have y2 := cell_of_row _ _ 2 _ _ _ HY3.out
  have y3 := cell_of_row _ _ 3 _ _ _ HY3.out
  have y4 := cell_of_row _ _ 4 _ _ _ HY3.out
  have y5 := cell_of_row _ _ 5 _ _ _ HY3.out
  have y6 := cell_of_row _ _ 6 _ _ _ HY3.out
  have fy0 := box_fr HY3.out 0
  have fy1 := box_fr HY3.out 1
  have fy2 := box_fr HY3.out 2
  have fy3 := box_fr HY3.out 3
  have fy4 := box_fr HY3.out 4
  have fy5 := box_fr HY3.out 5
  have fy6 := box_fr HY3.out 6
  obtain ⟨a, ha⟩ : ∃ a, w3.heap.size = a := ⟨_, rfl⟩
  have HA := hid ha
  have n1 : g + 1 ≠ a := by omega
  have n2 : a ≠ g + 1 := by omega
  have hal : g + 1 < a := by omega
  obtain ⟨W4, hW4⟩ : ∃ X, w3.alloc (.cells #[.int .i64 mn, .int .i64 mx, .int .i64 rt, .bool true, .int .i64 idle, .int .i64 next, .slice fA vs.length fc] 26) = X := ⟨_, rfl⟩
  have HA4 : Hid (W4.heap[a]? = some (.cells #[.int .i64 mn, .int .i64 mx, .int .i64 rt, .bool true, .int .i64 idle, .int .i64 next, .slice fA vs.length fc] 26)) := hid (by
    rw [← hW4, ← ha]
    exact heap_alloc_new w3 _)
  have hb4 : Below w3.heap.size w3 W4 := by rw [← hW4]; exact al1 w3 _
  have HO4 := hid (own_keep HO3.out (keep_below hb4))
  have HP4 := hid (fun x hx => (HP3.out x hx).keep (keep_below hb4))
  have HY4 := hid ((hb4.block _ (box_lt HY3.out)).trans HY3.out)
  have HB4 := hid (HB3.out.trans (hb4.mono HB3.out.size))
  have HW4 := hid hW4
  clear hW4 hb4 ha
  go_upto_region 5 with fail
  rw [HA.out, HW4.out]
  clear y0 y1 y2 y3 y4 y5 y6 fy0 fy1 fy2 fy3 fy4 fy5 fy6
  have z0 := cell_of_row _ _ 0 _ _ _ HA4.out
  have z1 := cell_of_row _ _ 1 _ _ _ HA4.out
  have z2 := cell_of_row _ _ 2 _ _ _ HA4.out
  have z3 := cell_of_row _ _ 3 _ _ _ HA4.out
  have z4 := cell_of_row _ _ 4 _ _ _ HA4.out
  have z5 := cell_of_row _ _ 5 _ _ _ HA4.out
  have z6 := cell_of_row _ _ 6 _ _ _ HA4.out
  have y0 := cell_of_row _ _ 0 _ _ _ HY4.out
  have y1 := cell_of_row _ _ 1 _ _ _ HY4.out
  have y2 := cell_of_row _ _ 2 _ _ _ HY4.out
  have y3 := cell_of_row _ _ 3 _ _ _ HY4.out
  have y4 := cell_of_row _ _ 4 _ _ _ HY4.out
  have y5 := cell_of_row _ _ 5 _ _ _ HY4.out
  have y6 := cell_of_row _ _ 6 _ _ _ HY4.out
  have fy0 := box_fr HY4.out 0
  have fy1 := box_fr HY4.out 1
  have fy2 := box_fr HY4.out 2
  have fy3 := box_fr HY4.out 3
  have fy4 := box_fr HY4.out 4
  have fy5 := box_fr HY4.out 5
  have fy6 := box_fr HY4.out 6
  go_wp2_with fail
  refine bodyPost_ret (results_cell_row rfl _ _ (g + 1) 26 #[.int .i64 mn, .int .i64 mx, .int .i64 rt, .bool true, .int .i64 idle, .int .i64 next, .slice fA vs.length fc] (0, 0) _ rfl (set7h _ _ _ _ _ _ _ HY4.out) Try.underlying26 rfl rfl) rfl ?_
  rw [HF.out]
  refine ⟨_, rfl, ⟨_, vs, rfl, own_base (set7r _ _ _ _ _ _ _ HO4.out (own_ne HO4.out HY4.out (by decide))) (by rw [HG.out]; omega), HV3.out, fun x hx => (HP4.out x hx).keep (fun q cs hq => (set7o _ _ _ _ _ _ _ (fun e => ?_)).trans hq)⟩, set7b _ _ _ _ _ _ _ HB4.out (by rw [HG.out]; omega)⟩
  rw [e, HY4.out] at hq
  cases hq
end Go.Proofs.Ytacpejoablcffaa
