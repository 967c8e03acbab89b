/- Restore, New, Deliver. -/
import Derived.Test.YtacpejoablcffaaK
namespace Go.Proofs.Ytacpejoablcffaa
open Go.RowKit Go.Lib

/-- What Restore gives. -/
def resS (s : Lk) (l : List Fc) (now : Int) : Lk × List Fc := if chk s l = 0 ∧ s.dn = true ∧ timeB now = true then (⟨s.mn, s.mx, s.rt, false, now, s.next⟩, l) else (s, l)
set_option maxHeartbeats 4000000 in
set_option maxRecDepth 100000 in
theorem restore_any (s : Lk) (l : List Fl) (v : Value) (now : Int) (w : World) (hv : FL w v l) (hr : ∀ x ∈ l, R64 x.n) (hl : l.length ≤ 100000) (hb : ∀ x ∈ l, x.p.length ≤ 100000) :
    Calls Try.prog 28 #[vLk s v, .int .i64 now] w (LinkQ w (resS s (l.map core) now)) := by
  obtain ⟨R, hR⟩ : ∃ R, resS s (l.map core) now = R := ⟨_, rfl⟩
  rw [hR]
  have HR := hid hR
  have HPB := hid hb
  clear hR hb
  obtain ⟨A, c, rfl⟩ := fl_form hv
  obtain ⟨N, hN⟩ : ∃ N, l.length = N := ⟨_, rfl⟩
  rw [hN] at hv hl ⊢
  obtain ⟨mn, mx, rt, dn, idle, next⟩ := s
  unfold vLk
  dsimp only
  obtain ⟨g, hg⟩ : ∃ g, w.heap.size = g := ⟨_, rfl⟩
  obtain ⟨W1, hW1⟩ : ∃ W1, (w.alloc (.cells #[.int .i64 mn, .int .i64 mx, .int .i64 rt, .bool dn, .int .i64 idle, .int .i64 next, .slice A N c] 26)).alloc (.cells #[.int .i64 0, .int .i64 0, .int .i64 0, .bool false, .int .i64 0, .int .i64 0, .slice none 0 0] 26) = W1 := ⟨_, rfl⟩
  have hb1 : Below w.heap.size w W1 := by rw [← hW1]; exact ((Below.refl _ w).alloc (Nat.le_refl _) _).alloc (by simp) _
  have hx1 : W1.heap[g]? = some (.cells #[.int .i64 mn, .int .i64 mx, .int .i64 rt, .bool dn, .int .i64 idle, .int .i64 next, .slice A N c] 26) := by rw [← hW1, ← hg]; exact (Below.heap_alloc _ _ _ (by simp)).trans (heap_alloc_new w _)
  have hy1 : W1.heap[g + 1]? = some (.cells #[.int .i64 0, .int .i64 0, .int .i64 0, .bool false, .int .i64 0, .int .i64 0, .slice none 0 0] 26) := by rw [← hW1, ← hg]; simpa using heap_alloc_new (w.alloc (.cells #[.int .i64 mn, .int .i64 mx, .int .i64 rt, .bool dn, .int .i64 idle, .int .i64 next, .slice A N c] 26)) (.cells #[.int .i64 0, .int .i64 0, .int .i64 0, .bool false, .int .i64 0, .int .i64 0, .slice none 0 0] 26)
  have HY1 := hid hy1
  have hz1 : W1.heap.size = g + 2 := by rw [← hW1, ← hg]; simp
  obtain ⟨ck, hck⟩ : ∃ ck, chk ⟨mn, mx, rt, dn, idle, next⟩ (l.map core) = ck := ⟨_, rfl⟩
  have HCK := hid (fun (X : World) (hX : Below w.heap.size w X) => check_any ⟨mn, mx, rt, dn, idle, next⟩ l _ X (hv.below hX) hr)
  rw [hck] at HCK
  have HCE := hid hck
  have HV := hid hv
  have HN := hid hN
  have HB1 := hid hb1
  have HX1 := hid hx1
  have HZ1 := hid hz1
  have HW1 := hid hW1
  have HG := hid hg
  have x0 := cell_of_row _ _ 0 _ _ _ HX1.out
  have x1 := cell_of_row _ _ 1 _ _ _ HX1.out
  have x2 := cell_of_row _ _ 2 _ _ _ HX1.out
  have x3 := cell_of_row _ _ 3 _ _ _ HX1.out
  have x4 := cell_of_row _ _ 4 _ _ _ HX1.out
  have x5 := cell_of_row _ _ 5 _ _ _ HX1.out
  have x6 := cell_of_row _ _ 6 _ _ _ HX1.out
  clear hv hr hN hb1 hx1 hy1 hz1 hW1 hg hck
  have HWI := hid (with_any mn mx rt dn idle next (.slice A N c) l (.slice A N c) W1 (HV.out.below HB1.out) (by rw [HN.out]; omega) HPB.out)
  go_enter Try.func28, Try.ntmps28
  go_wp2_with fail
  rw [HW1.out, HG.out]
  refine HWI.out.mono ?_
  rintro e w3 ⟨fv, vs, rfl, ho3, hc3, hp3, hb3⟩
  obtain ⟨fA, fc, rfl⟩ := own_form69 ho3
  have HX3 := hid ((hb3.block _ (box_lt HX1.out)).trans HX1.out)
  have HY3 := hid ((hb3.block _ (box_lt HY1.out)).trans HY1.out)
  have HO3 := hid ho3
  have HP3 := hid hp3
  have HV3 := hid hc3
  have HB3 := hid (HB1.out.trans (hb3.mono HB1.out.size))
  have hs3 : g + 2 ≤ w3.heap.size := by rw [← HZ1.out]; exact hb3.size
  have hsW : W1.heap.size ≤ w3.heap.size := hb3.size
  clear ho3 hc3 hp3 hb3 HWI x0 x1 x2 x3 x4 x5 x6
  obtain ⟨a, ha⟩ : ∃ a, w3.heap.size = a := ⟨_, rfl⟩
  have HA := hid ha
  have n1 : g + 1 ≠ a := by omega
  have n2 : a ≠ g + 1 := by omega
  have n3 : g ≠ a := by omega
  obtain ⟨W4, hW4⟩ : ∃ X, w3.alloc (.cells #[.int .i64 mn, .int .i64 mx, .int .i64 rt, .bool dn, .int .i64 idle, .int .i64 next, .slice fA vs.length fc] 26) = X := ⟨_, rfl⟩
  have hb4 : Below w3.heap.size w3 W4 := by rw [← hW4]; exact al1 w3 _
  have HA4 : Hid (W4.heap[a]? = some (.cells #[.int .i64 mn, .int .i64 mx, .int .i64 rt, .bool dn, .int .i64 idle, .int .i64 next, .slice fA vs.length fc] 26)) := hid (by rw [← hW4, ← ha]; exact heap_alloc_new w3 _)
  have HO4 := hid (own_keep HO3.out (keep_below hb4))
  have HP4 := hid (fun x hx => (HP3.out x hx).keep (keep_below hb4))
  have HX4 := hid ((hb4.block _ (box_lt HX3.out)).trans HX3.out)
  have HY4 := hid ((hb4.block _ (box_lt HY3.out)).trans HY3.out)
  have HB4 := hid (HB3.out.trans (hb4.mono HB3.out.size))
  have hs4 : a + 1 ≤ W4.heap.size := by rw [← hW4, ← ha]; simp
  have HW4 := hid hW4
  clear hW4 hb4 ha
  go_upto_region 2 with fail
  rw [HA.out, HW4.out]
  have x0 := cell_of_row _ _ 0 _ _ _ HX4.out
  have x1 := cell_of_row _ _ 1 _ _ _ HX4.out
  have x2 := cell_of_row _ _ 2 _ _ _ HX4.out
  have x3 := cell_of_row _ _ 3 _ _ _ HX4.out
  have x4 := cell_of_row _ _ 4 _ _ _ HX4.out
  have x5 := cell_of_row _ _ 5 _ _ _ HX4.out
  have x6 := cell_of_row _ _ 6 _ _ _ HX4.out
  have HCC := hid (HCK.out W4 HB4.out)
  clear HCK
  go_wp2_with fail
  refine HCC.out.mono ?_
  rintro e w5 ⟨rfl, hb5⟩
  have HA5 := hid ((hb5.block _ (box_lt HA4.out)).trans HA4.out)
  have HX5 := hid ((hb5.block _ (box_lt HX4.out)).trans HX4.out)
  have HY5 := hid ((hb5.block _ (box_lt HY4.out)).trans HY4.out)
  have HO5 := hid (own_keep HO4.out (keep_below hb5))
  have HP5 := hid (fun x hx => (HP4.out x hx).keep (keep_below hb5))
  have HB5 := hid (HB4.out.trans (hb5.mono HB4.out.size))
  clear hb5 HCC x0 x1 x2 x3 x4 x5 x6
  have x3 := cell_of_row _ _ 3 _ _ _ HX5.out
  have z0 := cell_of_row _ _ 0 _ _ _ HA5.out
  have z1 := cell_of_row _ _ 1 _ _ _ HA5.out
  have z2 := cell_of_row _ _ 2 _ _ _ HA5.out
  have z3 := cell_of_row _ _ 3 _ _ _ HA5.out
  have z4 := cell_of_row _ _ 4 _ _ _ HA5.out
  have z5 := cell_of_row _ _ 5 _ _ _ HA5.out
  have z6 := cell_of_row _ _ 6 _ _ _ HA5.out
  have y0 := cell_of_row _ _ 0 _ _ _ HY5.out
  have y1 := cell_of_row _ _ 1 _ _ _ HY5.out
  have y2 := cell_of_row _ _ 2 _ _ _ HY5.out
  have y3 := cell_of_row _ _ 3 _ _ _ HY5.out
  have y4 := cell_of_row _ _ 4 _ _ _ HY5.out
  have y5 := cell_of_row _ _ 5 _ _ _ HY5.out
  have y6 := cell_of_row _ _ 6 _ _ _ HY5.out
  have fy0 := box_fr HY5.out 0
  have fy1 := box_fr HY5.out 1
  have fy2 := box_fr HY5.out 2
  have fy3 := box_fr HY5.out 3
  have fy4 := box_fr HY5.out 4
  have fy5 := box_fr HY5.out 5
  have fy6 := box_fr HY5.out 6
  obtain ⟨bt, hbt⟩ : ∃ b, timeB now = b := ⟨_, rfl⟩
  have HTM := hid (fun W => isTime_any now W)
  rw [hbt] at HTM
  have HBT := hid hbt
  clear hbt
  have HFN : Hid (¬ (ck = 0 ∧ dn = true ∧ bt = true) → R = (⟨mn, mx, rt, dn, idle, next⟩, l.map core)) := hid (fun h => by rw [← HR.out]; unfold resS; rw [HCE.out, HBT.out, if_neg h])
  have HFY : Hid (ck = 0 ∧ dn = true ∧ bt = true → R = (⟨mn, mx, rt, false, now, next⟩, l.map core)) := hid (fun h => by rw [← HR.out]; unfold resS; rw [HCE.out, HBT.out, if_pos h])
  have HEND : Hid (∀ (fv : Value), fv = .slice fA vs.length fc → R = (⟨mn, mx, rt, dn, idle, next⟩, l.map core) → LinkQ w R (.returned (.agg #[.int .i64 mn, .int .i64 mx, .int .i64 rt, .bool dn, .int .i64 idle, .int .i64 next, fv])) (set7 w5 (g + 1) (.int .i64 mn) (.int .i64 mx) (.int .i64 rt) (.bool dn) (.int .i64 idle) (.int .i64 next) fv)) := hid (fun fv hfv hR => by
    subst hfv
    rw [hR]
    refine ⟨_, rfl, ⟨_, vs, rfl, own_base (set7r _ _ _ _ _ _ _ HO5.out (own_ne HO5.out HY5.out (by decide))) (by have := HZ1.out; have := HG.out; omega), HV3.out, fun x hx => (HP5.out x hx).keep (fun q cs hq => (set7o _ _ _ _ _ _ _ (fun e => ?_)).trans hq)⟩, set7b _ _ _ _ _ _ _ HB5.out (by rw [HG.out]; omega)⟩
    rw [e, HY5.out] at hq
    cases hq)
  by_cases hc0 : ck = 0
  rotate_left
  · have d1 : (ck == 0) = false := by rw [beq_eq_false_iff_ne]; exact hc0
    have HF := hid (HFN.out (fun h => hc0 h.1))
    clear hc0
    go_wp2_with fail
    refine bodyPost_ret (results_cell_row rfl _ _ (g + 1) 26 #[.int .i64 mn, .int .i64 mx, .int .i64 rt, .bool dn, .int .i64 idle, .int .i64 next, .slice fA vs.length fc] (0, 0) _ rfl (set7h _ _ _ _ _ _ _ HY5.out) Try.underlying26 rfl rfl) rfl ?_
    exact HEND.out _ rfl HF.out
  subst hc0
  rcases dn with _ | _
  · have HF := hid (HFN.out (fun h => by have := h.2.1; cases this))
    go_wp2_with fail
    refine bodyPost_ret (results_cell_row rfl _ _ (g + 1) 26 #[.int .i64 mn, .int .i64 mx, .int .i64 rt, .bool false, .int .i64 idle, .int .i64 next, .slice fA vs.length fc] (0, 0) _ rfl (set7h _ _ _ _ _ _ _ HY5.out) Try.underlying26 rfl rfl) rfl ?_
    exact HEND.out _ rfl HF.out
  rcases bt with _ | _
  · have HF := hid (HFN.out (fun h => by have := h.2.2; cases this))
    go_wp2_with (first | (go_at_call 35; refine (HTM.out _).mono ?_; rintro e w' ⟨rfl, rfl⟩))
    refine bodyPost_ret (results_cell_row rfl _ _ (g + 1) 26 #[.int .i64 mn, .int .i64 mx, .int .i64 rt, .bool true, .int .i64 idle, .int .i64 next, .slice fA vs.length fc] (0, 0) _ rfl (set7h _ _ _ _ _ _ _ HY5.out) Try.underlying26 rfl rfl) rfl ?_
    exact HEND.out _ rfl HF.out
  · have HF := hid (HFY.out ⟨rfl, rfl, rfl⟩)
    have hs5 : a + 1 ≤ w5.heap.size := box_lt HA5.out
    obtain ⟨W6, hW6⟩ : ∃ X, (w5.setCell ⟨a, 3, none⟩ (.bool false)).setCell ⟨a, 4, none⟩ (.int .i64 now) = X := ⟨_, rfl⟩
    have hu6 : Upd a w5 W6 := by rw [← hW6]; exact ((Upd.refl a w5).set 3 _).set 4 _
    have HA6 : Hid (W6.heap[a]? = some (.cells #[.int .i64 mn, .int .i64 mx, .int .i64 rt, .bool false, .int .i64 now, .int .i64 next, .slice fA vs.length fc] 26)) := hid (by
      rw [← hW6]
      exact box_set (box_set (cs := [Value.int .i64 mn, Value.int .i64 mx, .int .i64 rt, .bool true, .int .i64 idle, .int .i64 next, .slice fA vs.length fc]) HA5.out 3 (.bool false)) 4 (.int .i64 now))
    have HY6 := hid ((hu6.block _ (box_lt HY5.out) n1).trans HY5.out)
    have HO6 := hid (own_keep HO5.out (keep_updc hu6 HA5.out (by decide)))
    have HP6 := hid (fun x hx => (HP5.out x hx).keep (keep_updc hu6 HA5.out (by decide)))
    have HB6 : Hid (Below w.heap.size w W6) := hid (HB5.out.trans (hu6.below (by have := HA.out; have := HG.out; omega) HB5.out.size))
    have f3 := box_fr HA5.out 3
    have f4 := box_fr HA5.out 4
    have HW6 := hid hW6
    clear hW6 hu6 z0 z1 z2 z5 z6 y0 y1 y2 y3 y4 y5 y6 fy0 fy1 fy2 fy3 fy4 fy5 fy6
    go_upto_region 4 with (first | (go_at_call 35; refine (HTM.out _).mono ?_; rintro e w' ⟨rfl, rfl⟩))
    rw [HW6.out]
    clear z3 z4 f3 f4
    have z0 := cell_of_row _ _ 0 _ _ _ HA6.out
    have z1 := cell_of_row _ _ 1 _ _ _ HA6.out
    have z2 := cell_of_row _ _ 2 _ _ _ HA6.out
    have z3 := cell_of_row _ _ 3 _ _ _ HA6.out
    have z4 := cell_of_row _ _ 4 _ _ _ HA6.out
    have z5 := cell_of_row _ _ 5 _ _ _ HA6.out
    have z6 := cell_of_row _ _ 6 _ _ _ HA6.out
    have y0 := cell_of_row _ _ 0 _ _ _ HY6.out
    have y1 := cell_of_row _ _ 1 _ _ _ HY6.out
    have y2 := cell_of_row _ _ 2 _ _ _ HY6.out
    have y3 := cell_of_row _ _ 3 _ _ _ HY6.out
    have y4 := cell_of_row _ _ 4 _ _ _ HY6.out
    have y5 := cell_of_row _ _ 5 _ _ _ HY6.out
    have y6 := cell_of_row _ _ 6 _ _ _ HY6.out
    have fy0 := box_fr HY6.out 0
    have fy1 := box_fr HY6.out 1
    have fy2 := box_fr HY6.out 2
    have fy3 := box_fr HY6.out 3
    have fy4 := box_fr HY6.out 4
    have fy5 := box_fr HY6.out 5
    have fy6 := box_fr HY6.out 6
    go_wp2_with fail
    refine bodyPost_ret (results_cell_row rfl _ _ (g + 1) 26 #[.int .i64 mn, .int .i64 mx, .int .i64 rt, .bool false, .int .i64 now, .int .i64 next, .slice fA vs.length fc] (0, 0) _ rfl (set7h _ _ _ _ _ _ _ HY6.out) Try.underlying26 rfl rfl) rfl ?_
    rw [HF.out]
    refine ⟨_, rfl, ⟨_, vs, rfl, own_base (set7r _ _ _ _ _ _ _ HO6.out (own_ne HO6.out HY6.out (by decide))) (by have := HZ1.out; have := HG.out; omega), HV3.out, fun x hx => (HP6.out x hx).keep (fun q cs hq => (set7o _ _ _ _ _ _ _ (fun e => ?_)).trans hq)⟩, set7b _ _ _ _ _ _ _ HB6.out (by rw [HG.out]; omega)⟩
    rw [e, HY6.out] at hq
    cases hq
/-- What New gives. -/
def NewQ (mn mx rt : Int) (w : World) (e : Ending) (w' : World) : Prop := Below w.heap.size w w' ∧ ((cfgB mn mx rt = true ∧ e = .returned (.tuple #[vLk ⟨mn, mx, rt, false, 0, 0⟩ (.slice none 0 0), .int .i64 0])) ∨ (cfgB mn mx rt = false ∧ e = .returned (.tuple #[zLk, .int .i64 2])))
theorem chk_new (mn mx rt : Int) : chk ⟨mn, mx, rt, false, 0, 0⟩ [] = if cfgB mn mx rt = false then 2 else 0 := by
  unfold chk
  dsimp only
  split
  · rfl
  · rw [if_neg (by decide), if_neg (by omega), if_neg (by simp), if_neg (by simp)]
    rfl
set_option maxHeartbeats 4000000 in
set_option maxRecDepth 100000 in
theorem new_any (mn mx rt : Int) (w : World) : Calls Try.prog 13 #[.agg #[.int .i64 mn, .int .i64 mx, .int .i64 rt]] w (NewQ mn mx rt w) := by
  obtain ⟨g, hg⟩ : ∃ g, w.heap.size = g := ⟨_, rfl⟩
  obtain ⟨W0, hW0⟩ : ∃ W0, (w.alloc (.cells #[.int .i64 mn, .int .i64 mx, .int .i64 rt] 23)).alloc (.cells #[.int .i64 0, .int .i64 0, .int .i64 0, .bool false, .int .i64 0, .int .i64 0, .slice none 0 0] 26) = W0 := ⟨_, rfl⟩
  have hb0 : Below w.heap.size w W0 := by rw [← hW0]; exact ((Below.refl _ w).alloc (Nat.le_refl _) _).alloc (by simp) _
  have hy0 : W0.heap[g + 1]? = some (.cells #[.int .i64 0, .int .i64 0, .int .i64 0, .bool false, .int .i64 0, .int .i64 0, .slice none 0 0] 26) := by rw [← hW0, ← hg]; simpa using heap_alloc_new (w.alloc (.cells #[.int .i64 mn, .int .i64 mx, .int .i64 rt] 23)) (.cells #[.int .i64 0, .int .i64 0, .int .i64 0, .bool false, .int .i64 0, .int .i64 0, .slice none 0 0] 26)
  have hx0 : W0.heap[g]? = some (.cells #[.int .i64 mn, .int .i64 mx, .int .i64 rt] 23) := by rw [← hW0, ← hg]; exact (Below.heap_alloc _ _ _ (by simp)).trans (heap_alloc_new w _)
  have hz0 : W0.heap.size = g + 2 := by rw [← hW0, ← hg]; simp
  obtain ⟨W1, hW1⟩ : ∃ W1, W0.alloc (.cells #[.int .i64 mn, .int .i64 mx, .int .i64 rt, .bool false, .int .i64 0, .int .i64 0, .slice none 0 0] 26) = W1 := ⟨_, rfl⟩
  have hb1 : Below W0.heap.size W0 W1 := by rw [← hW1]; exact al1 _ _
  have HA1 : Hid (W1.heap[g + 2]? = some (.cells #[.int .i64 mn, .int .i64 mx, .int .i64 rt, .bool false, .int .i64 0, .int .i64 0, .slice none 0 0] 26)) := hid (by rw [← hW1, ← hz0]; exact heap_alloc_new _ _)
  have HY1 := hid ((hb1.block _ (box_lt hy0)).trans hy0)
  have HB1 := hid (hb0.trans (hb1.mono hb0.size))
  have HCK := hid (check_any ⟨mn, mx, rt, false, 0, 0⟩ [] (.slice none 0 0) W1 ⟨fun x hx => by (cases hx), nilOk_nil, arr_nil _ _⟩ (fun x hx => by cases hx))
  rw [List.map_nil, chk_new] at HCK
  have HW0 := hid hW0
  have HW1 := hid hW1
  have HG := hid hg
  have HZ0 := hid hz0
  have x0 := cell_of_row _ _ 0 _ _ _ hx0
  have x1 := cell_of_row _ _ 1 _ _ _ hx0
  have x2 := cell_of_row _ _ 2 _ _ _ hx0
  obtain ⟨b, hb⟩ : ∃ b, cfgB mn mx rt = b := ⟨_, rfl⟩
  rw [hb] at HCK
  have HBC := hid hb
  clear hW0 hW1 hb0 hy0 hx0 hz0 hb1 hg hb
  go_enter Try.func13, Try.ntmps13
  go_upto_region 1 with fail
  rw [HW0.out, HG.out]
  go_upto_region 2 with fail
  rw [HW1.out, HZ0.out]
  clear x0 x1 x2
  have z0 := cell_of_row _ _ 0 _ _ _ HA1.out
  have z1 := cell_of_row _ _ 1 _ _ _ HA1.out
  have z2 := cell_of_row _ _ 2 _ _ _ HA1.out
  have z3 := cell_of_row _ _ 3 _ _ _ HA1.out
  have z4 := cell_of_row _ _ 4 _ _ _ HA1.out
  have z5 := cell_of_row _ _ 5 _ _ _ HA1.out
  have z6 := cell_of_row _ _ 6 _ _ _ HA1.out
  go_wp2_with fail
  refine HCK.out.mono ?_
  rintro e w2 ⟨rfl, hb2⟩
  have HA2 := hid ((hb2.block _ (box_lt HA1.out)).trans HA1.out)
  have HY2 := hid ((hb2.block _ (box_lt HY1.out)).trans HY1.out)
  have HB2 := hid (HB1.out.trans (hb2.mono HB1.out.size))
  clear hb2 HCK z0 z1 z2 z3 z4 z5 z6
  have z0 := cell_of_row _ _ 0 _ _ _ HA2.out
  have z1 := cell_of_row _ _ 1 _ _ _ HA2.out
  have z2 := cell_of_row _ _ 2 _ _ _ HA2.out
  have z3 := cell_of_row _ _ 3 _ _ _ HA2.out
  have z4 := cell_of_row _ _ 4 _ _ _ HA2.out
  have z5 := cell_of_row _ _ 5 _ _ _ HA2.out
  have z6 := cell_of_row _ _ 6 _ _ _ HA2.out
  have y0 := cell_of_row _ _ 0 _ _ _ HY2.out
  have y1 := cell_of_row _ _ 1 _ _ _ HY2.out
  have y2 := cell_of_row _ _ 2 _ _ _ HY2.out
  have y3 := cell_of_row _ _ 3 _ _ _ HY2.out
  have y4 := cell_of_row _ _ 4 _ _ _ HY2.out
  have y5 := cell_of_row _ _ 5 _ _ _ HY2.out
  have y6 := cell_of_row _ _ 6 _ _ _ HY2.out
  have fy0 := box_fr HY2.out 0
  have fy1 := box_fr HY2.out 1
  have fy2 := box_fr HY2.out 2
  have fy3 := box_fr HY2.out 3
  have fy4 := box_fr HY2.out 4
  have fy5 := box_fr HY2.out 5
  have fy6 := box_fr HY2.out 6
  have n1 : g + 1 ≠ g + 2 := by omega
  rcases b with _ | _
  · rw [if_pos rfl]
    go_wp2_with fail
    refine bodyPost_ret (results_v1 rfl _ _ (g + 1) _ rfl (lv26 (set7h _ _ _ _ _ _ _ HY2.out)) _ rfl) rfl ?_
    exact ⟨set7b _ _ _ _ _ _ _ HB2.out (by rw [HG.out]; omega), .inr ⟨HBC.out, rfl⟩⟩
  · rw [if_neg (by simp)]
    go_wp2_with fail
    refine bodyPost_ret (results_v1 rfl _ _ (g + 1) _ rfl (lv26 (set7h _ _ _ _ _ _ _ HY2.out)) _ rfl) rfl ?_
    exact ⟨set7b _ _ _ _ _ _ _ HB2.out (by rw [HG.out]; omega), .inl ⟨HBC.out, rfl⟩⟩
end Go.Proofs.Ytacpejoablcffaa
