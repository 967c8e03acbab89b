/- few of the laws; the reference's Next, Cut, Restore. -/
import Derived.Test.YtacpejoablcffaaEb
namespace Go.Proofs.Ytacpejoablcffaa
open Go.RowKit Go.Lib

def fewP (l : List Fl) : Prop := (∀ i x, i < 100 → l[i]? = some x → x.p.length ≤ 100) ∧ l.length ≤ 40
set_option maxHeartbeats 4000000 in
set_option maxRecDepth 100000 in
theorem few_dec (s : Lk) (l : List Fl) (v : Value) (w : World) (hv : FL w v l) :
    Calls Try.prog 11 #[vLk s v] w fun e w' => ((e = .returned (.bool true) ∧ fewP l) ∨ (e = .returned (.bool false) ∧ ¬ fewP l)) ∧ Below w.heap.size w w' := by
  obtain ⟨A, c, rfl⟩ := fl_form hv
  obtain ⟨mn, mx, rt, dn, idle, next⟩ := s
  unfold vLk
  dsimp only
  obtain ⟨N, hN⟩ : ∃ N, l.length = N := ⟨_, rfl⟩
  rw [hN] at hv ⊢
  obtain ⟨W1, hW1⟩ : ∃ W1, w.alloc (.cells #[.int .i64 mn, .int .i64 mx, .int .i64 rt, .bool dn, .int .i64 idle, .int .i64 next, .slice A N c] 26) = W1 := ⟨_, rfl⟩
  obtain ⟨g, hg⟩ : ∃ g, w.heap.size = g := ⟨_, rfl⟩
  have hb1 : Below w.heap.size w W1 := by rw [← hW1]; exact al1 _ _
  have hx1 : W1.heap[g]? = some (.cells #[.int .i64 mn, .int .i64 mx, .int .i64 rt, .bool dn, .int .i64 idle, .int .i64 next, .slice A N c] 26) := by rw [← hW1, ← hg]; exact heap_alloc_new w _
  have HV := hid (hv.below hb1)
  have HN := hid hN
  have HB1 := hid hb1
  have HX1 := hid hx1
  have HW1 := hid hW1
  have HG := hid hg
  clear hv hN hb1 hx1 hW1 hg
  go_enter Try.func11, Try.ntmps11
  go_wp2_with fail
  rw [HW1.out, HG.out]
  go_loopw [3] (fun i wr => ∃ k : Nat, k ≤ N ∧ i = .int .i64 (k : Int) ∧ Hid (∀ j x, j < k → l[j]? = some x → x.p.length ≤ 100) ∧ Hid (Below W1.heap.size W1 wr)) (fun i _ => N - (Go.RowKit.intOf i).toNat)
  case atStart => exact ⟨0, by omega, rfl, hid (fun j x h => by omega), hid (Below.refl _ _)⟩
  case round =>
    obtain ⟨k, hk, rfl, HS, HB⟩ := hrel
    have HX := hid ((HB.out.block _ (box_lt HX1.out)).trans HX1.out)
    have x6 := cell_of_row _ _ 6 _ _ _ HX.out
    have HBB := hid (HB1.out.trans (HB.out.mono HB1.out.size))
    by_cases hkl : k < N
    · have hkl' : (k : Int) < (N : Int) := by omega
      have f1 : decide ((k : Int) < (N : Int)) = true := decide_eq_true hkl'
      have f1' : decide (k < N) = true := decide_eq_true hkl
      by_cases h100 : k < 100
      · have f2 : decide ((k : Int) < 100) = true := decide_eq_true (by omega)
        obtain ⟨b, off, rfl, hbl, hc⟩ := fl_cells HV.out (by rw [HN.out]; omega)
        obtain ⟨x, hx⟩ : ∃ x, l[k]? = some x := ⟨l[k]'(by rw [HN.out]; exact hkl), List.getElem?_eq_getElem _⟩
        obtain ⟨_, _, q4⟩ := hc k x hx
        have hxb := (HV.out.1 x (List.mem_of_getElem? hx)).1
        obtain ⟨xt, xn, xd, xp⟩ := x
        dsimp only at q4 hxb
        obtain ⟨xA, xc, rfl⟩ := byt_form hxb
        obtain ⟨xm, hxm⟩ : ∃ xm, xp.length = xm := ⟨_, rfl⟩
        rw [hxm] at q4
        have p4 := (HB.out.cell (p := ⟨b, off + k * 3 + 2, none⟩) hbl).trans q4
        have HNO : Hid (100 < xm → ¬ fewP l) := hid (fun h hf => by have := hf.1 k _ h100 hx; dsimp only at this; omega)
        have HST : Hid (¬ 100 < xm → ∀ j x, j < k + 1 → l[j]? = some x → x.p.length ≤ 100) := hid (fun h j y hj hy => by
          by_cases hjk : j < k
          · exact HS.out j y hjk hy
          · obtain rfl : j = k := by omega
            rw [hx] at hy
            injection hy with hy
            rw [← hy]; dsimp only; omega)
        clear hc hx hxb hxm q4
        by_cases h5 : 100 < xm
        · have f3 : decide ((100 : Int) < (xm : Int)) = true := decide_eq_true (by omega)
          have HQ := hid (HNO.out h5)
          go_wp2_with fail
          go_ret
          exact ⟨.inr ⟨rfl, HQ.out⟩, HBB.out⟩
        · have f3 : decide ((100 : Int) < (xm : Int)) = false := decide_eq_false (by omega)
          have HQ := hid (HST.out h5)
          go_wp2_with fail
          go_roundw
          case rel => exact ⟨k + 1, by omega, by go_num, HQ, HB⟩
          case measure => simp [Go.RowKit.intOf]; omega
      · have f2 : decide ((k : Int) < 100) = false := decide_eq_false (by omega)
        have f4 : decide ((N : Int) ≤ 40) = false := decide_eq_false (by omega)
        have HQ : Hid (¬ fewP l) := hid (fun h => by have := h.2; have := HN.out; omega)
        go_wp2_with fail
        go_ret
        exact ⟨.inr ⟨rfl, HQ.out⟩, HBB.out⟩
    · have f1 : decide ((k : Int) < (N : Int)) = false := decide_eq_false (by omega)
      have f1' : decide (k < N) = false := decide_eq_false (by omega)
      by_cases h60 : N ≤ 40
      · have f4 : decide ((N : Int) ≤ 40) = true := decide_eq_true (by omega)
        have HQ : Hid (fewP l) := hid ⟨fun j x _ hx => HS.out j x (by have := (List.getElem?_eq_some_iff.1 hx).1; have := HN.out; omega) hx, by have := HN.out; omega⟩
        go_wp2_with fail
        go_ret
        exact ⟨.inl ⟨rfl, HQ.out⟩, HBB.out⟩
      · have f4 : decide ((N : Int) ≤ 40) = false := decide_eq_false (by omega)
        have HQ : Hid (¬ fewP l) := hid (fun h => by have := h.2; have := HN.out; omega)
        go_wp2_with fail
        go_ret
        exact ⟨.inr ⟨rfl, HQ.out⟩, HBB.out⟩

set_option maxHeartbeats 4000000 in
set_option maxRecDepth 100000 in
theorem refNext_any (s : Lk) (l : List Fl) (v : Value) (w : World) (hv : FL w v l) :
    Calls Try.prog 25 #[vLk s v] w fun e w' => e = .returned (.tuple #[.int .i64 (nxtS s (l.map core)).1, .bool (nxtS s (l.map core)).2]) ∧ Below w.heap.size w w' := by
  obtain ⟨R, hR⟩ : ∃ R, nxtS s (l.map core) = R := ⟨_, rfl⟩
  rw [hR]
  have HR := hid hR
  clear hR
  obtain ⟨A, c, rfl⟩ := fl_form hv
  obtain ⟨N, hN⟩ : ∃ N, l.length = N := ⟨_, rfl⟩
  rw [hN] at hv ⊢
  obtain ⟨mn, mx, rt, dn, idle, next⟩ := s
  unfold vLk
  dsimp only
  obtain ⟨g, hg⟩ : ∃ g, w.heap.size = g := ⟨_, rfl⟩
  obtain ⟨W1, hW1⟩ : ∃ X, w.alloc (.cells #[.int .i64 mn, .int .i64 mx, .int .i64 rt, .bool dn, .int .i64 idle, .int .i64 next, .slice A N c] 26) = X := ⟨_, rfl⟩
  have hb1 : Below w.heap.size w W1 := by rw [← hW1]; exact al1 _ _
  have hx1 : W1.heap[g]? = some (.cells #[.int .i64 mn, .int .i64 mx, .int .i64 rt, .bool dn, .int .i64 idle, .int .i64 next, .slice A N c] 26) := by rw [← hW1, ← hg]; exact heap_alloc_new w _
  obtain ⟨ck, hck⟩ : ∃ ck, chk ⟨mn, mx, rt, dn, idle, next⟩ (l.map core) = ck := ⟨_, rfl⟩
  have HCK := hid (refCheck_any ⟨mn, mx, rt, dn, idle, next⟩ l _ W1 (hv.below hb1))
  rw [hck] at HCK
  unfold vLk at HCK
  have HCE := hid hck
  have HV := hid hv
  have HN := hid hN
  have HB1 := hid hb1
  have HX1 := hid hx1
  have HW1 := hid hW1
  have HG := hid hg
  have hge : w.heap.size ≤ g := Nat.le_of_eq hg
  have x0 := cell_of_row _ _ 0 _ _ _ HX1.out
  have x1 := cell_of_row _ _ 1 _ _ _ HX1.out
  have x2 := cell_of_row _ _ 2 _ _ _ HX1.out
  have x3 := cell_of_row _ _ 3 _ _ _ HX1.out
  have x4 := cell_of_row _ _ 4 _ _ _ HX1.out
  have x5 := cell_of_row _ _ 5 _ _ _ HX1.out
  have x6 := cell_of_row _ _ 6 _ _ _ HX1.out
  clear hv hN hb1 hx1 hW1 hg hck
  go_enter Try.func25, Try.ntmps25
  go_upto_region 1 with fail
  rw [HW1.out, HG.out]
  go_wp2_with fail
  refine HCK.out.mono ?_
  rintro e w2 ⟨rfl, hb2⟩
  have HX2 := hid ((hb2.block _ (box_lt HX1.out)).trans HX1.out)
  have HB2 := hid (HB1.out.trans (hb2.mono HB1.out.size))
  clear hb2 HCK x0 x1 x2 x3 x4 x5 x6
  have x0 := cell_of_row _ _ 0 _ _ _ HX2.out
  have x1 := cell_of_row _ _ 1 _ _ _ HX2.out
  have x2 := cell_of_row _ _ 2 _ _ _ HX2.out
  have x3 := cell_of_row _ _ 3 _ _ _ HX2.out
  have x4 := cell_of_row _ _ 4 _ _ _ HX2.out
  have x5 := cell_of_row _ _ 5 _ _ _ HX2.out
  have x6 := cell_of_row _ _ 6 _ _ _ HX2.out
  by_cases hc0 : ck = 0
  rotate_left
  · have d1 : (ck != 0) = true := by rw [bne_iff_ne]; exact hc0
    have HF : Hid (R = (0, false)) := hid (by rw [← HR.out]; unfold nxtS; rw [HCE.out, if_pos hc0])
    clear hc0
    go_wp2_with fail
    go_ret2
    rw [HF.out]
    exact ⟨rfl, HB2.out⟩
  subst hc0
  rcases l with _ | ⟨x, t⟩
  · have HF : Hid (R = (0, false)) := hid (by rw [← HR.out]; unfold nxtS; rw [HCE.out, if_neg (by simp)]; rfl)
    obtain rfl : N = 0 := by rw [← HN.out]; rfl
    have d2 : (((0 : Nat) : Int) == 0) = true := rfl
    go_wp2_with fail
    go_ret2
    rw [HF.out]
    exact ⟨rfl, HB2.out⟩
  · have HF : Hid (R = (x.t, true)) := hid (by rw [← HR.out]; unfold nxtS; rw [HCE.out, if_neg (by simp)]; rfl)
    have hN1 : 0 < N := by rw [← HN.out]; simp
    have hN1' : (0 : Int) < (N : Int) := by omega
    have d2 : ((N : Int) == 0) = false := by rw [beq_eq_false_iff_ne]; omega
    obtain ⟨b, off, rfl, hbl, hc⟩ := fl_cells (HV.out.below HB2.out) (by simp)
    obtain ⟨q0, q1, q2⟩ := hc 0 x rfl
    rw [Nat.zero_mul, Nat.add_zero] at q0
    clear hc q1 q2
    go_wp2_with fail
    go_ret2
    rw [HF.out]
    exact ⟨rfl, HB2.out⟩
/-- A link that can be read. -/
def LinkF (w : World) (r : Lk × List Fc) (e : Ending) (w' : World) : Prop := ∃ (fv : Value) (vs : List Fl), e = .returned (vLk r.1 fv) ∧ FL w' fv vs ∧ vs.map core = r.2 ∧ Below w.heap.size w w'
theorem fl_none0 (w : World) : FL w (.slice none 0 0) [] := ⟨fun x hx => (by cases hx), nilOk_nil, arr_nil _ _⟩
set_option maxHeartbeats 4000000 in
set_option maxRecDepth 100000 in
theorem refCut_any (s : Lk) (l : List Fl) (v : Value) (w : World) (hv : FL w v l) :
    Calls Try.prog 27 #[vLk s v] w (LinkF w (cutS s (l.map core))) := by
  obtain ⟨R, hR⟩ : ∃ R, cutS s (l.map core) = R := ⟨_, rfl⟩
  rw [hR]
  have HR := hid hR
  clear hR
  obtain ⟨A, c, rfl⟩ := fl_form hv
  obtain ⟨N, hN⟩ : ∃ N, l.length = N := ⟨_, rfl⟩
  rw [hN] at hv ⊢
  obtain ⟨mn, mx, rt, dn, idle, next⟩ := s
  unfold vLk
  dsimp only
  obtain ⟨g, hg⟩ : ∃ g, w.heap.size = g := ⟨_, rfl⟩
  obtain ⟨W1, hW1⟩ : ∃ X, (w.alloc (.cells #[.int .i64 mn, .int .i64 mx, .int .i64 rt, .bool dn, .int .i64 idle, .int .i64 next, .slice A N c] 26)).alloc (.cells #[.int .i64 0, .int .i64 0, .int .i64 0, .bool false, .int .i64 0, .int .i64 0, .slice none 0 0] 26) = X := ⟨_, rfl⟩
  have hb1 : Below w.heap.size w W1 := by rw [← hW1]; exact ((Below.refl _ w).alloc (Nat.le_refl _) _).alloc (by simp) _
  have hx1 : W1.heap[g]? = some (.cells #[.int .i64 mn, .int .i64 mx, .int .i64 rt, .bool dn, .int .i64 idle, .int .i64 next, .slice A N c] 26) := by rw [← hW1, ← hg]; exact (Below.heap_alloc _ _ _ (by simp)).trans (heap_alloc_new w _)
  have hy1 : W1.heap[g + 1]? = some (.cells #[.int .i64 0, .int .i64 0, .int .i64 0, .bool false, .int .i64 0, .int .i64 0, .slice none 0 0] 26) := by rw [← hW1, ← hg]; simpa using heap_alloc_new (w.alloc (.cells #[.int .i64 mn, .int .i64 mx, .int .i64 rt, .bool dn, .int .i64 idle, .int .i64 next, .slice A N c] 26)) (.cells #[.int .i64 0, .int .i64 0, .int .i64 0, .bool false, .int .i64 0, .int .i64 0, .slice none 0 0] 26)
  have HY1 := hid hy1
  clear hy1
  obtain ⟨ck, hck⟩ : ∃ ck, chk ⟨mn, mx, rt, dn, idle, next⟩ (l.map core) = ck := ⟨_, rfl⟩
  have HCK := hid (refCheck_any ⟨mn, mx, rt, dn, idle, next⟩ l _ W1 (hv.below hb1))
  rw [hck] at HCK
  unfold vLk at HCK
  have HCE := hid hck
  have HV := hid hv
  have HN := hid hN
  have HB1 := hid hb1
  have HX1 := hid hx1
  have HW1 := hid hW1
  have HG := hid hg
  have hge : w.heap.size ≤ g := Nat.le_of_eq hg
  have x0 := cell_of_row _ _ 0 _ _ _ HX1.out
  have x1 := cell_of_row _ _ 1 _ _ _ HX1.out
  have x2 := cell_of_row _ _ 2 _ _ _ HX1.out
  have x3 := cell_of_row _ _ 3 _ _ _ HX1.out
  have x4 := cell_of_row _ _ 4 _ _ _ HX1.out
  have x5 := cell_of_row _ _ 5 _ _ _ HX1.out
  have x6 := cell_of_row _ _ 6 _ _ _ HX1.out
  clear hv hN hb1 hx1 hW1 hg hck
  go_enter Try.func27, Try.ntmps27
  go_upto_region 1 with fail
  rw [HW1.out, HG.out]
  go_wp2_with fail
  refine HCK.out.mono ?_
  rintro e w2 ⟨rfl, hb2⟩
  have HX2 := hid ((hb2.block _ (box_lt HX1.out)).trans HX1.out)
  have HY2 := hid ((hb2.block _ (box_lt HY1.out)).trans HY1.out)
  have HB2 := hid (HB1.out.trans (hb2.mono HB1.out.size))
  clear hb2 HCK x0 x1 x2 x3 x4 x5 x6
  have x0 := cell_of_row _ _ 0 _ _ _ HX2.out
  have x1 := cell_of_row _ _ 1 _ _ _ HX2.out
  have x2 := cell_of_row _ _ 2 _ _ _ HX2.out
  have x3 := cell_of_row _ _ 3 _ _ _ HX2.out
  have x4 := cell_of_row _ _ 4 _ _ _ HX2.out
  have x5 := cell_of_row _ _ 5 _ _ _ HX2.out
  have x6 := cell_of_row _ _ 6 _ _ _ HX2.out
  have y0 := cell_of_row _ _ 0 _ _ _ HY2.out
  have y1 := cell_of_row _ _ 1 _ _ _ HY2.out
  have y2 := cell_of_row _ _ 2 _ _ _ HY2.out
  have y3 := cell_of_row _ _ 3 _ _ _ HY2.out
  have y4 := cell_of_row _ _ 4 _ _ _ HY2.out
  have y5 := cell_of_row _ _ 5 _ _ _ HY2.out
  have y6 := cell_of_row _ _ 6 _ _ _ HY2.out
  have fy0 := box_fr HY2.out 0
  have fy1 := box_fr HY2.out 1
  have fy2 := box_fr HY2.out 2
  have fy3 := box_fr HY2.out 3
  have fy4 := box_fr HY2.out 4
  have fy5 := box_fr HY2.out 5
  have fy6 := box_fr HY2.out 6
  by_cases hc0 : ck = 0
  rotate_left
  · have d1 : (ck != 0) = true := by rw [bne_iff_ne]; exact hc0
    have HF : Hid (R = (⟨mn, mx, rt, dn, idle, next⟩, l.map core)) := hid (by rw [← HR.out]; unfold cutS; rw [HCE.out, if_pos hc0])
    clear hc0
    go_wp2_with fail
    refine bodyPost_ret (results_cell_row rfl _ _ (g + 1) 26 #[.int .i64 mn, .int .i64 mx, .int .i64 rt, .bool dn, .int .i64 idle, .int .i64 next, .slice A N c] (0, 0) _ rfl (set7h _ _ _ _ _ _ _ HY2.out) Try.underlying26 rfl rfl) rfl ?_
    rw [HF.out]
    exact ⟨_, l, rfl, HV.out.below (set7b _ _ _ _ _ _ _ HB2.out (by omega)), rfl, set7b _ _ _ _ _ _ _ HB2.out (by omega)⟩
  subst hc0
  have HF : Hid (R = (⟨mn, mx, rt, true, idle, next⟩, [])) := hid (by rw [← HR.out]; unfold cutS; rw [HCE.out, if_neg (by simp)])
  have f3 := box_fr HX2.out 3
  have f6 := box_fr HX2.out 6
  obtain ⟨W4, hW4⟩ : ∃ X, (w2.setCell ⟨g, 3, none⟩ (.bool true)).setCell ⟨g, 6, none⟩ (.slice none 0 0) = X := ⟨_, rfl⟩
  have HX4 : Hid (W4.heap[g]? = some (.cells #[.int .i64 mn, .int .i64 mx, .int .i64 rt, .bool true, .int .i64 idle, .int .i64 next, .slice none 0 0] 26)) := hid (by
    rw [← hW4]
    exact box_set (cs := [.int .i64 mn, .int .i64 mx, .int .i64 rt, .bool true, .int .i64 idle, .int .i64 next, .slice A N c]) (box_set (cs := [.int .i64 mn, .int .i64 mx, .int .i64 rt, .bool dn, .int .i64 idle, .int .i64 next, .slice A N c]) HX2.out 3 _) 6 _)
  have HY4 : Hid (W4.heap[g + 1]? = some (.cells #[.int .i64 0, .int .i64 0, .int .i64 0, .bool false, .int .i64 0, .int .i64 0, .slice none 0 0] 26)) := hid (by
    rw [← hW4]
    exact (Below.heap_setCell _ _ _ _ (show g + 1 ≠ g by omega)).trans ((Below.heap_setCell _ _ _ _ (show g + 1 ≠ g by omega)).trans HY2.out))
  have HB4 : Hid (Below w.heap.size w W4) := hid (by rw [← hW4]; exact (HB2.out.setCell hge _).setCell hge _)
  have HW4 := hid hW4
  clear hW4
  go_upto_region 4 with fail
  rw [HW4.out]
  clear x0 x1 x2 x3 x4 x5 x6 y0 y1 y2 y3 y4 y5 y6 fy0 fy1 fy2 fy3 fy4 fy5 fy6 f3 f6
  have x0 := cell_of_row _ _ 0 _ _ _ HX4.out
  have x1 := cell_of_row _ _ 1 _ _ _ HX4.out
  have x2 := cell_of_row _ _ 2 _ _ _ HX4.out
  have x3 := cell_of_row _ _ 3 _ _ _ HX4.out
  have x4 := cell_of_row _ _ 4 _ _ _ HX4.out
  have x5 := cell_of_row _ _ 5 _ _ _ HX4.out
  have x6 := cell_of_row _ _ 6 _ _ _ HX4.out
  have y0 := cell_of_row _ _ 0 _ _ _ HY4.out
  have y1 := cell_of_row _ _ 1 _ _ _ HY4.out
  have y2 := cell_of_row _ _ 2 _ _ _ HY4.out
  have y3 := cell_of_row _ _ 3 _ _ _ HY4.out
  have y4 := cell_of_row _ _ 4 _ _ _ HY4.out
  have y5 := cell_of_row _ _ 5 _ _ _ HY4.out
  have y6 := cell_of_row _ _ 6 _ _ _ HY4.out
  have fy0 := box_fr HY4.out 0
  have fy1 := box_fr HY4.out 1
  have fy2 := box_fr HY4.out 2
  have fy3 := box_fr HY4.out 3
  have fy4 := box_fr HY4.out 4
  have fy5 := box_fr HY4.out 5
  have fy6 := box_fr HY4.out 6
  go_wp2_with fail
  refine bodyPost_ret (results_cell_row rfl _ _ (g + 1) 26 #[.int .i64 mn, .int .i64 mx, .int .i64 rt, .bool true, .int .i64 idle, .int .i64 next, .slice none 0 0] (0, 0) _ rfl (set7h _ _ _ _ _ _ _ HY4.out) Try.underlying26 rfl rfl) rfl ?_
  rw [HF.out]
  exact ⟨_, [], rfl, fl_none0 _, rfl, set7b _ _ _ _ _ _ _ HB4.out (by omega)⟩
set_option maxHeartbeats 4000000 in
set_option maxRecDepth 100000 in
theorem refRestore_any (s : Lk) (l : List Fl) (v : Value) (now : Int) (w : World) (hv : FL w v l) :
    Calls Try.prog 29 #[vLk s v, .int .i64 now] w (LinkF w (resS s (l.map core) now)) := by
  obtain ⟨R, hR⟩ : ∃ R, resS s (l.map core) now = R := ⟨_, rfl⟩
  rw [hR]
  have HR := hid hR
  clear hR
  obtain ⟨A, c, rfl⟩ := fl_form hv
  obtain ⟨N, hN⟩ : ∃ N, l.length = N := ⟨_, rfl⟩
  rw [hN] at hv ⊢
  obtain ⟨mn, mx, rt, dn, idle, next⟩ := s
  unfold vLk
  dsimp only
  obtain ⟨g, hg⟩ : ∃ g, w.heap.size = g := ⟨_, rfl⟩
  obtain ⟨W1, hW1⟩ : ∃ X, (w.alloc (.cells #[.int .i64 mn, .int .i64 mx, .int .i64 rt, .bool dn, .int .i64 idle, .int .i64 next, .slice A N c] 26)).alloc (.cells #[.int .i64 0, .int .i64 0, .int .i64 0, .bool false, .int .i64 0, .int .i64 0, .slice none 0 0] 26) = X := ⟨_, rfl⟩
  have hb1 : Below w.heap.size w W1 := by rw [← hW1]; exact ((Below.refl _ w).alloc (Nat.le_refl _) _).alloc (by simp) _
  have hx1 : W1.heap[g]? = some (.cells #[.int .i64 mn, .int .i64 mx, .int .i64 rt, .bool dn, .int .i64 idle, .int .i64 next, .slice A N c] 26) := by rw [← hW1, ← hg]; exact (Below.heap_alloc _ _ _ (by simp)).trans (heap_alloc_new w _)
  have hy1 : W1.heap[g + 1]? = some (.cells #[.int .i64 0, .int .i64 0, .int .i64 0, .bool false, .int .i64 0, .int .i64 0, .slice none 0 0] 26) := by rw [← hW1, ← hg]; simpa using heap_alloc_new (w.alloc (.cells #[.int .i64 mn, .int .i64 mx, .int .i64 rt, .bool dn, .int .i64 idle, .int .i64 next, .slice A N c] 26)) (.cells #[.int .i64 0, .int .i64 0, .int .i64 0, .bool false, .int .i64 0, .int .i64 0, .slice none 0 0] 26)
  have HY1 := hid hy1
  clear hy1
  obtain ⟨ck, hck⟩ : ∃ ck, chk ⟨mn, mx, rt, dn, idle, next⟩ (l.map core) = ck := ⟨_, rfl⟩
  have HCK := hid (refCheck_any ⟨mn, mx, rt, dn, idle, next⟩ l _ W1 (hv.below hb1))
  rw [hck] at HCK
  unfold vLk at HCK
  have HCE := hid hck
  have HV := hid hv
  have HN := hid hN
  have HB1 := hid hb1
  have HX1 := hid hx1
  have HW1 := hid hW1
  have HG := hid hg
  have hge : w.heap.size ≤ g := Nat.le_of_eq hg
  have x0 := cell_of_row _ _ 0 _ _ _ HX1.out
  have x1 := cell_of_row _ _ 1 _ _ _ HX1.out
  have x2 := cell_of_row _ _ 2 _ _ _ HX1.out
  have x3 := cell_of_row _ _ 3 _ _ _ HX1.out
  have x4 := cell_of_row _ _ 4 _ _ _ HX1.out
  have x5 := cell_of_row _ _ 5 _ _ _ HX1.out
  have x6 := cell_of_row _ _ 6 _ _ _ HX1.out
  clear hv hN hb1 hx1 hW1 hg hck
  go_enter Try.func29, Try.ntmps29
  go_upto_region 1 with fail
  rw [HW1.out, HG.out]
  go_wp2_with fail
  refine HCK.out.mono ?_
  rintro e w2 ⟨rfl, hb2⟩
  have HX2 := hid ((hb2.block _ (box_lt HX1.out)).trans HX1.out)
  have HY2 := hid ((hb2.block _ (box_lt HY1.out)).trans HY1.out)
  have HB2 := hid (HB1.out.trans (hb2.mono HB1.out.size))
  clear hb2 HCK x0 x1 x2 x3 x4 x5 x6
  have x0 := cell_of_row _ _ 0 _ _ _ HX2.out
  have x1 := cell_of_row _ _ 1 _ _ _ HX2.out
  have x2 := cell_of_row _ _ 2 _ _ _ HX2.out
  have x3 := cell_of_row _ _ 3 _ _ _ HX2.out
  have x4 := cell_of_row _ _ 4 _ _ _ HX2.out
  have x5 := cell_of_row _ _ 5 _ _ _ HX2.out
  have x6 := cell_of_row _ _ 6 _ _ _ HX2.out
  have y0 := cell_of_row _ _ 0 _ _ _ HY2.out
  have y1 := cell_of_row _ _ 1 _ _ _ HY2.out
  have y2 := cell_of_row _ _ 2 _ _ _ HY2.out
  have y3 := cell_of_row _ _ 3 _ _ _ HY2.out
  have y4 := cell_of_row _ _ 4 _ _ _ HY2.out
  have y5 := cell_of_row _ _ 5 _ _ _ HY2.out
  have y6 := cell_of_row _ _ 6 _ _ _ HY2.out
  have fy0 := box_fr HY2.out 0
  have fy1 := box_fr HY2.out 1
  have fy2 := box_fr HY2.out 2
  have fy3 := box_fr HY2.out 3
  have fy4 := box_fr HY2.out 4
  have fy5 := box_fr HY2.out 5
  have fy6 := box_fr HY2.out 6
  by_cases hc0 : ck = 0
  rotate_left
  · have d1 : (ck != 0) = true := by rw [bne_iff_ne]; exact hc0
    have HF : Hid (R = (⟨mn, mx, rt, dn, idle, next⟩, l.map core)) := hid (by rw [← HR.out]; unfold resS; rw [if_neg (by rw [HCE.out]; exact fun h => hc0 h.1)])
    clear hc0
    go_wp2_with fail
    refine bodyPost_ret (results_cell_row rfl _ _ (g + 1) 26 #[.int .i64 mn, .int .i64 mx, .int .i64 rt, .bool dn, .int .i64 idle, .int .i64 next, .slice A N c] (0, 0) _ rfl (set7h _ _ _ _ _ _ _ HY2.out) Try.underlying26 rfl rfl) rfl ?_
    rw [HF.out]
    exact ⟨_, l, rfl, HV.out.below (set7b _ _ _ _ _ _ _ HB2.out (by omega)), rfl, set7b _ _ _ _ _ _ _ HB2.out (by omega)⟩
  subst hc0
  cases dn
  · have HF : Hid (R = (⟨mn, mx, rt, false, idle, next⟩, l.map core)) := hid (by rw [← HR.out]; unfold resS; rw [if_neg (by rw [HCE.out]; simp)])
    go_wp2_with fail
    refine bodyPost_ret (results_cell_row rfl _ _ (g + 1) 26 #[.int .i64 mn, .int .i64 mx, .int .i64 rt, .bool false, .int .i64 idle, .int .i64 next, .slice A N c] (0, 0) _ rfl (set7h _ _ _ _ _ _ _ HY2.out) Try.underlying26 rfl rfl) rfl ?_
    rw [HF.out]
    exact ⟨_, l, rfl, HV.out.below (set7b _ _ _ _ _ _ _ HB2.out (by omega)), rfl, set7b _ _ _ _ _ _ _ HB2.out (by omega)⟩
  by_cases hn0 : now < 0
  · have d2 : decide (now < 0) = true := decide_eq_true hn0
    have HF : Hid (R = (⟨mn, mx, rt, true, idle, next⟩, l.map core)) := hid (by rw [← HR.out]; unfold resS; rw [if_neg (by rw [HCE.out]; intro h; have h5 := timeB_le h.2.2; omega)])
    go_wp2_with fail
    refine bodyPost_ret (results_cell_row rfl _ _ (g + 1) 26 #[.int .i64 mn, .int .i64 mx, .int .i64 rt, .bool true, .int .i64 idle, .int .i64 next, .slice A N c] (0, 0) _ rfl (set7h _ _ _ _ _ _ _ HY2.out) Try.underlying26 rfl rfl) rfl ?_
    rw [HF.out]
    exact ⟨_, l, rfl, HV.out.below (set7b _ _ _ _ _ _ _ HB2.out (by omega)), rfl, set7b _ _ _ _ _ _ _ HB2.out (by omega)⟩
  have d2 : decide (now < 0) = false := decide_eq_false hn0
  by_cases hn1 : 1073741824 < now
  · have d3 : decide ((1073741824 : Int) < now) = true := decide_eq_true hn1
    have HF : Hid (R = (⟨mn, mx, rt, true, idle, next⟩, l.map core)) := hid (by rw [← HR.out]; unfold resS; rw [if_neg (by rw [HCE.out]; intro h; have h5 := timeB_le h.2.2; omega)])
    go_wp2_with fail
    refine bodyPost_ret (results_cell_row rfl _ _ (g + 1) 26 #[.int .i64 mn, .int .i64 mx, .int .i64 rt, .bool true, .int .i64 idle, .int .i64 next, .slice A N c] (0, 0) _ rfl (set7h _ _ _ _ _ _ _ HY2.out) Try.underlying26 rfl rfl) rfl ?_
    rw [HF.out]
    exact ⟨_, l, rfl, HV.out.below (set7b _ _ _ _ _ _ _ HB2.out (by omega)), rfl, set7b _ _ _ _ _ _ _ HB2.out (by omega)⟩
  have d3 : decide ((1073741824 : Int) < now) = false := decide_eq_false hn1
  have HF : Hid (R = (⟨mn, mx, rt, false, now, next⟩, l.map core)) := hid (by rw [← HR.out]; unfold resS; rw [if_pos ⟨HCE.out, rfl, decide_eq_true (by omega)⟩])
  have f3 := box_fr HX2.out 3
  have f4 := box_fr HX2.out 4
  obtain ⟨W4, hW4⟩ : ∃ X, (w2.setCell ⟨g, 3, none⟩ (.bool false)).setCell ⟨g, 4, none⟩ (.int .i64 now) = X := ⟨_, rfl⟩
  have HX4 : Hid (W4.heap[g]? = some (.cells #[.int .i64 mn, .int .i64 mx, .int .i64 rt, .bool false, .int .i64 now, .int .i64 next, .slice A N c] 26)) := hid (by
    rw [← hW4]
    exact box_set (cs := [.int .i64 mn, .int .i64 mx, .int .i64 rt, .bool false, .int .i64 idle, .int .i64 next, .slice A N c]) (box_set (cs := [.int .i64 mn, .int .i64 mx, .int .i64 rt, .bool true, .int .i64 idle, .int .i64 next, .slice A N c]) HX2.out 3 _) 4 _)
  have HY4 : Hid (W4.heap[g + 1]? = some (.cells #[.int .i64 0, .int .i64 0, .int .i64 0, .bool false, .int .i64 0, .int .i64 0, .slice none 0 0] 26)) := hid (by
    rw [← hW4]
    exact (Below.heap_setCell _ _ _ _ (show g + 1 ≠ g by omega)).trans ((Below.heap_setCell _ _ _ _ (show g + 1 ≠ g by omega)).trans HY2.out))
  have HB4 : Hid (Below w.heap.size w W4) := hid (by rw [← hW4]; exact (HB2.out.setCell hge _).setCell hge _)
  have HW4 := hid hW4
  clear hW4 hn0 hn1
  go_upto_region 4 with fail
  rw [HW4.out]
  clear x0 x1 x2 x3 x4 x5 x6 y0 y1 y2 y3 y4 y5 y6 fy0 fy1 fy2 fy3 fy4 fy5 fy6 f3 f4
  have x0 := cell_of_row _ _ 0 _ _ _ HX4.out
  have x1 := cell_of_row _ _ 1 _ _ _ HX4.out
  have x2 := cell_of_row _ _ 2 _ _ _ HX4.out
  have x3 := cell_of_row _ _ 3 _ _ _ HX4.out
  have x4 := cell_of_row _ _ 4 _ _ _ HX4.out
  have x5 := cell_of_row _ _ 5 _ _ _ HX4.out
  have x6 := cell_of_row _ _ 6 _ _ _ HX4.out
  have y0 := cell_of_row _ _ 0 _ _ _ HY4.out
  have y1 := cell_of_row _ _ 1 _ _ _ HY4.out
  have y2 := cell_of_row _ _ 2 _ _ _ HY4.out
  have y3 := cell_of_row _ _ 3 _ _ _ HY4.out
  have y4 := cell_of_row _ _ 4 _ _ _ HY4.out
  have y5 := cell_of_row _ _ 5 _ _ _ HY4.out
  have y6 := cell_of_row _ _ 6 _ _ _ HY4.out
  have fy0 := box_fr HY4.out 0
  have fy1 := box_fr HY4.out 1
  have fy2 := box_fr HY4.out 2
  have fy3 := box_fr HY4.out 3
  have fy4 := box_fr HY4.out 4
  have fy5 := box_fr HY4.out 5
  have fy6 := box_fr HY4.out 6
  go_wp2_with fail
  refine bodyPost_ret (results_cell_row rfl _ _ (g + 1) 26 #[.int .i64 mn, .int .i64 mx, .int .i64 rt, .bool false, .int .i64 now, .int .i64 next, .slice A N c] (0, 0) _ rfl (set7h _ _ _ _ _ _ _ HY4.out) Try.underlying26 rfl rfl) rfl ?_
  rw [HF.out]
  exact ⟨_, l, rfl, HV.out.below (set7b _ _ _ _ _ _ _ HB4.out (by omega)), rfl, set7b _ _ _ _ _ _ _ HB4.out (by omega)⟩
end Go.Proofs.Ytacpejoablcffaa
