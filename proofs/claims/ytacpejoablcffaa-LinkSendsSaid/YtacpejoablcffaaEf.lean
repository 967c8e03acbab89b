/- Deliver of the reference. -/
import Derived.Test.YtacpejoablcffaaEe
namespace Go.Proofs.Ytacpejoablcffaa
open Go.RowKit Go.Lib

theorem filt_take {t : Int} : ∀ {l : List Fc}, l.Pairwise ltE → l.filter (fun x => decide (x.1 ≤ t)) = l.take (unt l t) ∧ l.filter (fun x => decide (t < x.1)) = l.drop (unt l t) := by
  intro l
  induction l with
  | nil => intro _; exact ⟨rfl, rfl⟩
  | cons e r ih =>
    intro h
    have hr := List.pairwise_cons.1 h
    obtain ⟨h1, h2⟩ := ih hr.2
    unfold unt
    by_cases hc : t < e.1
    · rw [if_pos hc]
      refine ⟨?_, ?_⟩
      · rw [List.take_zero, List.filter_eq_nil_iff]
        intro x hx
        rcases List.mem_cons.1 hx with rfl | hx
        · simp; omega
        · have := hr.1 x hx
          unfold ltE at this
          simp; omega
      · rw [List.drop_zero, List.filter_eq_self]
        intro x hx
        rcases List.mem_cons.1 hx with rfl | hx
        · simp; omega
        · have := hr.1 x hx
          unfold ltE at this
          simp; omega
    · rw [if_neg hc, List.filter_cons, List.filter_cons, if_pos (by simp; omega), if_neg (by simp; omega), List.take_succ_cons, List.drop_succ_cons, h1, h2]
      exact ⟨rfl, rfl⟩
/-- What the reference's Deliver gives. -/
def RDelQ (w : World) (s : Lk) (l : List Fc) (n : Nat) (e : Ending) (w' : World) : Prop :=
  ∃ (fv pv : Value) (vs ps : List Fl), e = .returned (.tuple #[vLk s fv, pv]) ∧ FL w' fv vs ∧ PyL w' pv ps ∧ vs.map core = l.drop n ∧ ps.map Fl.p = (l.take n).map (fun x => x.2.2) ∧ Below w.heap.size w w'
theorem py_none (w : World) : PyL w (.slice none 0 0) [] := ⟨fun x hx => (by cases hx), arr_nil _ _⟩
theorem arrP_snoc {l : List Fc} {k : Nat} {x : Fc} {t : Int} (h : l[k]? = some x) (hc : x.1 ≤ t) : (l.take (k + 1)).filter (fun x => decide (x.1 ≤ t)) = (l.take k).filter (fun x => decide (x.1 ≤ t)) ++ [x] ∧ (l.take (k + 1)).filter (fun x => decide (t < x.1)) = (l.take k).filter (fun x => decide (t < x.1)) := by
  rw [take_succ'' h, List.filter_append, List.filter_append]
  refine ⟨by simp [hc], ?_⟩
  have : decide (t < x.1) = false := decide_eq_false (by omega)
  simp [this]
theorem arrN_snoc {l : List Fc} {k : Nat} {x : Fc} {t : Int} (h : l[k]? = some x) (hc : t < x.1) : (l.take (k + 1)).filter (fun x => decide (x.1 ≤ t)) = (l.take k).filter (fun x => decide (x.1 ≤ t)) ∧ (l.take (k + 1)).filter (fun x => decide (t < x.1)) = (l.take k).filter (fun x => decide (t < x.1)) ++ [x] := by
  rw [take_succ'' h, List.filter_append, List.filter_append]
  refine ⟨?_, by simp [hc]⟩
  have : decide (x.1 ≤ t) = false := decide_eq_false (by omega)
  simp [this]
set_option maxHeartbeats 8000000 in
set_option maxRecDepth 100000 in
theorem refDeliver_any (s : Lk) (l : List Fl) (v : Value) (now : Int) (w : World) (hv : FL w v l) (hl : l.length ≤ 100000) (hpl : ∀ x ∈ l, x.p.length ≤ 100000) :
    Calls Try.prog 22 #[vLk s v, .int .i64 now] w (RDelQ w s (l.map core) (delN s (l.map core) now)) := by
  obtain ⟨n, hn⟩ : ∃ n, delN s (l.map core) now = n := ⟨_, rfl⟩
  rw [hn]
  have HNN := hid hn
  have HPL := hid hpl
  have HLL := hid hl
  clear hn hpl hl
  obtain ⟨A, c, rfl⟩ := fl_form hv
  obtain ⟨N, hN⟩ : ∃ N, l.length = N := ⟨_, rfl⟩
  rw [hN] at hv ⊢
  obtain ⟨mn, mx, rt, dn, idle, next⟩ := s
  unfold vLk
  dsimp only
  obtain ⟨g, hg⟩ : ∃ g, w.heap.size = g := ⟨_, rfl⟩
  obtain ⟨W1, hW1⟩ : ∃ X, (w.alloc (.cells #[.int .i64 mn, .int .i64 mx, .int .i64 rt, .bool dn, .int .i64 idle, .int .i64 next, .slice A N c] 26)).alloc (.cells #[.int .i64 0, .int .i64 0, .int .i64 0, .bool false, .int .i64 0, .int .i64 0, .slice none 0 0] 26) = X := ⟨_, rfl⟩
  have hb1 : Below w.heap.size w W1 := by rw [← hW1]; exact ((Below.refl _ w).alloc (Nat.le_refl _) _).alloc (by simp) _
  have hx1 : W1.heap[g]? = some (.cells #[.int .i64 mn, .int .i64 mx, .int .i64 rt, .bool dn, .int .i64 idle, .int .i64 next, .slice A N c] 26) := by rw [← hW1, ← hg]; exact (Below.heap_alloc _ _ _ (by simp)).trans (heap_alloc_new w _)
  have hy1 : W1.heap[g + 1]? = some (.cells #[.int .i64 0, .int .i64 0, .int .i64 0, .bool false, .int .i64 0, .int .i64 0, .slice none 0 0] 26) := by rw [← hW1, ← hg]; simpa using heap_alloc_new (w.alloc (.cells #[.int .i64 mn, .int .i64 mx, .int .i64 rt, .bool dn, .int .i64 idle, .int .i64 next, .slice A N c] 26)) (.cells #[.int .i64 0, .int .i64 0, .int .i64 0, .bool false, .int .i64 0, .int .i64 0, .slice none 0 0] 26)
  have HY1 := hid hy1
  clear hy1
  obtain ⟨ck, hck⟩ : ∃ ck, chk ⟨mn, mx, rt, dn, idle, next⟩ (l.map core) = ck := ⟨_, rfl⟩
  have HCK := hid (refCheck_any ⟨mn, mx, rt, dn, idle, next⟩ l _ W1 (hv.below hb1))
  rw [hck] at HCK
  unfold vLk at HCK
  have HCE := hid hck
  have HV := hid hv
  have HN := hid hN
  have HB1 := hid hb1
  have HX1 := hid hx1
  have HW1 := hid hW1
  have HG := hid hg
  have hge : w.heap.size ≤ g := Nat.le_of_eq hg
  have x0 := cell_of_row _ _ 0 _ _ _ HX1.out
  have x1 := cell_of_row _ _ 1 _ _ _ HX1.out
  have x2 := cell_of_row _ _ 2 _ _ _ HX1.out
  have x3 := cell_of_row _ _ 3 _ _ _ HX1.out
  have x4 := cell_of_row _ _ 4 _ _ _ HX1.out
  have x5 := cell_of_row _ _ 5 _ _ _ HX1.out
  have x6 := cell_of_row _ _ 6 _ _ _ HX1.out
  clear hv hN hb1 hx1 hW1 hg hck
  go_enter Try.func22, Try.ntmps22
  go_upto_region 1 with fail
  rw [HW1.out, HG.out]
  go_wp2_with fail
  refine HCK.out.mono ?_
  rintro e w2 ⟨rfl, hb2⟩
  have HX2 := hid ((hb2.block _ (box_lt HX1.out)).trans HX1.out)
  have HY2 := hid ((hb2.block _ (box_lt HY1.out)).trans HY1.out)
  have HB2 := hid (HB1.out.trans (hb2.mono HB1.out.size))
  clear hb2 HCK x0 x1 x2 x3 x4 x5 x6
  have x0 := cell_of_row _ _ 0 _ _ _ HX2.out
  have x1 := cell_of_row _ _ 1 _ _ _ HX2.out
  have x2 := cell_of_row _ _ 2 _ _ _ HX2.out
  have x3 := cell_of_row _ _ 3 _ _ _ HX2.out
  have x4 := cell_of_row _ _ 4 _ _ _ HX2.out
  have x5 := cell_of_row _ _ 5 _ _ _ HX2.out
  have x6 := cell_of_row _ _ 6 _ _ _ HX2.out
  have y0 := cell_of_row _ _ 0 _ _ _ HY2.out
  have y1 := cell_of_row _ _ 1 _ _ _ HY2.out
  have y2 := cell_of_row _ _ 2 _ _ _ HY2.out
  have y3 := cell_of_row _ _ 3 _ _ _ HY2.out
  have y4 := cell_of_row _ _ 4 _ _ _ HY2.out
  have y5 := cell_of_row _ _ 5 _ _ _ HY2.out
  have y6 := cell_of_row _ _ 6 _ _ _ HY2.out
  have fy0 := box_fr HY2.out 0
  have fy1 := box_fr HY2.out 1
  have fy2 := box_fr HY2.out 2
  have fy3 := box_fr HY2.out 3
  have fy4 := box_fr HY2.out 4
  have fy5 := box_fr HY2.out 5
  have fy6 := box_fr HY2.out 6
  by_cases hc0 : ck = 0
  rotate_left
  · have d1 : (ck != 0) = true := by rw [bne_iff_ne]; exact hc0
    have HF : Hid (n = 0) := hid (by rw [← HNN.out]; unfold delN; rw [if_neg (by rw [HCE.out]; exact hc0)])
    clear hc0
    go_wp2_with fail
    refine bodyPost_ret (results_v1 rfl _ _ (g + 1) _ rfl (lv26 (set7h _ _ _ _ _ _ _ HY2.out)) _ rfl) rfl ?_
    rw [HF.out]
    exact ⟨_, _, l, [], rfl, HV.out.below (set7b _ _ _ _ _ _ _ HB2.out (by omega)), py_none _, by rw [List.drop_zero], by simp, set7b _ _ _ _ _ _ _ HB2.out (by omega)⟩
  subst hc0
  have HOK := hid ((chk_iff ⟨mn, mx, rt, dn, idle, next⟩ (l.map core)).1 HCE.out)
  have HNU : Hid (n = unt (l.map core) now) := hid (by rw [← HNN.out]; unfold delN; rw [if_pos HCE.out])
  have HCP := hid (refCopy_any ⟨mn, mx, rt, dn, idle, next⟩ l _ w2 (HV.out.below HB2.out) HLL.out HPL.out)
  unfold vLk at HCP
  clear y0 y1 y2 y3 y4 y5 y6 fy0 fy1 fy2 fy3 fy4 fy5 fy6
  go_upto_region 3 with fail
  go_wp2_with fail
  refine HCP.out.mono ?_
  rintro e w3 ⟨v3, rfl, ⟨fv3, vs3, rfl, ho3, hc3, hp3⟩, hb3⟩
  obtain ⟨f3, c3, rfl⟩ := own_form69 ho3
  obtain ⟨q3, hq3⟩ : ∃ q, vs3.length = q := ⟨_, rfl⟩
  unfold vLk
  dsimp only
  rw [hq3]
  obtain ⟨o, ho⟩ : ∃ o, w3.heap.size = o := ⟨_, rfl⟩
  obtain ⟨W3, hW3⟩ : ∃ X, w3.alloc (.cells #[.int .i64 mn, .int .i64 mx, .int .i64 rt, .bool dn, .int .i64 idle, .int .i64 next, .slice f3 q3 c3] 26) = X := ⟨_, rfl⟩
  have hz3 : Below w3.heap.size w3 W3 := by rw [← hW3]; exact al1 _ _
  have hb3' := hb3.trans (hz3.mono hb3.size)
  have HO3 : Hid (W3.heap[o]? = some (.cells #[.int .i64 mn, .int .i64 mx, .int .i64 rt, .bool dn, .int .i64 idle, .int .i64 next, .slice f3 q3 c3] 26)) := hid (by rw [← hW3, ← ho]; exact heap_alloc_new _ _)
  have HX3 := hid ((hb3'.block _ (box_lt HX2.out)).trans HX2.out)
  have HY3 := hid ((hb3'.block _ (box_lt HY2.out)).trans HY2.out)
  have HB3 := hid (HB2.out.trans (hb3'.mono HB2.out.size))
  have hgo : g + 1 < o := by rw [← ho]; exact Nat.lt_of_lt_of_le (box_lt HY2.out) hb3.size
  have HW3 := hid hW3
  have HOO := hid ho
  clear hq3 ho hW3 hz3 hb3 hb3' ho3 hc3 hp3 HCP x0 x1 x2 x3 x4 x5 x6
  obtain ⟨W4, hW4⟩ : ∃ X, W3.setCell ⟨o, 6, none⟩ (.slice none 0 0) = X := ⟨_, rfl⟩
  have HO4 : Hid (W4.heap[o]? = some (.cells #[.int .i64 mn, .int .i64 mx, .int .i64 rt, .bool dn, .int .i64 idle, .int .i64 next, .slice none 0 0] 26)) := hid (by
    rw [← hW4]
    exact box_set (cs := [.int .i64 mn, .int .i64 mx, .int .i64 rt, .bool dn, .int .i64 idle, .int .i64 next, .slice f3 q3 c3]) HO3.out 6 _)
  have HX4 : Hid (W4.heap[g]? = some (.cells #[.int .i64 mn, .int .i64 mx, .int .i64 rt, .bool dn, .int .i64 idle, .int .i64 next, .slice A N c] 26)) := hid (by rw [← hW4]; exact (Below.heap_setCell _ _ _ _ (show g ≠ o by omega)).trans HX3.out)
  have HY4 : Hid (W4.heap[g + 1]? = some (.cells #[.int .i64 0, .int .i64 0, .int .i64 0, .bool false, .int .i64 0, .int .i64 0, .slice none 0 0] 26)) := hid (by rw [← hW4]; exact (Below.heap_setCell _ _ _ _ (show g + 1 ≠ o by omega)).trans HY3.out)
  have HB4 : Hid (Below w.heap.size w W4) := hid (by rw [← hW4]; exact HB3.out.setCell (show w.heap.size ≤ o by omega) _)
  have ho4 := box_lt HO4.out
  have HW4 := hid hW4
  have x6 := cell_of_row _ _ 6 _ _ _ HO3.out
  have f6 := box_fr HO3.out 6
  clear hW4
  go_upto_region 4 with fail
  rw [HW3.out, HOO.out]
  go_upto_region 7 with fail
  rw [HW4.out]
  clear x6 f6
  go_loopw [7, 8] (fun pv iv wr => ∃ (k : Nat) (ps vs : List Fl) (fv : Value), k ≤ N ∧ iv = .int .i64 (k : Int) ∧ Hid (ps.map Fl.p = (((l.map core).take k).filter (fun x => decide (x.1 ≤ now))).map (fun x => x.2.2)) ∧ Hid (vs.map core = ((l.map core).take k).filter (fun x => decide (now < x.1))) ∧ Hid (ps.length ≤ k ∧ vs.length ≤ k) ∧ Hid (wr.ownsRow o 37 1 pv ps.length (ps.map Fl.d)) ∧ Hid (wr.ownsRow o 69 3 fv vs.length (vs.map cFl).flatten) ∧ Hid ((∀ x ∈ ps, Pay wr x) ∧ (∀ x ∈ vs, Pay wr x)) ∧ Hid (wr.heap[o]? = some (.cells #[.int .i64 mn, .int .i64 mx, .int .i64 rt, .bool dn, .int .i64 idle, .int .i64 next, fv] 26)) ∧ Hid (Below o W4 wr)) (fun _ i _ => N - (Lib.intOf i).toNat)
  case atStart => exact ⟨0, [], [], _, Nat.zero_le _, rfl, hid rfl, hid rfl, hid ⟨Nat.le_refl _, Nat.le_refl _⟩, hid (World.ownsRow_nil _ _ _ _), hid (World.ownsRow_nil _ _ _ _), hid ⟨fun x hx => (by cases hx), fun x hx => (by cases hx)⟩, HO4, hid (Below.refl _ _)⟩
  case round =>
    clear HO4
    obtain ⟨k, ps, vs, fv, hk, rfl, HPS, HVS, HLE, HPO, HVO, HPP, HOB, HB⟩ := hrel
    obtain ⟨pA, pc, rfl⟩ := own_formE HPO.out
    obtain ⟨fA, fc, rfl⟩ := own_form69 HVO.out
    obtain ⟨pn, hpn⟩ : ∃ q, ps.length = q := ⟨_, rfl⟩
    obtain ⟨vn, hvn⟩ : ∃ q, vs.length = q := ⟨_, rfl⟩
    obtain ⟨hle1, hle2⟩ := HLE.out
    rw [hpn] at HPO hle1 ⊢
    rw [hvn] at HVO HOB hle2
    have HPN := hid hpn
    have HVN := hid hvn
    have HLE1 := hid hle1
    have HLE2 := hid hle2
    have HLN : Hid (N ≤ 100000) := hid (by rw [← HN.out]; exact HLL.out)
    clear hpn hvn hle1 hle2 HLE
    have HBW : Hid (Below w.heap.size w wr) := hid (HB4.out.trans (HB.out.mono (by omega)))
    have hx4 := (HB.out.block g (by omega)).trans HX4.out
    have how := box_lt HOB.out
    have x6 := cell_of_row _ _ 6 _ _ _ hx4
    by_cases hkn : k < N
    · have hkn' : (k : Int) < (N : Int) := by omega
      have hln : N ≤ 100000 := HLN.out
      have hfl := HV.out.below HBW.out
      obtain ⟨b, off, rfl, hbl, hc⟩ := fl_cells hfl (by rw [HN.out]; omega)
      obtain ⟨x, hx⟩ : ∃ x, l[k]? = some x := ⟨l[k]'(by rw [HN.out]; exact hkn), List.getElem?_eq_getElem _⟩
      obtain ⟨q0, q1, q2⟩ := hc k x hx
      obtain ⟨hxb, hxn⟩ := hfl.1 x (List.mem_of_getElem? hx)
      have hxp := HPL.out x (List.mem_of_getElem? hx)
      have hcx : (l.map core)[k]? = some (core x) := by rw [List.getElem?_map, hx]; rfl
      have HSP := hid (fun (h : (core x).1 ≤ now) => arrP_snoc (t := now) hcx h)
      have HSN := hid (fun (h : now < (core x).1) => arrN_snoc (t := now) hcx h)
      clear hc hx hcx hfl
      obtain ⟨xt, xn, xd, xp⟩ := x
      dsimp only at q0 q1 q2 hxb hxn hxp
      obtain ⟨xA, xc, rfl⟩ := byt_form hxb
      obtain ⟨xm, hxm⟩ : ∃ xm, xp.length = xm := ⟨_, rfl⟩
      rw [hxm] at q2 hxb hxn hxp HSP HSN
      obtain ⟨h, hh⟩ : ∃ h, wr.heap.size = h := ⟨_, rfl⟩
      obtain ⟨W5, hW5⟩ : ∃ X, wr.alloc (.cells #[.int .i64 xt, .int .i64 xn, .slice xA xm xc] 69) = X := ⟨_, rfl⟩
      have hb5 : Below wr.heap.size wr W5 := by rw [← hW5]; exact al1 _ _
      have HH5 : Hid (W5.heap[h]? = some (.cells #[.int .i64 xt, .int .i64 xn, .slice xA xm xc] 69)) := hid (by rw [← hW5, ← hh]; exact heap_alloc_new _ _)
      have HCO := hid (copied_any xp _ W5 (hxb.below hb5) hxn (by omega))
      have HXM := hid hxm
      have H8 := hid hxb.1
      have HW5 := hid hW5
      have HHH := hid hh
      have HB5 := hid hb5
      have hoh : o < h := by rw [← hh]; exact how
      clear hxb hxn hxp hxm hW5 hh hb5
      go_upto_region 10 with fail
      rw [HW5.out, HHH.out]
      clear x6 q0 q1 q2
      have z0 := cell_of_row _ _ 0 _ _ _ HH5.out
      have z2 := cell_of_row _ _ 2 _ _ _ HH5.out
      by_cases ht : xt ≤ now
      · have dt : decide (xt ≤ now) = true := decide_eq_true ht
        have HS := hid (HSP.out ht)
        clear ht HSP HSN
        go_wp2_with fail
        refine HCO.out.mono ?_
        rintro e w6 ⟨cv, rfl, hco, hb6⟩
        obtain ⟨cA, cc, rfl⟩ := own_form hco
        rw [HXM.out] at hco ⊢
        have hb6' : Below wr.heap.size wr w6 := HB5.out.trans (hb6.mono HB5.out.size)
        have HQ6 := hid hco
        have HB6 := hid hb6'
        have HPO6 := hid (own_keep HPO.out (keep_below hb6'))
        have ho6 : o ≤ w6.heap.size := Nat.le_trans (Nat.le_of_lt how) hb6'.size
        have hp1 : pn + 1 ≤ 1000000 := by have := HLE1.out; have := HLN.out; omega
        clear hco hb6 hb6' HCO z0 z2 dt
        go_wp2_with (at_builtin; refine append_pay rfl (.tmp 33) (.tmp 37) rfl o (.slice pA pn pc) pn _ rfl (own_keep HPO6.out (keep_below (al1 _ _))) cA xm cc ⟨w6.heap.size, 0, none⟩ 1 rfl (by rw [cell_of_row _ _ _ _ _ _ (heap_alloc_new _ _)]; rfl) hp1 (by simp; omega) ?_; intro v7 w7 ho7 hg7; obtain ⟨rA, rc, rfl⟩ := own_formE ho7; have HO7 := hid ho7; have HG7 := hid hg7; clear ho7 hg7)
        have how7 := own_keep HPO6.out (keep_below (al1 w6 (.cells #[.slice cA xm cc] 37)))
        have hal : Below wr.heap.size wr (w6.alloc (.cells #[.slice cA xm cc] 37)) := HB6.out.alloc HB6.out.size _
        have hk : ∀ T, T ≠ 37 → Keep T wr w7 := fun T hT => (keep_below hal).trans (keep_grown how7 hT HG7.out)
        have HB7 : Hid (Below o W4 w7) := hid (below_ownE (base := o) (HB.out.trans (hal.mono (Nat.le_of_lt how))) how7 HG7.out (Nat.le_trans (Nat.le_of_lt how) hal.size) (Nat.le_refl _))
        have HPP7 : Hid ((∀ x ∈ ps, Pay w7 x) ∧ (∀ x ∈ vs, Pay w7 x)) := hid ⟨fun x hx => (HPP.out.1 x hx).keep (hk 5 (by decide)), fun x hx => (HPP.out.2 x hx).keep (hk 5 (by decide))⟩
        have HVO7 := hid (own_keep HVO.out (hk 69 (by decide)))
        have HOB7 := hid (hk 26 (by decide) _ _ HOB.out)
        have HQ7 := hid (own_keep (own_keep HQ6.out (keep_below (al1 w6 (.cells #[.slice cA xm cc] 37)))) (keep_grown (T := 5) how7 (by decide) HG7.out))
        clear how7 hal hk
        go_roundw
        case rel => exact ⟨k + 1, ps ++ [⟨xt, xn, .slice cA xm cc, xp⟩], vs, _, by omega, by go_num, hid (by rw [List.map_append, HS.out.1, List.map_append, HPS.out]; rfl), hid (by rw [HS.out.2, HVS.out]), hid ⟨by rw [List.length_append, HPN.out]; have := HLE1.out; simp; omega, by have := HLE2.out; rw [HVN.out]; omega⟩, hid (by rw [List.length_append, HPN.out, List.map_append]; exact HO7.out), hid (by rw [HVN.out]; exact HVO7.out), hid ⟨fun y hy => by
          rcases List.mem_append.1 hy with hy | hy
          · exact HPP7.out.1 y hy
          · rw [List.mem_singleton] at hy
            subst hy
            exact ⟨⟨_, by dsimp only; rw [HXM.out]; exact HQ7.out⟩, H8.out⟩, HPP7.out.2⟩, HOB7, HB7⟩
        case measure => simp [Lib.intOf]; omega
      · have dt : decide (xt ≤ now) = false := decide_eq_false ht
        have HS := hid (HSN.out (show now < xt by omega))
        clear ht HSP HSN
        go_wp2_with fail
        refine HCO.out.mono ?_
        rintro e w6 ⟨cv, rfl, hco, hb6⟩
        obtain ⟨cA, cc, rfl⟩ := own_form hco
        rw [HXM.out] at hco ⊢
        have hb6' : Below wr.heap.size wr w6 := HB5.out.trans (hb6.mono HB5.out.size)
        have hh6 := (hb6.block _ (box_lt HH5.out)).trans HH5.out
        have z2' := cell_of_row _ _ 2 _ _ _ hh6
        have fz2 := box_fr hh6 2
        obtain ⟨W7, hW7⟩ : ∃ X, w6.setCell ⟨h, 2, none⟩ (.slice cA xm cc) = X := ⟨_, rfl⟩
        have HH7 : Hid (W7.heap[h]? = some (.cells #[.int .i64 xt, .int .i64 xn, .slice cA xm cc] 69)) := hid (by
          rw [← hW7]
          exact box_set (cs := [.int .i64 xt, .int .i64 xn, .slice xA xm xc]) hh6 2 _)
        have hk7 : ∀ T, T ≠ 69 → Keep T wr W7 := fun T hT => by
          rw [← hW7]
          exact (keep_below hb6').trans (keep_box hh6 hT _ _)
        have HB7 : Hid (Below wr.heap.size wr W7) := hid (by rw [← hW7]; exact hb6'.setCell (Nat.le_of_eq HHH.out) _)
        have HVO7 : Hid (W7.ownsRow o 69 3 (.slice fA vn fc) vn (vs.map cFl).flatten) := hid (by
          rw [← hW7]
          exact own_off (own_keep HVO.out (keep_below hb6')) (fun q e => by have := (HVO.out.lt q e).2; have := HHH.out; omega) 2 _)
        have HQ7 : Hid (W7.ownsRow W5.heap.size 5 1 (.slice cA xm cc) xm (xp.map byteV)) := hid (by
          rw [← hW7]
          exact own_keep hco (keep_box hh6 (by decide) _ _))
        have HK7 := hid hk7
        have HOB7 := hid (hk7 26 (by decide) _ _ HOB.out)
        have HW7 := hid hW7
        have how7 : o ≤ W7.heap.size := Nat.le_trans (Nat.le_of_lt how) HB7.out.size
        have hp1 : vn + 1 ≤ 1000000 := by have := HLE2.out; have := HLN.out; omega
        clear hco hb6 hb6' HCO z0 z2 dt hW7 hk7
        go_upto_region 13 with fail
        rw [HW7.out]
        clear z2' fz2 hh6
        have z0 := cell_of_row _ _ 0 _ _ _ HH7.out
        have z1 := cell_of_row _ _ 1 _ _ _ HH7.out
        have z2 := cell_of_row _ _ 2 _ _ _ HH7.out
        have y6 := cell_of_row _ _ 6 _ _ _ HOB7.out
        go_wp2_with (at_builtin; refine append_one rfl (.tmp 44) (.tmp 46) rfl o (.slice fA vn fc) vn _ rfl (own_keep HVO7.out (keep_below (al1 _ _))) [.int .i64 xt, .int .i64 xn, .slice cA xm cc] rfl (fl_one _ _ _ _ _) ⟨W7.heap.size, 0, none⟩ 1 rfl (cell3 W7 _ _ _ 69) hp1 (by simp; omega) ?_; intro v8 w8 ho8 hg8; have hob8 := keep_grown (T := 26) (own_keep HVO7.out (keep_below (al1 W7 (.cells #[.int .i64 xt, .int .i64 xn, .slice cA xm cc] 69)))) (by decide) hg8 _ _ ((keep_below (al1 W7 (.cells #[.int .i64 xt, .int .i64 xn, .slice cA xm cc] 69))) _ _ HOB7.out); have y6' := cell_of_row _ _ 6 _ _ _ hob8; have fy6 := box_fr hob8 6; have HOB8 := hid hob8; obtain ⟨rA, rc, rfl⟩ := own_form69 ho8; have HO8 := hid ho8; have HG8 := hid hg8; clear ho8 hg8 hob8)
        have how8 := own_keep HVO7.out (keep_below (al1 W7 (.cells #[.int .i64 xt, .int .i64 xn, .slice cA xm cc] 69)))
        have hal : Below wr.heap.size wr (W7.alloc (.cells #[.int .i64 xt, .int .i64 xn, .slice cA xm cc] 69)) := HB7.out.alloc HB7.out.size _
        have hk8 : ∀ T, T ≠ 69 → T ≠ 26 → Keep T W7 (w8.setCell ⟨o, 6, none⟩ (.slice rA (vn + 1) rc)) := fun T hT hT2 => ((keep_below (al1 W7 (.cells #[.int .i64 xt, .int .i64 xn, .slice cA xm cc] 69))).trans (keep_grown how8 hT HG8.out)).trans (keep_box HOB8.out hT2 _ _)
        have hk : ∀ T, T ≠ 69 → T ≠ 26 → Keep T wr (w8.setCell ⟨o, 6, none⟩ (.slice rA (vn + 1) rc)) := fun T hT hT2 => (HK7.out T hT).trans (hk8 T hT hT2)
        have HB9 : Hid (Below o W4 (w8.setCell ⟨o, 6, none⟩ (.slice rA (vn + 1) rc))) := hid ((below_ownE (base := o) (HB.out.trans (hal.mono (Nat.le_of_lt how))) how8 HG8.out (Nat.le_trans (Nat.le_of_lt how) hal.size) (Nat.le_refl _)).setCell (Nat.le_refl _) _)
        have HPP9 : Hid ((∀ x ∈ ps, Pay (w8.setCell ⟨o, 6, none⟩ (.slice rA (vn + 1) rc)) x) ∧ (∀ x ∈ vs, Pay (w8.setCell ⟨o, 6, none⟩ (.slice rA (vn + 1) rc)) x)) := hid ⟨fun x hx => (HPP.out.1 x hx).keep (hk 5 (by decide) (by decide)), fun x hx => (HPP.out.2 x hx).keep (hk 5 (by decide) (by decide))⟩
        have HPO9 := hid (own_keep HPO.out (hk 37 (by decide) (by decide)))
        have HVO9 := hid (own_keep HO8.out (keep_box HOB8.out (show (69 : TypeId) ≠ 26 by decide) 6 (.slice rA (vn + 1) rc)))
        have HQ9 := hid (own_keep HQ7.out (hk8 5 (by decide) (by decide)))
        have HOB9 : Hid ((w8.setCell ⟨o, 6, none⟩ (.slice rA (vn + 1) rc)).heap[o]? = some (.cells #[.int .i64 mn, .int .i64 mx, .int .i64 rt, .bool dn, .int .i64 idle, .int .i64 next, .slice rA (vn + 1) rc] 26)) := hid (box_set (cs := [.int .i64 mn, .int .i64 mx, .int .i64 rt, .bool dn, .int .i64 idle, .int .i64 next, .slice fA vn fc]) HOB8.out 6 _)
        clear how8 hal hk hk8
        go_roundw
        case rel => exact ⟨k + 1, ps, vs ++ [⟨xt, xn, .slice cA xm cc, xp⟩], _, by omega, by go_num, hid (by rw [HS.out.1, HPS.out]), hid (by rw [List.map_append, HS.out.2, HVS.out]; rfl), hid ⟨by have := HLE1.out; rw [HPN.out]; omega, by rw [List.length_append, HVN.out]; have := HLE2.out; simp; omega⟩, hid (by rw [HPN.out]; exact HPO9.out), hid (by rw [List.length_append, HVN.out, List.map_append, List.flatten_append]; exact HVO9.out), hid ⟨HPP9.out.1, fun y hy => by
          rcases List.mem_append.1 hy with hy | hy
          · exact HPP9.out.2 y hy
          · rw [List.mem_singleton] at hy
            subst hy
            exact ⟨⟨_, by dsimp only; rw [HXM.out]; exact HQ9.out⟩, H8.out⟩⟩, HOB9, HB9⟩
        case measure => simp [Lib.intOf]; omega
    · obtain rfl : N = k := by omega
      have HX5 := hid hx4
      have hy4 := (HB.out.block (g + 1) hgo).trans HY4.out
      have HTK := hid (show ((l.map core).take N) = l.map core from List.take_of_length_le (by rw [List.length_map, HN.out]; exact Nat.le_refl _))
      have HFT := hid (filt_take (t := now) HOK.out.ord)
      rw [HTK.out] at HPS HVS
      have y0 := cell_of_row _ _ 0 _ _ _ hy4
      have y1 := cell_of_row _ _ 1 _ _ _ hy4
      have y2 := cell_of_row _ _ 2 _ _ _ hy4
      have y3 := cell_of_row _ _ 3 _ _ _ hy4
      have y4 := cell_of_row _ _ 4 _ _ _ hy4
      have y5 := cell_of_row _ _ 5 _ _ _ hy4
      have y6 := cell_of_row _ _ 6 _ _ _ hy4
      have fy0 := box_fr hy4 0
      have fy1 := box_fr hy4 1
      have fy2 := box_fr hy4 2
      have fy3 := box_fr hy4 3
      have fy4 := box_fr hy4 4
      have fy5 := box_fr hy4 5
      have fy6 := box_fr hy4 6
      have z0 := cell_of_row _ _ 0 _ _ _ HOB.out
      have z1 := cell_of_row _ _ 1 _ _ _ HOB.out
      have z2 := cell_of_row _ _ 2 _ _ _ HOB.out
      have z3 := cell_of_row _ _ 3 _ _ _ HOB.out
      have z4 := cell_of_row _ _ 4 _ _ _ HOB.out
      have z5 := cell_of_row _ _ 5 _ _ _ HOB.out
      have z6 := cell_of_row _ _ 6 _ _ _ HOB.out
      clear hx4
      go_upto_region 14 with fail
      go_wp2_with fail
      refine bodyPost_ret (results_v1 rfl _ _ (g + 1) _ rfl (lv26 (set7h _ _ _ _ _ _ _ hy4)) _ rfl) rfl ?_
      have hkp : ∀ T, T ≠ 26 → Keep T wr (set7 wr (g + 1) (.int .i64 mn) (.int .i64 mx) (.int .i64 rt) (.bool dn) (.int .i64 idle) (.int .i64 next) (.slice fA vn fc)) := fun T hT => set7k hy4 hT _ _ _ _ _ _ _
      refine ⟨_, _, vs, ps, rfl, fl_of_own (own_keep HVO.out (hkp 69 (by decide))) HVN.out (fun x hx => (HPP.out.2 x hx).keep (hkp 5 (by decide))), py_of_own (own_keep HPO.out (hkp 37 (by decide))) (fun x hx => (HPP.out.1 x hx).keep (hkp 5 (by decide))), ?_, ?_, set7b _ _ _ _ _ _ _ HBW.out (by omega)⟩
      · rw [HVS.out, HFT.out.2, HNU.out]
      · rw [HPS.out, HFT.out.1, HNU.out]
end Go.Proofs.Ytacpejoablcffaa
