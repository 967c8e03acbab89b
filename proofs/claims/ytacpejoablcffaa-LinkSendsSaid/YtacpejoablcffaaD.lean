/- A link with copies of flights. -/
import Derived.Test.YtacpejoablcffaaC
namespace Go.Proofs.Ytacpejoablcffaa
open Go.RowKit Go.Lib

abbrev set7 (w : World) (g : Nat) (v0 v1 v2 v3 v4 v5 v6 : Value) : World := ((((((w.setCell ⟨g, 0, none⟩ v0).setCell ⟨g, 1, none⟩ v1).setCell ⟨g, 2, none⟩ v2).setCell ⟨g, 3, none⟩ v3).setCell ⟨g, 4, none⟩ v4).setCell ⟨g, 5, none⟩ v5).setCell ⟨g, 6, none⟩ v6
theorem set7h {w : World} {g : Nat} {T : TypeId} {a0 a1 a2 a3 a4 a5 a6 : Value} (v0 v1 v2 v3 v4 v5 v6 : Value) (h : w.heap[g]? = some (.cells #[a0, a1, a2, a3, a4, a5, a6] T)) : (set7 w g v0 v1 v2 v3 v4 v5 v6).heap[g]? = some (.cells #[v0, v1, v2, v3, v4, v5, v6] T) :=
  box_set (box_set (box_set (box_set (box_set (box_set (box_set (cs := [a0, a1, a2, a3, a4, a5, a6]) h 0 v0) 1 v1) 2 v2) 3 v3) 4 v4) 5 v5) 6 v6
theorem set7o {w : World} {g k : Nat} (v0 v1 v2 v3 v4 v5 v6 : Value) (h : k ≠ g) : (set7 w g v0 v1 v2 v3 v4 v5 v6).heap[k]? = w.heap[k]? := by
  unfold set7
  rw [Below.heap_setCell _ _ _ _ h, Below.heap_setCell _ _ _ _ h, Below.heap_setCell _ _ _ _ h, Below.heap_setCell _ _ _ _ h, Below.heap_setCell _ _ _ _ h, Below.heap_setCell _ _ _ _ h, Below.heap_setCell _ _ _ _ h]
theorem set7b {B : Nat} {w0 w : World} {g : Nat} (v0 v1 v2 v3 v4 v5 v6 : Value) (h : Below B w0 w) (hg : B ≤ g) : Below B w0 (set7 w g v0 v1 v2 v3 v4 v5 v6) :=
  ((((((h.setCell (p := ⟨g, 0, none⟩) hg _).setCell (p := ⟨g, 1, none⟩) hg _).setCell (p := ⟨g, 2, none⟩) hg _).setCell (p := ⟨g, 3, none⟩) hg _).setCell (p := ⟨g, 4, none⟩) hg _).setCell (p := ⟨g, 5, none⟩) hg _).setCell (p := ⟨g, 6, none⟩) hg _
theorem set7r {w : World} {B E st n g : Nat} {v : Value} {xs : List Value} (v0 v1 v2 v3 v4 v5 v6 : Value) (h : w.ownsRow B E st v n xs) (hk : ∀ k, v.ownBlock = some k → k ≠ g) : (set7 w g v0 v1 v2 v3 v4 v5 v6).ownsRow B E st v n xs :=
  own_off (own_off (own_off (own_off (own_off (own_off (own_off h hk 0 v0) hk 1 v1) hk 2 v2) hk 3 v3) hk 4 v4) hk 5 v5) hk 6 v6
theorem lv26 {w : World} {g : Nat} {a0 a1 a2 a3 a4 a5 a6 : Value} (hg : w.heap[g]? = some (.cells #[a0, a1, a2, a3, a4, a5, a6] 26)) : (loadVar 26 ⟨g, 0, none⟩).run Try.prog w = .ok (.agg #[a0, a1, a2, a3, a4, a5, a6]) w := run_loadVar_row w g 26 26 #[a0, a1, a2, a3, a4, a5, a6] (0, 0) _ hg Try.underlying26 rfl rfl
theorem lv69 {w : World} {g : Nat} {a b c : Value} (hg : w.heap[g]? = some (.cells #[a, b, c] 69)) : (loadVar 69 ⟨g, 0, none⟩).run Try.prog w = .ok (.agg #[a, b, c]) w := run_loadVar_row w g 69 69 #[a, b, c] (0, 0) _ hg Try.underlying69 rfl rfl
/-- What a link with copies is. -/
def WithQ (w : World) (mn mx rt : Int) (dn : Bool) (idle next : Int) (l : List Fc) (e : Ending) (w' : World) : Prop :=
  ∃ (v : Value) (vs : List Fl), e = .returned (.agg #[.int .i64 mn, .int .i64 mx, .int .i64 rt, .bool dn, .int .i64 idle, .int .i64 next, v]) ∧ w'.ownsRow w.heap.size 69 3 v vs.length (vs.map cFl).flatten ∧ vs.map core = l ∧ (∀ x ∈ vs, Pay w' x) ∧ Below w.heap.size w w'
theorem map_cores {vs l : List Fl} (h : vs.map core = l.map core) : vs.length = l.length := by
  have := congrArg List.length h
  simpa using this
theorem set_core {vs : List Fl} {k : Nat} {x y : Fl} (h : vs[k]? = some x) (hc : core y = core x) : (vs.set k y).map core = vs.map core := by
  apply List.ext_getElem?
  intro i
  rw [List.getElem?_map, List.getElem?_map, List.getElem?_set]
  split
  · subst_vars
    obtain ⟨hk, he⟩ := List.getElem?_eq_some_iff.1 h
    rw [if_pos hk, h]
    simp [hc]
  · rfl
theorem set_flat {vs : List Fl} {k : Nat} {x : Fl} (h : vs[k]? = some x) (d : Value) : (vs.map cFl).flatten.set (k * 3 + 2) d = ((vs.set k ⟨x.t, x.n, d, x.p⟩).map cFl).flatten := by
  induction vs generalizing k with
  | nil => cases h
  | cons a t ih =>
    rcases k with _ | k
    · simp at h
      subst h
      rfl
    · have h' : t[k]? = some x := by simpa using h
      rw [List.set_cons_succ, List.map_cons, List.map_cons, List.flatten_cons, List.flatten_cons, ← ih h']
      rw [List.set_append]
      have hl : (cFl a).length = 3 := rfl
      rw [if_neg (by rw [hl]; omega), hl]
      congr 2
      omega
theorem take_set_snoc {α : Type} {vs : List α} {k : Nat} {x y : α} (h : vs[k]? = some x) : (vs.set k y).take (k + 1) = vs.take k ++ [y] := by
  have hk := (List.getElem?_eq_some_iff.1 h).1
  rw [List.take_succ_eq_append_getElem (by rw [List.length_set]; exact hk), List.take_set_of_le (Nat.le_refl _)]
  simp
theorem keep_ownset {T : TypeId} {w : World} {B E st n g c : Nat} {xs : List Value} (h : w.ownsRow B E st (.slice (some ⟨g, 0, none⟩) n c) n xs) (hT : T ≠ E) (i : Nat) (u : Value) : Keep T w (w.setCell ⟨g, i, none⟩ u) := fun q cs hq => by
  refine (Below.heap_setCell _ _ _ _ (fun e => ?_)).trans hq
  have e' : q = g := e
  subst e'
  rcases h.2 with ⟨e, _⟩ | ⟨k, cap, cur, e, hk, hgb, _⟩
  · cases e
  · injection e with e1
    injection e1 with e1
    injection e1 with e1
    subst e1
    rw [hgb] at hq
    cases hq
    exact hT rfl
theorem own_fr {w : World} {B E st n g c : Nat} {xs : List Value} (h : w.ownsRow B E st (.slice (some ⟨g, 0, none⟩) n c) n xs) (i : Nat) : w.frozen? ⟨g, i, none⟩ = false := by
  rcases h.2 with ⟨e, _⟩ | ⟨k, cap, cur, e, hk, hgb, _⟩
  · cases e
  · injection e with e1
    injection e1 with e1
    injection e1 with e1
    subst e1
    exact box_fr hgb i
set_option maxHeartbeats 4000000 in
set_option maxRecDepth 100000 in
theorem with_any (mn mx rt : Int) (dn : Bool) (idle next : Int) (fv : Value) (l : List Fl) (v : Value) (w : World) (hv : FL w v l) (hl : l.length ≤ 100000) (hb : ∀ x ∈ l, x.p.length ≤ 100000) :
    Calls Try.prog 38 #[.agg #[.int .i64 mn, .int .i64 mx, .int .i64 rt, .bool dn, .int .i64 idle, .int .i64 next, fv], v] w (WithQ w mn mx rt dn idle next (l.map core)) := by
  obtain ⟨N, hN⟩ : ∃ N, l.length = N := ⟨_, rfl⟩
  rw [hN] at hl
  obtain ⟨W1, hW1⟩ : ∃ W1, (w.alloc (.cells #[.int .i64 mn, .int .i64 mx, .int .i64 rt, .bool dn, .int .i64 idle, .int .i64 next, fv] 26)).alloc (.cells #[.int .i64 0, .int .i64 0, .int .i64 0, .bool false, .int .i64 0, .int .i64 0, .slice none 0 0] 26) = W1 := ⟨_, rfl⟩
  obtain ⟨g, hg⟩ : ∃ g, w.heap.size = g := ⟨_, rfl⟩
  have hb1 : Below w.heap.size w W1 := by rw [← hW1]; exact ((Below.refl _ w).alloc (Nat.le_refl _) _).alloc (by simp) _
  have hx1 : W1.heap[g]? = some (.cells #[.int .i64 mn, .int .i64 mx, .int .i64 rt, .bool dn, .int .i64 idle, .int .i64 next, fv] 26) := by rw [← hW1, ← hg]; exact (Below.heap_alloc _ _ _ (by simp)).trans (heap_alloc_new w _)
  have hy1 : W1.heap[g + 1]? = some (.cells #[.int .i64 0, .int .i64 0, .int .i64 0, .bool false, .int .i64 0, .int .i64 0, .slice none 0 0] 26) := by rw [← hW1, ← hg]; simpa using heap_alloc_new (w.alloc (.cells #[.int .i64 mn, .int .i64 mx, .int .i64 rt, .bool dn, .int .i64 idle, .int .i64 next, fv] 26)) (.cells #[.int .i64 0, .int .i64 0, .int .i64 0, .bool false, .int .i64 0, .int .i64 0, .slice none 0 0] 26)
  have hz1 : W1.heap.size = g + 2 := by rw [← hW1, ← hg]; simp
  have HV := hid hv
  have HN := hid hN
  have HPB := hid hb
  have HB1 := hid hb1
  have HX1 := hid hx1
  have HY1 := hid hy1
  have HZ1 := hid hz1
  have HW1 := hid hW1
  have HG := hid hg
  have HCL := hid (cloneF_any l v W1 (hv.below hb1) (by omega))
  clear hv hN hb hb1 hx1 hy1 hz1 hW1 hg
  go_enter Try.func38, Try.ntmps38
  go_wp2_with fail
  rw [HW1.out]
  refine HCL.out.mono ?_
  rintro e w2 ⟨v2, rfl, ho2, hb2⟩
  rw [HN.out] at ho2
  obtain ⟨A2, c2, rfl⟩ := own_form69 ho2
  have hx2 := (hb2.block _ (box_lt HX1.out)).trans HX1.out
  have hx3 : (w2.setCell ⟨g, 6, none⟩ (.slice A2 N c2)).heap[g]? = _ := box_set (cs := [.int .i64 mn, .int .i64 mx, .int .i64 rt, .bool dn, .int .i64 idle, .int .i64 next, fv]) hx2 6 (.slice A2 N c2)
  have HX3 : Hid ((w2.setCell ⟨g, 6, none⟩ (.slice A2 N c2)).heap[g]? = some (.cells #[.int .i64 mn, .int .i64 mx, .int .i64 rt, .bool dn, .int .i64 idle, .int .i64 next, .slice A2 N c2] 26)) := hid hx3
  have HY3 := hid ((Below.heap_setCell w2 ⟨g, 6, none⟩ (.slice A2 N c2) (g + 1) (show g + 1 ≠ g by omega)).trans ((hb2.block _ (box_lt HY1.out)).trans HY1.out))
  have HO3 := hid (own_base (own_off ho2 (x := g) (fun k e => by have := (ho2.lt k e).1; have := HZ1.out; omega) 6 (.slice A2 N c2)) (show g + 2 ≤ W1.heap.size by rw [HZ1.out]; omega))
  have HB3 : Hid (Below w.heap.size w (w2.setCell ⟨g, 6, none⟩ (.slice A2 N c2))) := hid ((HB1.out.trans (hb2.mono HB1.out.size)).setCell (p := ⟨g, 6, none⟩) (by rw [HG.out]; exact Nat.le_refl _) _)
  have x6 := cell_of_row _ _ 6 _ _ _ hx2
  have fx6 := box_fr hx2 6
  have x6' := cell_of_row _ _ 6 _ _ _ HX3.out
  clear ho2 hb2 hx2 hx3 HCL
  rw [HG.out]
  go_wp2_with fail
  go_loopw [13] (fun i wr => ∃ (k : Nat) (vs : List Fl), k ≤ N ∧ i = .int .i64 (k : Int) ∧ Hid (vs.length = N) ∧ Hid (vs.map core = l.map core) ∧ Hid (vs.drop k = l.drop k) ∧ Hid (wr.ownsRow (g + 2) 69 3 (.slice A2 N c2) N (vs.map cFl).flatten) ∧ Hid (∀ x ∈ vs.take k, Pay wr x) ∧ Hid (wr.heap[g]? = some (.cells #[.int .i64 mn, .int .i64 mx, .int .i64 rt, .bool dn, .int .i64 idle, .int .i64 next, .slice A2 N c2] 26)) ∧ Hid (wr.heap[g + 1]? = some (.cells #[.int .i64 0, .int .i64 0, .int .i64 0, .bool false, .int .i64 0, .int .i64 0, .slice none 0 0] 26)) ∧ Hid (Below w.heap.size w wr)) (fun i _ => N - (Lib.intOf i).toNat)
  case atStart => exact ⟨0, l, Nat.zero_le _, rfl, HN, hid rfl, hid rfl, HO3, hid (fun x hx => by simp at hx), HX3, HY3, HB3⟩
  case round =>
    obtain ⟨k, vs, hk, rfl, HM, HVS, HDR, HO, HP, HX, HY, HB⟩ := hrel
    clear x6 x6' fx6 HX3 HY3 HB3 HO3
    by_cases hkn : k < N
    · have hkn' : (k : Int) < (N : Int) := by omega
      obtain ⟨x, hx⟩ : ∃ x, l[k]? = some x := ⟨l[k]'(by rw [HN.out]; exact hkn), List.getElem?_eq_getElem _⟩
      have hvx : vs[k]? = some x := by
        have h := congrArg (fun z => z[0]?) HDR.out
        simp only [List.getElem?_drop, Nat.add_zero] at h
        rw [h, hx]
      obtain ⟨gA, rfl⟩ : ∃ gA, A2 = some ⟨gA, 0, none⟩ := by
        rcases HO.out.2 with ⟨e, h0⟩ | ⟨q, _, _, e, _⟩
        · omega
        · injection e with e1; exact ⟨q, e1⟩
      have hgA : g + 2 ≤ gA := (HO.out.lt gA rfl).1
      have hgL : gA < wr.heap.size := (HO.out.lt gA rfl).2
      have hflat : ∀ j u, (cFl x)[j]? = some u → (vs.map cFl).flatten[k * 3 + j]? = some u := fun j u hu => by
        have hr : (vs.map cFl)[k]? = some (cFl x) := by rw [List.getElem?_map, hvx]; rfl
        exact (flat_getG (st := 3) (fun r hr => by obtain ⟨s, hs, rfl⟩ := List.mem_map.1 hr; rfl) hr (by have := (List.getElem?_eq_some_iff.1 hu).1; exact this)).trans hu
      have q0 : wr.cell? ⟨gA, k * 3, none⟩ = some (.int .i64 x.t) := by
        exact (HO.out.cellAt (k * 3) (by omega)).trans (hflat 0 _ rfl)
      have q1 : wr.cell? ⟨gA, k * 3 + 1, none⟩ = some (.int .i64 x.n) := by
        exact (HO.out.cellAt (k * 3 + 1) (by omega)).trans (hflat 1 _ rfl)
      have q2 : wr.cell? ⟨gA, k * 3 + 2, none⟩ = some x.d := by
        exact (HO.out.cellAt (k * 3 + 2) (by omega)).trans (hflat 2 _ rfl)
      have hxb := (HV.out.below HB.out).1 x (List.mem_of_getElem? hx)
      have hxl := HPB.out x (List.mem_of_getElem? hx)
      have HVX := hid hvx
      have HFL := hid (hflat 2 _ rfl)
      clear hflat hx hvx
      obtain ⟨xt, xn, xd, xp⟩ := x
      dsimp only at q0 q1 q2 hxb hxl HFL
      obtain ⟨xA, xc, rfl⟩ := byt_form hxb.1
      obtain ⟨xm, hxm⟩ : ∃ xm, xp.length = xm := ⟨_, rfl⟩
      rw [hxm] at q2 hxb hxl HFL
      have HXM := hid hxm
      obtain ⟨W2, hW2⟩ : ∃ W2, wr.alloc (.cells #[.int .i64 xt, .int .i64 xn, .slice xA xm xc] 69) = W2 := ⟨_, rfl⟩
      obtain ⟨h, hh⟩ : ∃ h, wr.heap.size = h := ⟨_, rfl⟩
      have hb2 : Below wr.heap.size wr W2 := by rw [← hW2]; exact al1 _ _
      have hz2 : W2.heap.size = h + 1 := by rw [← hW2, ← hh]; simp
      have hy2 : W2.heap[h]? = some (.cells #[.int .i64 xt, .int .i64 xn, .slice xA xm xc] 69) := by rw [← hW2, ← hh]; exact heap_alloc_new _ _
      have HCL := hid (clone_any xp (.slice xA xm xc) W2.drew ((hxb.1.below hb2).below (Below.refl _ _).drew) hxb.2 (by omega))
      have H8 := hid hxb.1.1
      have HB2 := hid (HB.out.trans (hb2.mono HB.out.size))
      have HO2 := hid (own_keep HO.out (keep_below hb2))
      have HP2 := hid (fun x hx => (HP.out x hx).keep (keep_below hb2))
      have HX2 := hid ((hb2.block _ (box_lt HX.out)).trans HX.out)
      have HY2 := hid ((hb2.block _ (box_lt HY.out)).trans HY.out)
      have x6 := cell_of_row _ _ 6 _ _ _ HX.out
      have HQ2 := hid hy2
      have HZ2 := hid hz2
      have HW2 := hid hW2
      have HH := hid hh
      have n1 : gA ≠ g := by omega
      have n2 : g ≠ gA := by omega
      have n3 : gA ≠ h := by omega
      have n4 : h ≠ gA := by omega
      clear hxb hxm hb2 hz2 hy2 hW2 hh
      go_wp2_with fail
      rw [HW2.out, HH.out]
      have x6 := cell_of_row _ _ 6 _ _ _ HX2.out
      have y2 := cell_of_row _ _ 2 _ _ _ HQ2.out
      go_region_held3 (fun X => X.cell? ⟨g, 6, none⟩ = some (.slice (some ⟨gA, 0, none⟩) N c2) ∧ X.cell? ⟨h, 2, none⟩ = some (.slice xA xm xc)) (go_keep)
        (first | (go_at_call 49; refine HCL.out.mono ?_; rintro e w3 ⟨v3, rfl, ho3, hb3'⟩; obtain ⟨dA, dc, rfl⟩ := own_form ho3; rw [HXM.out] at ho3 ⊢; have hb3 : Below W2.heap.size W2 w3 := ⟨hb3'.os, hb3'.tape, hb3'.output, hb3'.size, hb3'.block⟩; have HQ3 := hid ho3; have HO3 := hid (own_keep HO2.out (keep_below hb3)); have HP3 := hid (fun x hx => (HP2.out x hx).keep (keep_below hb3)); have HX3 := hid ((hb3.block _ (box_lt HX2.out)).trans HX2.out); have HY3 := hid ((hb3.block _ (box_lt HY2.out)).trans HY2.out); have HG3 := hid ((hb3.block _ (box_lt HQ2.out)).trans HQ2.out); have HB3 := hid (HB2.out.trans (hb3.mono HB2.out.size)); have x6 := cell_of_row _ _ 6 _ _ _ HX3.out; have y2 := cell_of_row _ _ 2 _ _ _ HG3.out; have q2 := (HO3.out.cellAt (k * 3 + 2) (by omega)).trans HFL.out; have fg := own_fr HO3.out (k * 3 + 2); clear ho3 hb3 hb3'))
      have HO4 := hid (own_put HO3.out (k * 3 + 2) (.slice dA xm dc))
      have hkp : Keep 5 w3 (w3.setCell ⟨gA, k * 3 + 2, none⟩ (.slice dA xm dc)) := keep_ownset HO3.out (by decide) _ _
      have HP4 := hid (fun x hx => (HP3.out x hx).keep hkp)
      have HQ4 := hid (own_keep HQ3.out hkp)
      have HX4 := hid ((Below.heap_setCell w3 ⟨gA, k * 3 + 2, none⟩ (.slice dA xm dc) g n2).trans HX3.out)
      have HY4 := hid ((Below.heap_setCell w3 ⟨gA, k * 3 + 2, none⟩ (.slice dA xm dc) (g + 1) (show g + 1 ≠ gA by omega)).trans HY3.out)
      have HB4 : Hid (Below w.heap.size w (w3.setCell ⟨gA, k * 3 + 2, none⟩ (.slice dA xm dc))) := hid (HB3.out.setCell (p := ⟨gA, k * 3 + 2, none⟩) (by rw [HG.out]; show g ≤ gA; omega) _)
      clear x6 y2 q2 fg hkp
      go_wp2_with fail
      go_roundw
      case rel =>
        refine ⟨k + 1, vs.set k ⟨xt, xn, .slice dA xm dc, xp⟩, by omega, by go_num, hid (by rw [List.length_set, HM.out]), hid ((set_core (y := ⟨xt, xn, .slice dA xm dc, xp⟩) HVX.out rfl).trans HVS.out), hid ?_, hid (by have h := HO4.out; rw [set_flat HVX.out] at h; exact h), hid (fun x hx => ?_), HX4, HY4, HB4⟩
        · rw [List.drop_set_of_lt (by omega)]
          have h := congrArg (List.drop 1) HDR.out
          rwa [List.drop_drop, List.drop_drop] at h
        · rw [take_set_snoc HVX.out] at hx
          rcases List.mem_append.1 hx with hx | hx
          · exact HP4.out x hx
          · rw [List.mem_singleton] at hx
            subst hx
            exact ⟨⟨_, by dsimp only; rw [HXM.out]; have h := HQ4.out; exact h⟩, H8.out⟩
      case measure => simp [Lib.intOf]; omega
    · obtain rfl : k = N := by omega
      have x0 := cell_of_row _ _ 0 _ _ _ HX.out
      have x1 := cell_of_row _ _ 1 _ _ _ HX.out
      have x2 := cell_of_row _ _ 2 _ _ _ HX.out
      have x3 := cell_of_row _ _ 3 _ _ _ HX.out
      have x4 := cell_of_row _ _ 4 _ _ _ HX.out
      have x5 := cell_of_row _ _ 5 _ _ _ HX.out
      have x6 := cell_of_row _ _ 6 _ _ _ HX.out
      have y0 := cell_of_row _ _ 0 _ _ _ HY.out
      have y1 := cell_of_row _ _ 1 _ _ _ HY.out
      have y2 := cell_of_row _ _ 2 _ _ _ HY.out
      have y3 := cell_of_row _ _ 3 _ _ _ HY.out
      have y4 := cell_of_row _ _ 4 _ _ _ HY.out
      have y5 := cell_of_row _ _ 5 _ _ _ HY.out
      have y6 := cell_of_row _ _ 6 _ _ _ HY.out
      have f0 := box_fr HY.out 0
      have f1 := box_fr HY.out 1
      have f2 := box_fr HY.out 2
      have f3 := box_fr HY.out 3
      have f4 := box_fr HY.out 4
      have f5 := box_fr HY.out 5
      have f6 := box_fr HY.out 6
      go_wp2_with fail
      refine bodyPost_ret (results_cell_row rfl _ _ (g + 1) 26 #[.int .i64 mn, .int .i64 mx, .int .i64 rt, .bool dn, .int .i64 idle, .int .i64 next, .slice A2 k c2] (0, 0) _ rfl (set7h _ _ _ _ _ _ _ HY.out) Try.underlying26 rfl rfl) rfl ?_
      have hne : ∀ q, (Value.slice A2 k c2).ownBlock = some q → q ≠ g + 1 := fun q e => by have := (HO.out.lt q e).1; omega
      refine ⟨_, vs, rfl, ?_, HVS.out, fun x hx => ?_, ?_⟩
      · rw [HM.out]
        exact own_base (set7r _ _ _ _ _ _ _ HO.out hne) (by rw [HG.out]; omega)
      · refine (HP.out x (by rw [List.take_of_length_le (by rw [HM.out]; exact Nat.le_refl _)]; exact hx)).keep (fun q cs hq => (set7o _ _ _ _ _ _ _ (fun e => ?_)).trans hq)
        subst e
        rw [HY.out] at hq
        cases hq
      · exact set7b _ _ _ _ _ _ _ HB.out (by rw [HG.out]; omega)
end Go.Proofs.Ytacpejoablcffaa
