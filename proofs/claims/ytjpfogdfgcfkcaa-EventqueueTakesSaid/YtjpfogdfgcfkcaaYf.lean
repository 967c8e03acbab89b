/- The reference's Cancel and Due. -/
import Derived.Test.YtjpfogdfgcfkcaaYe
namespace Go.Proofs.Ytjpfogdfgcfkcaa
open Go.RowKit Go.Lib

/-- The events v that came in, or a row of one's own. -/
def Gd (v : Value) (l : List Ev) (w : World) (u : Value) (vs : List Ev) : Prop := (u = v ∧ vs = l) ∨ ((∃ B n, w.ownsRow B 32 5 u n (vs.map cEv).flatten ∧ vs.length = n) ∧ ∀ x ∈ vs, Pay w x)
theorem Gd.el {v u : Value} {l vs : List Ev} {w : World} (h : Gd v l w u vs) (hv : EL w v l) : EL w u vs := by
  rcases h with ⟨rfl, rfl⟩ | ⟨⟨B, n, h1, h2⟩, h3⟩
  · exact hv
  · exact el_of_own h1 h2 h3
theorem Gd.below {v u : Value} {l vs : List Ev} {w w' : World} (h : Gd v l w u vs) (hb : Below w.heap.size w w') : Gd v l w' u vs := by
  rcases h with h | ⟨⟨B, n, h1, h2⟩, h3⟩
  · exact .inl h
  · exact .inr ⟨⟨B, n, own_keep h1 (keep_below hb), h2⟩, fun x hx => (h3 x hx).keep (keep_below hb)⟩
theorem Gd.set2 {v u a b : Value} {l vs : List Ev} {w : World} {g : Nat} (h : Gd v l w u vs) (hg : w.heap[g]? = some (.cells #[a, b] 24)) (v0 v1 : Value) : Gd v l (set2 w g v0 v1) u vs := by
  rcases h with h | ⟨⟨B, n, h1, h2⟩, h3⟩
  · exact .inl h
  · exact .inr ⟨⟨B, n, set2r _ _ h1 (own_ne h1 hg (by decide)), h2⟩, fun x hx => (h3 x hx).keep (fun k cs hk => (set2o _ _ (fun e => by rw [e, hg] at hk; cases hk)).trans hk)⟩
/-- What Cancel answers. -/
def CQ (v : Value) (l : List Ev) (w : World) (r : List Ec × Bool) (next : Int) (e : Ending) (w' : World) : Prop := ∃ u vs, e = .returned (.tuple #[.agg #[u, .int .i64 next], .bool r.2]) ∧ Gd v l w' u vs ∧ vs.map core = r.1 ∧ Below w.heap.size w w'
/-- What Due answers. -/
def DQ (v : Value) (l : List Ev) (w : World) (L D : List Ec) (next : Int) (e : Ending) (w' : World) : Prop := ∃ u vs z ds, e = .returned (.tuple #[.agg #[u, .int .i64 next], z]) ∧ Gd v l w' u vs ∧ vs.map core = L ∧ Gd v l w' z ds ∧ ds.map core = D ∧ Below w.heap.size w w'
theorem cancelP_any (l : List Ev) (v : Value) (next num : Int) (w : World) (hv : EL w v l) (hr : ∀ x ∈ l, R64 x.n) (hl : l.length ≤ 100000) (hb : ∀ x ∈ l, x.p.length ≤ 100000) :
    Calls Try.prog 22 #[.agg #[v, .int .i64 next], .int .i64 num] w (CQ v l w (cancelS (l.map core) next num) next) := by
  refine (cancel_any l v next num w hv hr hl hb).mono ?_
  rintro e w' ⟨q, rfl, u, vs, rfl, h4, h5, h6, h7⟩
  exact ⟨u, vs, rfl, .inr ⟨⟨_, _, h4, rfl⟩, h6⟩, h5, h7⟩
theorem dueP_any (l : List Ev) (v : Value) (next t : Int) (w : World) (hv : EL w v l) (hr : ∀ x ∈ l, R64 x.n) (hl : l.length ≤ 100000) (hb : ∀ x ∈ l, x.p.length ≤ 100000) :
    Calls Try.prog 24 #[.agg #[v, .int .i64 next], .int .i64 t] w (DQ v l w ((l.map core).drop (dueN (l.map core) next t)) ((l.map core).take (dueN (l.map core) next t)) next) := by
  refine (due_any l v next t w hv hr hl hb).mono ?_
  rintro e w' ⟨q, z, ds, rfl, ⟨u, vs, rfl, h4, h5, h6, h7⟩, h8, h9, h10⟩
  exact ⟨u, vs, z, ds, rfl, .inr ⟨⟨_, _, h4, rfl⟩, h6⟩, h5, .inr ⟨⟨_, _, h8, rfl⟩, h10⟩, h9, h7⟩
theorem erase_map {α β : Type} (f : α → β) (l : List α) (i : Nat) : (l.eraseIdx i).map f = (l.map f).eraseIdx i := by
  rw [List.eraseIdx_eq_take_drop_succ, List.eraseIdx_eq_take_drop_succ, List.map_append, List.map_take, List.map_drop]
theorem cancel_err {l : List Ec} {next num : Int} (h : chk l next ≠ 0) : cancelS l next num = (l, false) := by unfold cancelS; rw [if_pos h]
theorem cancel_no {l : List Ec} {next num : Int} (h : chk l next = 0) (hs : seenE l num = false) : cancelS l next num = (l, false) := by unfold cancelS; rw [if_neg (by simp [h]), if_neg (by simp [hs])]
theorem cancel_at {l : List Ec} {next num : Int} {k : Nat} {x : Ec} (h : chk l next = 0) (hs : seenE (l.take k) num = false) (hx : l[k]? = some x) (hn : x.2.1 = num) : cancelS l next num = (l.eraseIdx k, true) := by
  have h1 : cnl num l = l.eraseIdx k := by
    rw [cnl_at hx hn (fun y hy e => by have : seenE (l.take k) num = true := List.any_eq_true.2 ⟨y, hy, decide_eq_true e⟩; rw [hs] at this; cases this), List.eraseIdx_eq_take_drop_succ]
  unfold cancelS
  rw [if_neg (by simp [h]), if_pos (seen_of hx hn), h1]

set_option maxHeartbeats 4000000 in
set_option maxRecDepth 100000 in
theorem refCancel_any (l : List Ev) (v : Value) (next num : Int) (w : World) (hv : EL w v l) (hl : l.length ≤ 100000) (hb : ∀ x ∈ l, x.p.length ≤ 100000) :
    Calls Try.prog 23 #[.agg #[v, .int .i64 next], .int .i64 num] w (CQ v l w (cancelS (l.map core) next num) next) := by
  obtain ⟨A, c, rfl⟩ := el_form hv
  obtain ⟨N, hN⟩ : ∃ N, l.length = N := ⟨_, rfl⟩
  rw [hN] at hv hl ⊢
  obtain ⟨W1, hW1⟩ : ∃ W1, (w.alloc (.cells #[.slice A N c, .int .i64 next] 24)).alloc (.cells #[.slice none 0 0, .int .i64 0] 24) = W1 := ⟨_, rfl⟩
  obtain ⟨g, hg⟩ : ∃ g, w.heap.size = g := ⟨_, rfl⟩
  have hb1 : Below w.heap.size w W1 := by rw [← hW1]; exact ((Below.refl _ w).alloc (Nat.le_refl _) _).alloc (by simp) _
  have hx1 : W1.heap[g]? = some (.cells #[.slice A N c, .int .i64 next] 24) := by rw [← hW1, ← hg]; exact (Below.heap_alloc _ _ _ (by simp)).trans (heap_alloc_new w _)
  have hy1 : W1.heap[g + 1]? = some (.cells #[.slice none 0 0, .int .i64 0] 24) := by rw [← hW1, ← hg]; simpa using heap_alloc_new (w.alloc (.cells #[.slice A N c, .int .i64 next] 24)) (.cells #[.slice none 0 0, .int .i64 0] 24)
  have x0 : W1.cell? ⟨g, 0, none⟩ = some (.slice A N c) := cell_of_row _ _ 0 _ _ _ hx1
  have x1 : W1.cell? ⟨g, 1, none⟩ = some (.int .i64 next) := cell_of_row _ _ 1 _ _ _ hx1
  have HV := hid hv
  have HN := hid hN
  have HPB := hid hb
  have HB1 := hid hb1
  have HX1 := hid hx1
  have HY1 := hid hy1
  have HW1 := hid hW1
  have HG := hid hg
  have HCK := hid (refCheck_any l _ next W1 (hv.below hb1))
  obtain ⟨ck, hck⟩ : ∃ ck, chk (l.map core) next = ck := ⟨_, rfl⟩
  rw [hck] at HCK
  have HCE := hid hck
  have HWO := hid (fun (k : Nat) (X : World) (hX : Below w.heap.size w X) => without_any l _ next k X (hv.below hX) (by rw [hN]; exact hl) hb)
  clear hv hN hb hb1 hx1 hy1 hW1 hg hck
  go_enter Try.func23, Try.ntmps23
  go_wp2_with fail
  rw [HW1.out, HG.out]
  refine HCK.out.mono ?_
  rintro e w2 ⟨rfl, hb2⟩
  have HX2 := hid ((hb2.block _ (box_lt HX1.out)).trans HX1.out)
  have HY2 := hid ((hb2.block _ (box_lt HY1.out)).trans HY1.out)
  have HB2 := hid (HB1.out.trans (hb2.mono HB1.out.size))
  clear hb2 HCK x0 x1
  by_cases hc0 : ck ≠ 0
  · have d1 : (ck != 0) = true := by rw [bne_iff_ne]; exact hc0
    have HQ : Hid (cancelS (l.map core) next num = (l.map core, false)) := hid (cancel_err (by rw [HCE.out]; exact hc0))
    have x0 := cell_of_row _ _ 0 _ _ _ HX2.out
    have x1 := cell_of_row _ _ 1 _ _ _ HX2.out
    have y0 := cell_of_row _ _ 0 _ _ _ HY2.out
    have y1 := cell_of_row _ _ 1 _ _ _ HY2.out
    have fy0 := box_fr HY2.out 0
    have fy1 := box_fr HY2.out 1
    clear hc0
    go_wp2_with fail
    refine bodyPost_ret (results_v_tmp rfl _ _ (g + 1) _ rfl (lv24 (set2h _ _ HY2.out)) _ rfl) rfl ?_
    have hbf := set2b (.slice A N c) (.int .i64 next) HB2.out (show w.heap.size ≤ g + 1 by rw [HG.out]; omega)
    exact ⟨.slice A N c, l, by rw [HQ.out]; rfl, (.inl ⟨rfl, rfl⟩), by rw [HQ.out], hbf⟩
  have hc0' : ck = 0 := Classical.not_not.1 hc0
  subst hc0'
  clear hc0
  go_wp2_with fail
  go_loopw [6] (fun i wr => ∃ k : Nat, k ≤ N ∧ i = .int .i64 (k : Int) ∧ Hid (seenE ((l.map core).take k) num = false) ∧ Hid (wr.heap[g]? = some (.cells #[.slice A N c, .int .i64 next] 24)) ∧ Hid (wr.heap[g + 1]? = some (.cells #[.slice none 0 0, .int .i64 0] 24)) ∧ Hid (Below w.heap.size w wr)) (fun i _ => N - (Lib.intOf i).toNat)
  case atStart => exact ⟨0, Nat.zero_le _, rfl, hid rfl, HX2, HY2, HB2⟩
  case round =>
    obtain ⟨k, hk, rfl, HS, HX, HY, HB⟩ := hrel
    have x0 := cell_of_row _ _ 0 _ _ _ HX.out
    have x1 := cell_of_row _ _ 1 _ _ _ HX.out
    by_cases hkn : k < N
    · have hkn' : (k : Int) < (N : Int) := by omega
      obtain ⟨b, off, rfl, hblw, hc⟩ := el_cells HV.out (by rw [HN.out]; omega)
      obtain ⟨x, hx⟩ : ∃ x, l[k]? = some x := ⟨l[k]'(by rw [HN.out]; exact hkn), List.getElem?_eq_getElem _⟩
      obtain ⟨_, p1, _, _, _⟩ := hc k x hx
      have hxc : (l.map core)[k]? = some (core x) := by rw [List.getElem?_map, hx]; rfl
      have q1 := (HB.out.cell (p := ⟨b, off + k * 5 + 1, none⟩) hblw).trans p1
      have HXC := hid hxc
      clear hc hx hxc p1
      obtain ⟨xt, xn, xk, xo, xd, xp⟩ := x
      dsimp only at q1
      by_cases hnn : xn = num
      · have e1 : (xn == num) = true := by rw [beq_iff_eq]; exact hnn
        have HQ : Hid (cancelS (l.map core) next num = ((l.map core).eraseIdx k, true)) := hid (cancel_at HCE.out HS.out HXC.out hnn)
        clear hnn HXC
        go_wp2_with fail
        refine (HWO.out k wr HB.out).mono ?_
        rintro e w3 ⟨q, rfl, u, vs, rfl, ho3, hc3, hp3, hb3⟩
        obtain ⟨uA, uc, rfl⟩ := own_form32 ho3
        have hy3 := (hb3.block _ (box_lt HY.out)).trans HY.out
        have y0 := cell_of_row _ _ 0 _ _ _ hy3
        have y1 := cell_of_row _ _ 1 _ _ _ hy3
        have fy0 := box_fr hy3 0
        have fy1 := box_fr hy3 1
        have HY3 := hid hy3
        have HO3 := hid ho3
        have HC3 := hid hc3
        have HP3 := hid hp3
        have HB3 := hid (HB.out.trans (hb3.mono HB.out.size))
        clear hy3 ho3 hc3 hp3 hb3
        go_wp2_with fail
        refine bodyPost_ret (results_v_tmp rfl _ _ (g + 1) _ rfl (lv24 (set2h _ _ HY3.out)) _ rfl) rfl ?_
        have hbf := set2b (.slice uA vs.length uc) (.int .i64 next) HB3.out (show w.heap.size ≤ g + 1 by rw [HG.out]; omega)
        have hel : Gd (.slice (some ⟨b, off, none⟩) N c) l (set2 w3 (g + 1) (.slice uA vs.length uc) (.int .i64 next)) (.slice uA vs.length uc) vs := .inr ⟨⟨_, _, set2r _ _ HO3.out (own_ne HO3.out HY3.out (by decide)), rfl⟩, (fun x hx => (HP3.out x hx).keep (fun j cs hj => (set2o _ _ (fun e => by rw [e, HY3.out] at hj; cases hj)).trans hj))⟩
        exact ⟨.slice uA vs.length uc, vs, by rw [HQ.out]; rfl, hel, by rw [HQ.out, HC3.out]; exact erase_map .., hbf⟩
      · have e1 : (xn == num) = false := by rw [beq_eq_false_iff_ne]; exact hnn
        have HS' : Hid (seenE ((l.map core).take (k + 1)) num = false) := hid (by rw [take_succ'' HXC.out, seen_snoc, HS.out, Bool.false_or]; exact decide_eq_false hnn)
        clear hnn HXC
        go_wp2_with fail
        go_roundw
        case rel => exact ⟨k + 1, by omega, by go_num, HS', HX, HY, HB⟩
        case measure => simp [Lib.intOf]; omega
    · obtain rfl : k = N := by omega
      have HQ : Hid (cancelS (l.map core) next num = (l.map core, false)) := hid (cancel_no HCE.out (by have h := HS.out; rw [List.take_of_length_le (by rw [List.length_map, HN.out]; omega)] at h; exact h))
      have y0 := cell_of_row _ _ 0 _ _ _ HY.out
      have y1 := cell_of_row _ _ 1 _ _ _ HY.out
      have fy0 := box_fr HY.out 0
      have fy1 := box_fr HY.out 1
      go_wp2_with fail
      refine bodyPost_ret (results_v_tmp rfl _ _ (g + 1) _ rfl (lv24 (set2h _ _ HY.out)) _ rfl) rfl ?_
      have hbf := set2b (.slice A k c) (.int .i64 next) HB.out (show w.heap.size ≤ g + 1 by rw [HG.out]; omega)
      exact ⟨.slice A k c, l, by rw [HQ.out]; rfl, (.inl ⟨rfl, rfl⟩), by rw [HQ.out], hbf⟩

theorem own_beside {w w' : World} {B E st n : Nat} {v : Value} {xs : List Value} {o : Option Nat} (h : w.ownsRow B E st v n xs) (hg : w.grownBy w' o) (hne : ∀ k, v.ownBlock = some k → some k ≠ o) : w'.ownsRow B E st v n xs := by
  refine ⟨h.1, ?_⟩
  rcases h.2 with h0 | ⟨k, cap, cur, e, hb, hgb, h2⟩
  · exact .inl h0
  · exact .inr ⟨k, cap, cur, e, hb, (hg.block k (box_lt hgb) (hne k (by rw [e]; rfl))).trans hgb, h2⟩
theorem unt_ge {l : List Ec} {t next : Int} {k : Nat} {x : Ec} (hok : chk l next = 0) (hk : unt l t ≤ k) (hx : l[k]? = some x) : t < x.1 := by
  obtain ⟨_, _, _, _, h5⟩ := chk_ok hok
  have hkl := (List.getElem?_eq_some_iff.1 hx).1
  obtain ⟨y, hy⟩ : ∃ y, l[unt l t]? = some y := ⟨l[unt l t]'(by omega), List.getElem?_eq_getElem _⟩
  have h1 := unt_at hy
  rcases Nat.lt_or_ge (unt l t) k with h | h
  · obtain ⟨a1, a2⟩ := List.getElem?_eq_some_iff.1 hy
    obtain ⟨b1, b2⟩ := List.getElem?_eq_some_iff.1 hx
    have h6 := (List.pairwise_iff_getElem.1 h5) _ k a1 b1 h
    rw [a2, b2] at h6
    unfold ltE at h6
    omega
  · obtain rfl : unt l t = k := by omega
    rw [hy] at hx
    injection hx with hx
    rw [← hx]; exact h1

set_option maxHeartbeats 8000000 in
set_option maxRecDepth 100000 in
theorem refDue_any (l : List Ev) (v : Value) (next t : Int) (w : World) (hv : EL w v l) (hl : l.length ≤ 100000) (hb : ∀ x ∈ l, x.p.length ≤ 100000) :
    Calls Try.prog 25 #[.agg #[v, .int .i64 next], .int .i64 t] w (DQ v l w ((l.map core).drop (dueN (l.map core) next t)) ((l.map core).take (dueN (l.map core) next t)) next) := by
  obtain ⟨A, c, rfl⟩ := el_form hv
  obtain ⟨N, hN⟩ : ∃ N, l.length = N := ⟨_, rfl⟩
  rw [hN] at hv hl ⊢
  obtain ⟨W1, hW1⟩ : ∃ W1, (w.alloc (.cells #[.slice A N c, .int .i64 next] 24)).alloc (.cells #[.slice none 0 0, .int .i64 0] 24) = W1 := ⟨_, rfl⟩
  obtain ⟨g, hg⟩ : ∃ g, w.heap.size = g := ⟨_, rfl⟩
  have hb1 : Below w.heap.size w W1 := by rw [← hW1]; exact ((Below.refl _ w).alloc (Nat.le_refl _) _).alloc (by simp) _
  have hx1 : W1.heap[g]? = some (.cells #[.slice A N c, .int .i64 next] 24) := by rw [← hW1, ← hg]; exact (Below.heap_alloc _ _ _ (by simp)).trans (heap_alloc_new w _)
  have hy1 : W1.heap[g + 1]? = some (.cells #[.slice none 0 0, .int .i64 0] 24) := by rw [← hW1, ← hg]; simpa using heap_alloc_new (w.alloc (.cells #[.slice A N c, .int .i64 next] 24)) (.cells #[.slice none 0 0, .int .i64 0] 24)
  have hz1 : W1.heap.size = g + 2 := by rw [← hW1, ← hg]; simp
  have x0 : W1.cell? ⟨g, 0, none⟩ = some (.slice A N c) := cell_of_row _ _ 0 _ _ _ hx1
  have x1 : W1.cell? ⟨g, 1, none⟩ = some (.int .i64 next) := cell_of_row _ _ 1 _ _ _ hx1
  have HV := hid hv
  have HN := hid hN
  have HPB := hid hb
  have HB1 := hid hb1
  have HX1 := hid hx1
  have HY1 := hid hy1
  have HZ1 := hid hz1
  have HW1 := hid hW1
  have HG := hid hg
  have HCK := hid (refCheck_any l _ next W1 (hv.below hb1))
  obtain ⟨ck, hck⟩ : ∃ ck, chk (l.map core) next = ck := ⟨_, rfl⟩
  rw [hck] at HCK
  have HCE := hid hck
  clear hv hN hb hb1 hx1 hy1 hW1 hg hck hz1
  go_enter Try.func25, Try.ntmps25
  go_wp2_with fail
  rw [HW1.out, HG.out]
  refine HCK.out.mono ?_
  rintro e w2 ⟨rfl, hb2⟩
  have HX2 := hid ((hb2.block _ (box_lt HX1.out)).trans HX1.out)
  have HY2 := hid ((hb2.block _ (box_lt HY1.out)).trans HY1.out)
  have HB2 := hid (HB1.out.trans (hb2.mono HB1.out.size))
  have hz2 : g + 2 ≤ w2.heap.size := by rw [← HZ1.out]; exact hb2.size
  clear hb2 HCK x0 x1
  have x0 := cell_of_row _ _ 0 _ _ _ HX2.out
  have x1 := cell_of_row _ _ 1 _ _ _ HX2.out
  by_cases hc0 : ck ≠ 0
  · have d1 : (ck != 0) = true := by rw [bne_iff_ne]; exact hc0
    have HQ : Hid (dueN (l.map core) next t = 0) := hid (by unfold dueN; rw [if_neg (by rw [HCE.out]; exact hc0)])
    have y0 := cell_of_row _ _ 0 _ _ _ HY2.out
    have y1 := cell_of_row _ _ 1 _ _ _ HY2.out
    have fy0 := box_fr HY2.out 0
    have fy1 := box_fr HY2.out 1
    clear hc0
    go_wp2_with fail
    refine bodyPost_ret (results_v_tmp rfl _ _ (g + 1) _ rfl (lv24 (set2h _ _ HY2.out)) _ rfl) rfl ?_
    have hbf := set2b (.slice A N c) (.int .i64 next) HB2.out (show w.heap.size ≤ g + 1 by rw [HG.out]; omega)
    exact ⟨_, l, _, [], rfl, (.inl ⟨rfl, rfl⟩), by rw [HQ.out]; rfl, .inr ⟨⟨0, 0, World.ownsRow_nil _ _ _ _, rfl⟩, fun x hx => by cases hx⟩, by rw [HQ.out]; rfl, hbf⟩
  have hc0' : ck = 0 := Classical.not_not.1 hc0
  subst hc0'
  clear hc0
  obtain ⟨u, hu⟩ : ∃ u, dueN (l.map core) next t = u := ⟨_, rfl⟩
  have hu2 : unt (l.map core) t = u := by rw [← hu]; unfold dueN; rw [if_pos HCE.out]
  have huN : u ≤ N := by rw [← hu2]; have := unt_le (l.map core) t; rw [List.length_map, HN.out] at this; exact this
  have HU := hid hu2
  have HDU := hid hu
  have hkl := (chk_ok HCE.out).1
  rw [List.length_map, HN.out] at hkl
  clear hu hu2
  obtain ⟨W4, hW4⟩ : ∃ W4, w2.alloc (.cells #[.slice none 0 0, .int .i64 next] 24) = W4 := ⟨_, rfl⟩
  obtain ⟨h, hh⟩ : ∃ h, w2.heap.size = h := ⟨_, rfl⟩
  have hb4 : Below w2.heap.size w2 W4 := by rw [← hW4]; exact al1 _ _
  have HZ4 : Hid (W4.heap[h]? = some (.cells #[.slice none 0 0, .int .i64 next] 24)) := hid (by rw [← hW4, ← hh]; exact heap_alloc_new _ _)
  have HX4 := hid ((hb4.block _ (box_lt HX2.out)).trans HX2.out)
  have HY4 := hid ((hb4.block _ (box_lt HY2.out)).trans HY2.out)
  have HB4 := hid (HB2.out.trans (hb4.mono HB2.out.size))
  have hz4 : W4.heap.size = h + 1 := by rw [← hW4, ← hh]; simp
  have hgh : g + 2 ≤ h := by omega
  have HZS := hid hz4
  have HW4 := hid hW4
  have HH := hid hh
  clear hb4 hz4 hW4 hh
  go_wp2_with fail
  rw [HW4.out, HH.out]
  clear x0 x1
  go_loopw [7, 8] (fun dv i wr => ∃ (k m dm : Nat) (uA : Option Addr) (uc : Nat) (vs ds : List Ev) (B : Nat), k ≤ N ∧ i = .int .i64 (k : Int) ∧ Hid (vs.length = m) ∧ Hid (m ≤ k) ∧ Hid (ds.length = dm) ∧ Hid (dm ≤ k) ∧ Hid (k ≤ u → m = 0 ∧ uA = none ∧ uc = 0) ∧ Hid (ds.map core = ((l.map core).take k).take u) ∧ Hid (vs.map core = ((l.map core).take k).drop u) ∧ Hid (wr.heap[g]? = some (.cells #[.slice A N c, .int .i64 next] 24)) ∧ Hid (wr.heap[g + 1]? = some (.cells #[.slice none 0 0, .int .i64 0] 24)) ∧ Hid (wr.heap[h]? = some (.cells #[.slice uA m uc, .int .i64 next] 24)) ∧ Hid (wr.ownsRow w.heap.size 32 5 dv dm (ds.map cEv).flatten) ∧ Hid (wr.ownsRow B 32 5 (.slice uA m uc) m (vs.map cEv).flatten) ∧ Hid (∀ j, dv.ownBlock = some j → j < B) ∧ Hid (w.heap.size ≤ B) ∧ Hid (B ≤ wr.heap.size) ∧ Hid (∀ x ∈ vs, Pay wr x) ∧ Hid (∀ x ∈ ds, Pay wr x) ∧ Hid (Below w.heap.size w wr)) (fun _ i _ => N - (Lib.intOf i).toNat)
  case atStart => exact ⟨0, 0, 0, none, 0, [], [], W4.heap.size, Nat.zero_le _, rfl, hid rfl, hid (Nat.le_refl _), hid rfl, hid (Nat.le_refl _), hid (fun _ => ⟨rfl, rfl, rfl⟩), hid (by simp), hid (by simp), HX4, HY4, HZ4, hid (World.ownsRow_nil _ _ _ _), hid (World.ownsRow_nil _ _ _ _), hid (fun j e => by cases e), hid HB4.out.size, hid (Nat.le_refl _), hid (fun x hx => by cases hx), hid (fun x hx => by cases hx), HB4⟩
  case round =>
    obtain ⟨k, m, dm, uA, uc, vs, ds, B, hk, rfl, HM, HMK, HDM, HDK, HNI, HDS, HVS, HX, HR, HY, HD, HO, HDB, HWB, HBW, HP, HPD, HB⟩ := hrel
    clear HX4 HY4 HZ4 HB4 HX1 HY1 HX2 HY2
    obtain ⟨dA, dc, rfl⟩ := own_form32 HD.out
    have x0 := cell_of_row _ _ 0 _ _ _ HX.out
    have y0 := cell_of_row _ _ 0 _ _ _ HY.out
    have y1 := cell_of_row _ _ 1 _ _ _ HY.out
    by_cases hkn : k < N
    · have hkn' : (k : Int) < (N : Int) := by omega
      obtain ⟨b, off, rfl, hblw, hc⟩ := el_cells HV.out (by rw [HN.out]; omega)
      obtain ⟨x, hx⟩ : ∃ x, l[k]? = some x := ⟨l[k]'(by rw [HN.out]; exact hkn), List.getElem?_eq_getElem _⟩
      obtain ⟨p0, p1, p2, p3, p4⟩ := hc k x hx
      have hxb := HV.out.1 x (List.mem_of_getElem? hx)
      have hxl := HPB.out x (List.mem_of_getElem? hx)
      have hxc : (l.map core)[k]? = some (core x) := by rw [List.getElem?_map, hx]; rfl
      have HXC := hid hxc
      have HTK := hid (take_succ'' hxc)
      have hlt : ((l.map core).take k).length = k := by rw [List.length_take]; have := (List.getElem?_eq_some_iff.1 hxc).1; omega
      have HLT := hid hlt
      have hmk := HMK.out
      have hdk := HDK.out
      clear hc hx hxc hlt
      obtain ⟨xt, xn, xk, xo, xd, xp⟩ := x
      dsimp only at p0 p1 p2 p3 p4 hxb hxl
      have HCE2 := hid (fun (X : World) (hX : Below w.heap.size w X) => refCopy_any xt xn xk xo xd xp X (hxb.1.below hX) hxb.2 (by omega))
      have H8 := hid hxb.1.1
      clear hxb
      by_cases huk : k < u
      · have hle : decide (xt ≤ t) = true := decide_eq_true (unt_lt (l := l.map core) (t := t) (k := k) (by rw [HU.out]; exact huk) HXC.out)
        obtain ⟨rfl, rfl, rfl⟩ := HNI.out (by omega)
        have hvs0 : vs = [] := List.eq_nil_of_length_eq_zero HM.out
        subst hvs0
        have hbl := Nat.lt_of_lt_of_le hblw HB.out.size
        have q0 := (HB.out.cell (p := ⟨b, off + k * 5, none⟩) hblw).trans p0
        have q1 := (HB.out.cell (p := ⟨b, off + k * 5 + 1, none⟩) hblw).trans p1
        have q2 := (HB.out.cell (p := ⟨b, off + k * 5 + 2, none⟩) hblw).trans p2
        have q3 := (HB.out.cell (p := ⟨b, off + k * 5 + 3, none⟩) hblw).trans p3
        have q4 := (HB.out.cell (p := ⟨b, off + k * 5 + 4, none⟩) hblw).trans p4
        have HDS' : Hid (ds.map core ++ [core ⟨xt, xn, xk, xo, xd, xp⟩] = ((l.map core).take (k + 1)).take u) := hid (by
          have h1 : ((l.map core).take k).take u = (l.map core).take k := List.take_of_length_le (by rw [HLT.out]; omega)
          have h2 : ((l.map core).take k ++ [core ⟨xt, xn, xk, xo, xd, xp⟩]).take u = (l.map core).take k ++ [core ⟨xt, xn, xk, xo, xd, xp⟩] := List.take_of_length_le (by rw [List.length_append, HLT.out]; simp; omega)
          rw [HDS.out, h1, HTK.out, h2])
        have HVS' : Hid (([] : List Ev).map core = ((l.map core).take (k + 1)).drop u) := hid (by
          rw [List.drop_eq_nil_of_le (by rw [HTK.out, List.length_append, HLT.out]; simp; omega)]; rfl)
        clear HXC
        go_wp2_with fail
        refine (HCE2.out wr HB.out).mono ?_
        rintro e w3 ⟨eA, ec, rfl, ho3, hb3⟩
        have HX3 := hid ((hb3.block _ (box_lt HX.out)).trans HX.out)
        have HR3 := hid ((hb3.block _ (box_lt HR.out)).trans HR.out)
        have HY3 := hid ((hb3.block _ (box_lt HY.out)).trans HY.out)
        have HD3 := hid (own_keep HD.out (keep_below hb3))
        have HPD3 := hid (fun x hx => (HPD.out x hx).keep (keep_below hb3))
        have HQ3 := hid ho3
        have HB3 := hid (HB.out.trans (hb3.mono HB.out.size))
        clear hb3 ho3 x0 y0 y1 q0 q1 q2 q3 q4
        go_wp2_with (at_builtin; refine append_ev rfl (.tmp 31) (.tmp 38) rfl w.heap.size (.slice dA dm dc) dm _ rfl (own_keep HD3.out (keep_below (al1 _ _))) [.int .i64 xt, .int .i64 xn, .int .i64 xk, .int .i64 xo, .slice eA xp.length ec] rfl (ev_one _ _ _ _ _ _ _) ⟨w3.heap.size, 0, none⟩ 1 rfl (fun j u hu => by rw [add_at, cell_of_row _ _ _ _ _ _ (heap_alloc_new _ _)]; simpa using hu) (by omega) (Nat.le_trans HB3.out.size (al1 _ _).size) ?_; intro v4 w4 ho4 hg4; have hbw := al1 w3 (.cells #[.int .i64 xt, .int .i64 xn, .int .i64 xk, .int .i64 xo, .slice eA xp.length ec] 32); have how := own_keep HD3.out (keep_below hbw); have hbT := HB3.out.trans (hbw.mono HB3.out.size); have HB4 := hid (hbT.grown hg4 hbT.size (fun k e => (how.lt k e).1)); have HPD4 := hid (fun x hx => ((HPD3.out x hx).keep (keep_below hbw)).keep (keep_grown (T := 5) how (by decide) hg4)); have HQ4 := hid (own_keep (own_keep HQ3.out (keep_below hbw)) (keep_grown (T := 5) how (by decide) hg4)); have HX4 := hid (keep_grown (T := 24) how (by decide) hg4 _ _ ((hbw.block _ (box_lt HX3.out)).trans HX3.out)); have HR4 := hid (keep_grown (T := 24) how (by decide) hg4 _ _ ((hbw.block _ (box_lt HR3.out)).trans HR3.out)); have HY4 := hid (keep_grown (T := 24) how (by decide) hg4 _ _ ((hbw.block _ (box_lt HY3.out)).trans HY3.out)); obtain ⟨a4, c4, rfl⟩ := own_form32 ho4; have HO4 := hid ho4; clear ho4 hg4 how hbT hbw)
        go_roundw
        case rel => exact ⟨k + 1, 0, dm + 1, none, 0, [], ds ++ [⟨xt, xn, xk, xo, .slice eA xp.length ec, xp⟩], w4.heap.size, by omega, by go_num, hid rfl, hid (by omega), hid (by rw [List.length_append, HDM.out]; rfl), hid (by omega), hid (fun _ => ⟨rfl, rfl, rfl⟩), hid (by rw [List.map_append, ← HDS'.out]; rfl), HVS', HX4, HR4, HY4, hid (by rw [List.map_append, List.flatten_append]; simpa [cEv] using HO4.out), hid (World.ownsRow_nil _ _ _ _), hid (fun j e => (HO4.out.lt j e).2), hid HB4.out.size, hid (Nat.le_refl _), hid (fun x hx => by cases hx), hid (fun x hx => (List.mem_append.1 hx).elim (HPD4.out x) (fun hx => by rw [List.mem_singleton] at hx; subst hx; exact ⟨⟨_, HQ4.out⟩, H8.out⟩)), HB4⟩
        case measure => simp [Lib.intOf]; omega
      · have hle : decide (xt ≤ t) = false := decide_eq_false (by have := unt_ge (k := k) (t := t) HCE.out (by rw [HU.out]; omega) HXC.out; dsimp only [core] at this; omega)
        have hbl := Nat.lt_of_lt_of_le hblw HB.out.size
        have q0 := (HB.out.cell (p := ⟨b, off + k * 5, none⟩) hblw).trans p0
        have q1 := (HB.out.cell (p := ⟨b, off + k * 5 + 1, none⟩) hblw).trans p1
        have q2 := (HB.out.cell (p := ⟨b, off + k * 5 + 2, none⟩) hblw).trans p2
        have q3 := (HB.out.cell (p := ⟨b, off + k * 5 + 3, none⟩) hblw).trans p3
        have q4 := (HB.out.cell (p := ⟨b, off + k * 5 + 4, none⟩) hblw).trans p4
        have HDS' : Hid (ds.map core = ((l.map core).take (k + 1)).take u) := hid (by
          rw [HDS.out, HTK.out, List.take_append_of_le_length (by rw [HLT.out]; omega)])
        have HVS' : Hid (vs.map core ++ [core ⟨xt, xn, xk, xo, xd, xp⟩] = ((l.map core).take (k + 1)).drop u) := hid (by
          rw [HVS.out, HTK.out, List.drop_append_of_le_length (by rw [HLT.out]; omega)])
        have HCE := HCE2
        clear HXC
        go_wp2_with fail
        have HKra := hid (fun (X : World) (hX : Below wr.heap.size wr X) => And.intro ((hX.cell (p := ⟨h, 0, none⟩) (box_lt HY.out)).trans y0) (And.intro ((hX.cell (p := ⟨g, 0, none⟩) (box_lt HX.out)).trans x0) (And.intro ((hX.cell (p := ⟨b, off + k * 5, none⟩) hbl).trans q0) (And.intro ((hX.cell (p := ⟨b, off + k * 5 + 1, none⟩) hbl).trans q1) (And.intro ((hX.cell (p := ⟨b, off + k * 5 + 2, none⟩) hbl).trans q2) (And.intro ((hX.cell (p := ⟨b, off + k * 5 + 3, none⟩) hbl).trans q3) ((hX.cell (p := ⟨b, off + k * 5 + 4, none⟩) hbl).trans q4)))))))
        refine region_tail 9 (fun X => X.cell? ⟨h, 0, none⟩ = some (.slice uA m uc) ∧ X.cell? ⟨g, 0, none⟩ = some (.slice (some ⟨b, off, none⟩) N c) ∧ X.cell? ⟨b, off + k * 5, none⟩ = some (.int .i64 xt) ∧ X.cell? ⟨b, off + k * 5 + 1, none⟩ = some (.int .i64 xn) ∧ X.cell? ⟨b, off + k * 5 + 2, none⟩ = some (.int .i64 xk) ∧ X.cell? ⟨b, off + k * 5 + 3, none⟩ = some (.int .i64 xo) ∧ X.cell? ⟨b, off + k * 5 + 4, none⟩ = some xd) (by kernel_rfl) ?_
        obtain ⟨X0, hX0⟩ : ∃ X, wr.drew = X := ⟨_, rfl⟩
        have hB0 : Below wr.heap.size wr X0 := by rw [← hX0]; exact (Below.refl wr.heap.size wr).drew
        have hHeld := HKra.out X0 hB0
        rw [hX0]
        clear hX0
        refine' wpAnyT_take (i := 0) (oi := ?oira0) (v := ?vra0) ?hira0 (by kernel_rfl) (by kernel_rfl) ?hqra0 ?hyra0 hHeld ?restra0
        case hira0 => (simp only [List.getElem?_toArray, List.getElem?_cons_zero]; rfl)
        case hqra0 => exact fun _ _ _ h => h
        case hyra0 => (refine Or.inl ⟨by rfl, ?_⟩; intro w' hSw; (try dsimp only at hSw); go_simp; try with_reducible rfl)
        (try simp only [Act.put, List.setIfInBounds_toArray, List.set_cons_zero, List.set_cons_succ])
        refine' wpAnyT_take (i := 1) (oi := ?oira1) (v := ?vra1) ?hira1 (by kernel_rfl) (by kernel_rfl) ?hqra1 ?hyra1 hHeld ?restra1
        case hira1 => (simp only [List.getElem?_toArray, List.getElem?_cons_zero, List.getElem?_cons_succ]; rfl)
        case hqra1 => exact fun _ _ _ h => h
        case hyra1 => (refine Or.inl ⟨by rfl, ?_⟩; intro w' hSw; (try dsimp only at hSw); go_simp; try with_reducible rfl)
        (try simp only [Act.put, List.setIfInBounds_toArray, List.set_cons_zero, List.set_cons_succ])
        refine' wpAnyT_take (i := 2) (oi := ?oira2) (v := ?vra2) ?hira2 (by kernel_rfl) (by kernel_rfl) ?hqra2 ?hyra2 hHeld ?restra2
        case hira2 => (simp only [List.getElem?_toArray, List.getElem?_cons_zero, List.getElem?_cons_succ]; rfl)
        case hqra2 => exact fun _ _ _ h => h
        case hyra2 => (refine Or.inl ⟨by rfl, ?_⟩; intro w' hSw; (try dsimp only at hSw); go_simp; try with_reducible rfl)
        (try simp only [Act.put, List.setIfInBounds_toArray, List.set_cons_zero, List.set_cons_succ])
        refine' wpAnyT_take (i := 3) (oi := ?oira3) (v := ?vra3) ?hira3 (by kernel_rfl) (by kernel_rfl) ?hqra3 ?hyra3 hHeld ?restra3
        case hira3 => (simp only [List.getElem?_toArray, List.getElem?_cons_zero, List.getElem?_cons_succ]; rfl)
        case hqra3 => exact fun _ _ _ h => h
        case hyra3 => (refine Or.inl ⟨by rfl, ?_⟩; intro w' hSw; (try dsimp only at hSw); go_simp; try with_reducible rfl)
        (try simp only [Act.put, List.setIfInBounds_toArray, List.set_cons_zero, List.set_cons_succ])
        refine' wpAnyT_take (i := 4) (oi := ?oira4) (v := ?vra4) ?hira4 (by kernel_rfl) (by kernel_rfl) ?hqra4 ?hyra4 hHeld ?restra4
        case hira4 => (simp only [List.getElem?_toArray, List.getElem?_cons_zero, List.getElem?_cons_succ]; rfl)
        case hqra4 => exact fun _ _ _ h => h
        case hyra4 => (refine Or.inl ⟨by rfl, ?_⟩; intro w' hSw; (try dsimp only at hSw); go_simp; try with_reducible rfl)
        (try simp only [Act.put, List.setIfInBounds_toArray, List.set_cons_zero, List.set_cons_succ])
        refine' wpAnyT_take (i := 5) (oi := ?oira5) (v := ?vra5) ?hira5 (by kernel_rfl) (by kernel_rfl) ?hqra5 ?hyra5 hHeld ?restra5
        case hira5 => (simp only [List.getElem?_toArray, List.getElem?_cons_zero, List.getElem?_cons_succ]; rfl)
        case hqra5 => exact fun _ _ _ h => h
        case hyra5 => (refine Or.inl ⟨by rfl, ?_⟩; intro w' hSw; (try dsimp only at hSw); go_simp; try with_reducible rfl)
        (try simp only [Act.put, List.setIfInBounds_toArray, List.set_cons_zero, List.set_cons_succ])
        refine' wpAnyT_take (i := 6) (oi := ?oira6) (v := ?vra6) ?hira6 (by kernel_rfl) (by kernel_rfl) ?hqra6 ?hyra6 hHeld ?restra6
        case hira6 => (simp only [List.getElem?_toArray, List.getElem?_cons_zero, List.getElem?_cons_succ]; rfl)
        case hqra6 => exact fun _ _ _ h => h
        case hyra6 => (refine Or.inl ⟨by rfl, ?_⟩; intro w' hSw; (try dsimp only at hSw); go_simp; try with_reducible rfl)
        (try simp only [Act.put, List.setIfInBounds_toArray, List.set_cons_zero, List.set_cons_succ])
        refine' wpAnyT_one (i := 7) (o := ?oira7) (by kernel_rfl) ?hira7 (fun K hK => ?stra7)
        case hira7 => (simp only [List.getElem?_toArray, List.getElem?_cons_zero, List.getElem?_cons_succ]; rfl)
        go_simp
        go_at_call 36
        refine (HCE.out X0 (HB.out.trans (hB0.mono HB.out.size))).mono ?_
        rintro e w3 ⟨dA', dc', rfl, ho3, hb3⟩
        have hbw3 := hB0.trans (hb3.mono hB0.size)
        have hHeld2 := HKra.out w3 hbw3
        go_simp
        refine hK.out _ _ (fun _ => hHeld2) ?_
        clear hK K
        (try simp only [Act.put, List.setIfInBounds_toArray, List.set_cons_zero, List.set_cons_succ])
        refine' wpAnyT_one (i := 8) (o := ?oira8) (by kernel_rfl) ?hira8 (fun K hK => ?stra8)
        case hira8 => (simp only [List.getElem?_toArray, List.getElem?_cons_zero, List.getElem?_cons_succ]; rfl)
        go_simp
        obtain ⟨W4, hW4⟩ : ∃ W4, w3.alloc (.cells #[.int .i64 xt, .int .i64 xn, .int .i64 xk, .int .i64 xo, .slice dA' xp.length dc'] 32) = W4 := ⟨_, rfl⟩
        rw [hW4]
        have hb4 : Below w3.heap.size w3 W4 := by rw [← hW4]; exact al1 _ _
        have hbw4 := hbw3.trans (hb4.mono hbw3.size)
        have hHeld3 := HKra.out W4 hbw4
        have hc4 := heap_alloc_new w3 (.cells #[.int .i64 xt, .int .i64 xn, .int .i64 xk, .int .i64 xo, .slice dA' xp.length dc'] 32)
        rw [hW4] at hc4
        refine hK.out _ _ (fun _ => hHeld3) ?_
        clear hK K
        (try simp only [Act.put, List.setIfInBounds_toArray, List.set_cons_zero, List.set_cons_succ])
        refine' wpAnyT_one (i := 9) (o := ?oira9) (by kernel_rfl) ?hira9 (fun K hK => ?stra9)
        case hira9 => (simp only [List.getElem?_toArray, List.getElem?_cons_zero, List.getElem?_cons_succ]; rfl)
        refine step_append_ev rfl (.tmp 41) (.tmp 48) rfl B (.slice uA m uc) m _ (by simp [Act.eval]) (own_keep HO.out (keep_below hbw4)) [.int .i64 xt, .int .i64 xn, .int .i64 xk, .int .i64 xo, .slice dA' xp.length dc'] rfl (ev_one _ _ _ _ _ _ _) ⟨w3.heap.size, 0, none⟩ 1 (by simp [Act.eval]) (fun j u hu => by rw [add_at, cell_of_row _ _ _ _ _ _ hc4]; simpa using hu) (by omega) (Nat.le_trans HBW.out hbw4.size) ?_
        intro v5 w5 ho5 hg5
        have how := own_keep HO.out (keep_below hbw4)
        have hbT := (HB.out.trans (hbw4.mono HB.out.size))
        have HB5 := hid (hbT.grown hg5 hbT.size (fun k e => by have := (how.lt k e).1; have := HWB.out; omega))
        have HP5 := hid (fun x hx => ((HP.out x hx).keep (keep_below hbw4)).keep (keep_grown (T := 5) how (by decide) hg5))
        have HQ5 := hid (own_keep (own_keep ho3 (keep_below hb4)) (keep_grown (T := 5) how (by decide) hg5))
        have hY5 := keep_grown (T := 24) how (by decide) hg5 _ _ ((hbw4.block _ (box_lt HY.out)).trans HY.out)
        have HD5 := hid (own_beside (own_keep HD.out (keep_below hbw4)) hg5 (fun j e e2 => by have h1 := HDB.out j e; have h2 := (how.lt j e2.symm).1; omega))
        have HPD5 := hid (fun x hx => ((HPD.out x hx).keep (keep_below hbw4)).keep (keep_grown (T := 5) how (by decide) hg5))
        have HK24 := hid (show Keep 24 wr w5 from (keep_below hbw4).trans (keep_grown (T := 24) how (by decide) hg5))
        have HS5 := hid (Nat.le_trans hbw4.size hg5.size)
        obtain ⟨a5, c5, rfl⟩ := own_form32 ho5
        have HY5 := hid hY5
        have HO5 := hid ho5
        clear ho5 hg5 how hY5 hbT hc4 hHeld3 hHeld2 hHeld
        refine hK.out _ _ (fun h => absurd h (by decide)) ?_
        clear hK K
        (try simp only [Act.put, List.setIfInBounds_toArray, List.set_cons_zero, List.set_cons_succ])
        refine' wpAnyT_one (i := 10) (o := ?oira10) (by kernel_rfl) ?hira10 (fun K hK => ?stra10)
        case hira10 => (simp only [List.getElem?_toArray, List.getElem?_cons_zero, List.getElem?_cons_succ]; rfl)
        go_simp
        refine hK.out _ _ (fun h => absurd h (by decide)) ?_
        clear hK K
        (try simp only [Act.put, List.setIfInBounds_toArray, List.set_cons_zero, List.set_cons_succ])
        have y0 := cell_of_row _ _ 0 _ _ _ HY5.out
        have fy0 := box_fr HY5.out 0
        refine' wpAnyT_one (i := 11) (o := ?oira11) (by kernel_rfl) ?hira11 (fun K hK => ?stra11)
        case hira11 => (simp only [List.getElem?_toArray, List.getElem?_cons_zero, List.getElem?_cons_succ]; rfl)
        go_simp
        refine hK.out _ _ (fun h => absurd h (by decide)) ?_
        clear hK K
        (try simp only [Act.put, List.setIfInBounds_toArray, List.set_cons_zero, List.set_cons_succ])
        refine wpAnyT_done (by kernel_rfl) ?_ _
        have hX5 := HK24.out _ _ HX.out
        have hR5 := HK24.out _ _ HR.out
        have hy6 := box_set (cs := [.slice uA m uc, .int .i64 next]) HY5.out 0 (.slice a5 (m + 1) c5)
        have hne := own_ne HO5.out HY5.out (by decide)
        have HX6 := hid ((Below.heap_setCell w5 ⟨h, 0, none⟩ (.slice a5 (m + 1) c5) g (show g ≠ h by omega)).trans hX5)
        have HR6 := hid ((Below.heap_setCell w5 ⟨h, 0, none⟩ (.slice a5 (m + 1) c5) (g + 1) (show g + 1 ≠ h by omega)).trans hR5)
        have HY6 := hid hy6
        have HO6 := hid (own_off HO5.out hne 0 (.slice a5 (m + 1) c5))
        have HD6 := hid (own_off HD5.out (own_ne HD5.out HY5.out (by decide)) 0 (.slice a5 (m + 1) c5))
        have hks : Keep 5 w5 (w5.setCell ⟨h, 0, none⟩ (.slice a5 (m + 1) c5)) := fun k cs hk => (Below.heap_setCell _ _ _ _ (fun e => by rw [show k = h from e, HY5.out] at hk; cases hk)).trans hk
        have HP6 := hid (fun x hx => (HP5.out x hx).keep hks)
        have HPD6 := hid (fun x hx => (HPD5.out x hx).keep hks)
        have HQ6 := hid (own_keep HQ5.out hks)
        have HB6 := hid (HB5.out.setCell (p := ⟨h, 0, none⟩) (by rw [HG.out]; show g ≤ h; omega) (.slice a5 (m + 1) c5))
        have HBW6 : Hid (B ≤ (w5.setCell ⟨h, 0, none⟩ (.slice a5 (m + 1) c5)).heap.size) := hid (by have h := Nat.le_trans HBW.out HS5.out; simpa [World.setCell] using h)
        clear hX5 hR5 hy6 hne hks y0 fy0
        go_wp2_with fail
        go_roundw
        case rel => exact ⟨k + 1, m + 1, dm, a5, c5, vs ++ [⟨xt, xn, xk, xo, .slice dA' xp.length dc', xp⟩], ds, B, by omega, by go_num, hid (by rw [List.length_append, HM.out]; rfl), hid (by omega), HDM, hid (by omega), hid (fun h => by omega), HDS', hid (by rw [List.map_append, ← HVS'.out]; rfl), HX6, HR6, HY6, HD6, hid (by rw [List.map_append, List.flatten_append]; simpa [cEv] using HO6.out), HDB, HWB, HBW6, hid (fun x hx => (List.mem_append.1 hx).elim (HP6.out x) (fun hx => by rw [List.mem_singleton] at hx; subst hx; exact ⟨⟨_, HQ6.out⟩, H8.out⟩)), HPD6, HB6⟩
        case measure => simp [Lib.intOf]; omega
    · obtain rfl : k = N := by omega
      have hall : (l.map core).take k = l.map core := List.take_of_length_le (by rw [List.length_map, HN.out]; omega)
      have HVA : Hid (vs.map core = (l.map core).drop (dueN (l.map core) next t)) := hid (by rw [HVS.out, hall, HDU.out])
      have HDA : Hid (ds.map core = (l.map core).take (dueN (l.map core) next t)) := hid (by rw [HDS.out, hall, HDU.out])
      clear hall
      have r0 := cell_of_row _ _ 0 _ _ _ HR.out
      have r1 := cell_of_row _ _ 1 _ _ _ HR.out
      have fr0 := box_fr HR.out 0
      have fr1 := box_fr HR.out 1
      go_wp2_with fail
      refine bodyPost_ret (results_v_tmp rfl _ _ (g + 1) _ rfl (lv24 (set2h _ _ HR.out)) _ rfl) rfl ?_
      have hk5 : Keep 5 wr (set2 wr (g + 1) (.slice uA m uc) (.int .i64 next)) := fun j cs hj => (set2o _ _ (fun e => by rw [e, HR.out] at hj; cases hj)).trans hj
      refine ⟨_, vs, _, ds, rfl, (.inr ⟨⟨_, _, set2r _ _ HO.out (own_ne HO.out HR.out (by decide)), HM.out⟩, fun x hx => (HP.out x hx).keep hk5⟩), HVA.out, (.inr ⟨⟨_, _, set2r _ _ HD.out (own_ne HD.out HR.out (by decide)), HDM.out⟩, fun x hx => (HPD.out x hx).keep hk5⟩), HDA.out, set2b _ _ HB.out (by rw [HG.out]; omega)⟩
end Go.Proofs.Ytjpfogdfgcfkcaa
