/- The reference's Extents. -/
import Derived.Test.YtbifhcjkdfocaaaDoorZe
import Derived.OwnWalk
import Derived.Laws.AppendOwn
import Derived.Laws.OwnMore
import Derived.OneCell
namespace Go.Proofs.YtbifhcjkdfocaaaDoor
open Go.RowKit

theorem info39 : (Tryd.prog.info? 39).map (fun i => (i.zero, i.size, i.bytes)) = some (some (.agg #[.int .i64 0, .int .i64 0]), 2, 16) := by kernel_rfl
def enc2 (e : Int × Int) : List Value := [.int .i64 e.1, .int .i64 e.2]
def xflat (l : List (Int × Int)) : List Value := l.flatMap enc2
theorem xflat_length (l : List (Int × Int)) : (xflat l).length = l.length * 2 := by
  induction l with
  | nil => rfl
  | cons e r ih => simp only [xflat, List.flatMap_cons, List.length_append, List.length_cons] at ih ⊢; simp [enc2, ih]; omega
theorem xflat_append (a b : List (Int × Int)) : xflat (a ++ b) = xflat a ++ xflat b := by simp [xflat]
theorem xflat_get (l : List (Int × Int)) (i c : Nat) (hc : c < 2) : (xflat l)[i * 2 + c]? = (l[i]?).bind fun e => (enc2 e)[c]? := by
  induction l generalizing i with
  | nil => simp [xflat]
  | cons e r ih =>
    have hsplit : xflat (e :: r) = enc2 e ++ xflat r := by simp [xflat]
    rw [hsplit]
    cases i with
    | zero =>
      rw [List.getElem?_append_left (by simp [enc2]; omega)]
      simp
    | succ i =>
      rw [List.getElem?_append_right (by simp [enc2]; omega)]
      have : (i + 1) * 2 + c - (enc2 e).length = i * 2 + c := by simp [enc2]; omega
      rw [this, ih]
      simp
theorem xflat_set (m : List (Int × Int)) (s c d : Int) : (xflat (m ++ [(s, c)])).set (m.length * 2 + 1) (.int .i64 d) = xflat (m ++ [(s, d)]) := by
  have h := xflat_length m
  rw [xflat_append, xflat_append, List.set_append_right _ _ (by omega)]
  have e : m.length * 2 + 1 - (xflat m).length = 1 := by omega
  rw [e]
  rfl
theorem ext_of_own {w : World} {base : Nat} {v : Value} {l : List (Int × Int)} (h : w.ownsRow base 39 2 v l.length (xflat l)) (hr : ∀ e ∈ l, R64 e.1 ∧ R64 e.2) : Ext w v l := by
  refine ⟨hr, ?_⟩
  rcases h.2 with ⟨rfl, hn⟩ | ⟨g, cap, cur, rfl, hb, hcur, hcap, hcm, hs, ht⟩
  · have hl : l = [] := List.eq_nil_of_length_eq_zero hn
    subst hl
    exact ⟨none, 0, rfl, Nat.le_refl _, by unfold maxLen; omega, 0, 0, fun h => absurd h (by simp), fun i e h => by simp at h⟩
  · refine ⟨some ⟨g, 0, none⟩, cap, rfl, hcap, hcm, g, 0, fun _ => ⟨rfl, (h.lt g rfl).2⟩, fun i e hi => ?_⟩
    have hl := (List.getElem?_eq_some_iff.1 hi).1
    have h0 := h.cellAt (i * 2) (by omega)
    have h1 := h.cellAt (i * 2 + 1) (by omega)
    have x0 := xflat_get l i 0 (by omega)
    have x1 := xflat_get l i 1 (by omega)
    rw [Nat.add_zero] at x0
    rw [x0, hi] at h0
    rw [x1, hi] at h1
    simp only [Nat.zero_add]
    exact ⟨h0, h1⟩
theorem own_form {w : World} {base n : Nat} {v : Value} {xs : List Value} (h : w.ownsRow base 39 2 v n xs) : ∃ A cap, v = .slice A n cap := by
  rcases h.2 with ⟨rfl, rfl⟩ | ⟨g, cap, cur, rfl, _⟩
  · exact ⟨none, 0, rfl⟩
  · exact ⟨_, _, rfl⟩
theorem own_last {w : World} {base j : Nat} {v : Value} {m : List (Int × Int)} {s c : Int} (h : w.ownsRow base 39 2 v (j + 1) (xflat (m ++ [(s, c)]))) (hj : m.length = j) : ∃ g cap, v = .slice (some ⟨g, 0, none⟩) (j + 1) cap ∧ base ≤ g ∧ g < w.heap.size ∧
    w.cell? ⟨g, j * 2, none⟩ = some (.int .i64 s) ∧ w.cell? ⟨g, j * 2 + 1, none⟩ = some (.int .i64 c) ∧ (∀ i, w.frozen? ⟨g, i, none⟩ = false) ∧
    ∀ d : Int, (w.setCell ⟨g, j * 2 + 1, none⟩ (.int .i64 d)).ownsRow base 39 2 (.slice (some ⟨g, 0, none⟩) (j + 1) cap) (j + 1) (xflat (m ++ [(s, d)])) := by
  subst hj
  rcases h.2 with ⟨_, h0⟩ | ⟨g, cap, cur, rfl, _⟩
  · omega
  · have hlt := h.lt g rfl
    have h0 := h.cellAt (m.length * 2) (by omega)
    have h1 := h.cellAt (m.length * 2 + 1) (by omega)
    have x0 := xflat_get (m ++ [(s, c)]) m.length 0 (by omega)
    have x1 := xflat_get (m ++ [(s, c)]) m.length 1 (by omega)
    rw [Nat.add_zero] at x0
    rw [List.getElem?_append_right (Nat.le_refl _)] at x0 x1
    refine ⟨g, cap, rfl, hlt.1, hlt.2, by rw [h0, x0]; simp [enc2], by rw [h1, x1]; simp [enc2], h.frozenAt, fun d => ?_⟩
    have := (h.stored (m.length * 2 + 1) (.int .i64 d)).1
    rw [xflat_set] at this
    exact this
theorem cells_new (W : World) (t : TypeId) (cs : List Value) : ∀ (j : Nat) (u : Value), cs[j]? = some u → (W.alloc (.cells cs.toArray t)).cell? ((⟨W.heap.size, 0, none⟩ : Addr).add j) = some u := by
  intro j u hj
  have e : (⟨W.heap.size, 0, none⟩ : Addr).add j = ⟨W.heap.size, j, none⟩ := by unfold Addr.add; split <;> simp_all
  rw [e, cell_of_row _ _ _ _ _ _ (heap_alloc_new W _)]
  simpa using hj
theorem one_cells (s n : Int) : ∀ u ∈ xflat [(s, n)], u.oneCell' = true := by
  intro u hu
  simp only [xflat, enc2, List.flatMap_cons, List.flatMap_nil, List.append_nil, List.mem_cons, List.not_mem_nil, or_false] at hu
  rcases hu with rfl | rfl <;> rfl
theorem ext_ret {base : Nat} {w' : World} {v : Value} {l : List (Int × Int)} {s : Int} {ws : List Nat} (h : w'.ownsRow base 39 2 v l.length (xflat l)) (e : l = exts s ws) (hr : ∀ x ∈ l, 0 ≤ x.1 ∧ 1 ≤ x.2 ∧ x.1 + x.2 ≤ 4096) : Ext w' v (exts s ws) := by
  rw [← e]
  exact ext_of_own h (fun x hx => by have := hr x hx; unfold R64; omega)
theorem own_below {w w' : World} {base n : Nat} {v : Value} {xs : List Value} (h : w.ownsRow base 39 2 v n xs) (hb : Below w.heap.size w w') : w'.ownsRow base 39 2 v n xs := by
  refine h.kept (row := none) ⟨hb.os, hb.tape, hb.output, hb.size, fun k hk _ => hb.block k hk⟩ ?_
  cases v.ownBlock with
  | none => exact .inl rfl
  | some g => exact .inr (fun e => by cases e)
theorem own_drewN {w : World} {base n : Nat} {v : Value} {xs : List Value} (h : w.ownsRow base 39 2 v n xs) (q : Nat) : (w.drewN q).ownsRow base 39 2 v n xs := h
theorem own_new {w' : World} {base n : Nat} {v : Value} {L : List (Int × Int)} {k : Nat} (h : w'.ownsRow base 39 2 v (n + 1) (xflat L ++ xflat [((k : Int), 1)])) : w'.ownsRow base 39 2 v (n + 1) (xflat (L ++ [((k : Int), 1)])) := by
  rw [xflat_append]; exact h
theorem below_own {B : Nat} {W w w' : World} {n : Nat} {v : Value} {xs : List Value} {o : Obj} {base : Nat} (h : Below B W w) (hw : w.ownsRow base 39 2 v n xs) (hg : (w.alloc o).grownBy w' v.ownBlock) (hB : B ≤ w.heap.size) (hb : B ≤ base) : Below B W w' :=
  (h.alloc hB o).grown hg (by simp; omega) (fun k e => by have := (hw.lt k e).1; omega)
/-- What is known of a list of extents at a number k. -/
structure At (p : Nat → Bool) (k n : Nat) (L : List (Int × Int)) : Prop where
  runs : Runs p k L
  eq : L = extsOf (elsL p 0 k)
  len : L.length = n
theorem at_start (p : Nat → Bool) : At p 0 0 [] := ⟨runs_start p, rfl, rfl⟩
theorem at_no {p : Nat → Bool} {k n : Nat} {L : List (Int × Int)} (h : At p k n L) (hk : p k = false) : At p (k + 1) n L :=
  ⟨runs_no h.runs hk, by rw [elsL_snoc, if_neg (by rw [hk]; decide), List.append_nil]; exact h.eq, h.len⟩
theorem at_yes {p : Nat → Bool} {k n n' : Nat} {L L' : List (Int × Int)} (h : At p k n L) (hk : p k = true) (e : addE L k = L') (hn : L'.length = n') : At p (k + 1) n' L' :=
  ⟨by rw [← e]; exact runs_yes h.runs hk, by rw [elsL_snoc, if_pos hk, extsOf_snoc, ← h.eq]; exact e.symm, hn⟩

set_option maxHeartbeats 4000000 in
set_option maxRecDepth 100000 in
theorem refExtents_any (s : Int) (ws : List Nat) (v : Value) (w : World) (hv : Bm w v s ws) :
    Calls Tryd.prog 38 #[v] w fun e w' => ∃ va, e = .returned va ∧ Ext w' va (exts s ws) ∧ Below w.heap.size w w' := by
  have HCHK := hid (fun (w1 : World) (hb : Below w.heap.size w w1) => refCheck_any s ws v w1 (hv.below hb))
  have HBIT := hid (fun (k : Nat) (w1 : World) (hb : Below w.heap.size w w1) (hk : k < 64 * ws.length) (hk2 : k < 1000000) => bit_any s ws v k w1 (hv.below hb) hk hk2)
  have hB0 : ∀ o, Below w.heap.size w (w.alloc o) := fun o => (Below.refl _ w).alloc (Nat.le_refl _) o
  obtain ⟨i0, hinf, hz0, hz1, hz2⟩ := info_parts info39
  obtain ⟨hs, hr, A, cap, rfl, hcap, hcm, b, off, hA, hc⟩ := hv
  have HB0 := hid hB0
  clear hc hr hB0 hA
  by_cases hg : chk s ws = 0
  · have good := chk_zero hg
    have hlow := good.low
    have hhigh := good.high
    have hlen := good.len
    obtain ⟨f, rfl⟩ := Int.eq_ofNat_of_zero_le hlow
    have HN := hid (exts_good hg)
    rw [hg] at HCHK
    clear good hg
    go_enter Tryd.func38, Tryd.ntmps38
    go_wp2_with (go_at_call 17; refine (HCHK.out _ (HB0.out _)).mono ?_; rintro e w1 ⟨rfl, hb1⟩)
    clear HCHK HB0
    go_loopw [3, 4] (fun v i wr => ∃ (k n : Nat) (L : List (Int × Int)), k ≤ f ∧ i = .int .i64 k ∧ Hid (At (bit ws) k n L) ∧ Hid (wr.ownsRow (w.heap.size + 1) 39 2 v n (xflat L)) ∧ Hid (Below (w.alloc (.cells #[.int .i64 f, .slice A ws.length cap] 24)).heap.size (w.alloc (.cells #[.int .i64 f, .slice A ws.length cap] 24)) wr)) (fun _ i _ => f - (intOf i).toNat)
    case atStart => exact ⟨0, 0, [], Nat.zero_le _, rfl, hid (at_start _), hid (World.ownsRow_nil _ _ _ _), hid hb1⟩
    case round =>
      clear hb1
      obtain ⟨k, n, L, hk, rfl, HAT, HOWN, HBB⟩ := hrel
      have x0 := box_cell HBB.out 0
      have x1 := box_cell HBB.out 1
      have hB1 := hid (below_more HBB.out (Nat.le_refl _))
      have hBs := hB1.out.size
      obtain ⟨av, cv, rfl⟩ := own_form HOWN.out
      by_cases hlt : k < f
      · cases hbk : bit ws k with
        | false =>
          have HNO := hid (at_no HAT.out hbk)
          go_wp2_with (go_at_call 40; refine (HBIT.out k _ hB1.out (by omega) (by omega)).mono ?_; rintro e w2 ⟨rfl, hb2⟩; have hbk2 := hbk)
          go_roundw
          case rel => exact ⟨k + 1, n, L, by omega, by go_num, HNO, hid (own_below HOWN.out hb2), hid (below_both HBB.out hb2)⟩
          case measure => simp [intOf]; omega
        | true =>
          rcases last_or L with rfl | ⟨m, a, c, rfl⟩
          · have hn0 : n = 0 := HAT.out.len.symm
            subst hn0
            have HYES := hid (at_yes HAT.out hbk (addE_nil k) rfl)
            go_wp2_with (go_at_call 40; refine (HBIT.out k _ hB1.out (by omega) (by omega)).mono ?_; rintro e w2 ⟨rfl, hb2⟩; have hbk2 := hbk; have HO2 := hid (own_below HOWN.out hb2); have HB2 := hid (below_both HBB.out hb2); clear hb2)
            go_quiet (fail)
            rename_i nq
            have HO3 : Hid ((w2.drewN nq).ownsRow (w.heap.size + 1) 39 2 (.slice av 0 cv) 0 (xflat [])) := hid HO2.out
            have HB3 : Hid (Below (w.alloc (.cells #[.int .i64 f, .slice A ws.length cap] 24)).heap.size (w.alloc (.cells #[.int .i64 f, .slice A ws.length cap] 24)) (w2.drewN nq)) := hid (below_drewN HB2.out nq)
            clear HO2 HB2
            generalize w2.drewN nq = w3 at HO3 HB3 ⊢
            have hz3 := HB3.out.size
            have hz4 : w.heap.size + 1 ≤ w3.heap.size := by simpa using hz3
            clear hz3
            go_wp2_with (at_builtin; refine wpList_append_own _ rfl _ _ 45 rfl (w.heap.size + 1) 39 i0 (.agg #[.int .i64 0, .int .i64 0]) 2 16 Tryd.underlying45 hinf hz0 hz1 hz2 rfl (by decide) _ _ _ rfl (HO3.out.alloc _) ⟨w3.heap.size, 0, none⟩ 1 1 _ rfl (xflat_length [((k : Int), 1)]) (cells_new w3 39 _) (one_cells _ _) (by unfold maxLen; omega) (by omega) (by simp; omega) ?_; intro v' w4 hown' hgrow _; have HO4 := hid (own_new hown'); have HB4 := hid (below_own HB3.out HO3.out hgrow (by simp; omega) (by simp)); clear hown' hgrow)
            go_roundw
            case rel => exact ⟨k + 1, _, _, by omega, by go_num, HYES, HO4, HB4⟩
            case measure => simp [intOf]; omega
          · obtain ⟨j, hj⟩ : ∃ j, m.length = j := ⟨_, rfl⟩
            have hn0 : n = j + 1 := by rw [← HAT.out.len, ← hj]; simp
            subst hn0
            obtain ⟨ha, hc, hac⟩ := HAT.out.runs.each (a, c) (by simp)
            dsimp only at ha hc hac
            have hlen := HAT.out.runs.len
            simp only [List.length_append, List.length_cons, List.length_nil] at hlen
            have hjk : j + 1 ≤ k := by omega
            clear hlen
            by_cases hx : a + c = k
            · have HYES := hid (at_yes HAT.out hbk (addE_last hx) (n' := j + 1) (by simp [hj]))
              go_wp2_with (go_at_call 40; refine (HBIT.out k _ hB1.out (by omega) (by omega)).mono ?_; rintro e w2 ⟨rfl, hb2⟩; have hbk2 := hbk; have HO2 := hid (own_below HOWN.out hb2); have HB2 := hid (below_both HBB.out hb2); clear hb2; obtain ⟨g, cp, hve, hg0, hg1, y0, y1, hfz, hset⟩ := own_last HO2.out hj; injection hve with e1 e2 e3; subst e1; subst e3; have HSET := hid hset; have hdec : (a + c == (k : Int)) = true := by { simp [hx] }; clear hx hset; have y2 := hfz (j * 2 + 1))
              go_quiet (fail)
              rename_i nq
              have HSET3 : Hid (∀ d : Int, ((w2.drewN nq).setCell ⟨g, j * 2 + 1, none⟩ (.int .i64 d)).ownsRow (w.heap.size + 1) 39 2 (.slice (some ⟨g, 0, none⟩) (j + 1) cv) (j + 1) (xflat (m ++ [(a, d)]))) := hid HSET.out
              have HB3 : Hid (Below (w.alloc (.cells #[.int .i64 f, .slice A ws.length cap] 24)).heap.size (w.alloc (.cells #[.int .i64 f, .slice A ws.length cap] 24)) (w2.drewN nq)) := hid (below_drewN HB2.out nq)
              have y0 : (w2.drewN nq).cell? ⟨g, j * 2, none⟩ = some (.int .i64 a) := y0
              have y1 : (w2.drewN nq).cell? ⟨g, j * 2 + 1, none⟩ = some (.int .i64 c) := y1
              have y2 : (w2.drewN nq).frozen? ⟨g, j * 2 + 1, none⟩ = false := y2
              clear HO2 HB2 HSET hdec
              generalize w2.drewN nq = w3 at HSET3 HB3 y0 y1 y2 ⊢
              go_wp2
              go_roundw
              case rel => exact ⟨k + 1, j + 1, _, by omega, by go_num, HYES, hid (HSET3.out (c + 1)), hid (HB3.out.setCell (p := ⟨g, j * 2 + 1, none⟩) (by simpa using hg0) _)⟩
              case measure => simp [intOf]; omega
            · have HYES := hid (at_yes HAT.out hbk (addE_new hx) (n' := j + 1 + 1) (by simp [hj]))
              go_wp2_with (go_at_call 40; refine (HBIT.out k _ hB1.out (by omega) (by omega)).mono ?_; rintro e w2 ⟨rfl, hb2⟩; have hbk2 := hbk; have HO2 := hid (own_below HOWN.out hb2); have HB2 := hid (below_both HBB.out hb2); clear hb2; obtain ⟨g, cp, hve, hg0, hg1, y0, y1, hfz, hset⟩ := own_last HO2.out hj; injection hve with e1 e2 e3; subst e1; subst e3; have hdec : (a + c == (k : Int)) = false := by { simp [hx] }; clear hx hset hfz)
              go_quiet (fail)
              rename_i nq
              have HO3 : Hid ((w2.drewN nq).ownsRow (w.heap.size + 1) 39 2 (.slice (some ⟨g, 0, none⟩) (j + 1) cv) (j + 1) (xflat (m ++ [(a, c)]))) := hid HO2.out
              have HB3 : Hid (Below (w.alloc (.cells #[.int .i64 f, .slice A ws.length cap] 24)).heap.size (w.alloc (.cells #[.int .i64 f, .slice A ws.length cap] 24)) (w2.drewN nq)) := hid (below_drewN HB2.out nq)
              clear HO2 HB2 y0 y1 hdec hg1
              generalize w2.drewN nq = w3 at HO3 HB3 ⊢
              have hz3 := HB3.out.size
              have hz4 : w.heap.size + 1 ≤ w3.heap.size := by simpa using hz3
              clear hz3
              go_wp2_with (at_builtin; refine wpList_append_own _ rfl _ _ 45 rfl (w.heap.size + 1) 39 i0 (.agg #[.int .i64 0, .int .i64 0]) 2 16 Tryd.underlying45 hinf hz0 hz1 hz2 rfl (by decide) _ _ _ rfl (HO3.out.alloc _) ⟨w3.heap.size, 0, none⟩ 1 1 _ rfl (xflat_length [((k : Int), 1)]) (cells_new w3 39 _) (one_cells _ _) (by unfold maxLen; omega) (by omega) (by simp; omega) ?_; intro v' w4 hown' hgrow _; have HO4 := hid (own_new hown'); have HB4 := hid (below_own HB3.out HO3.out hgrow (by simp; omega) (by simp)); clear hown' hgrow)
              go_roundw
              case rel => exact ⟨k + 1, _, _, by omega, by go_num, HYES, HO4, HB4⟩
              case measure => simp [intOf]; omega
      · obtain rfl : k = f := by omega
        have HFIN := hid (HAT.out.eq.trans HN.out.symm)
        have HLEN := hid HAT.out.len
        have HEA := hid HAT.out.runs.each
        go_wp2
        go_ret
        refine ⟨_, rfl, ext_ret (l := L) (by rw [HLEN.out]; exact HOWN.out) HFIN.out (fun x hx => by have := HEA.out x hx; omega), hB1.out⟩
  · have h3 : chk s ws = 3 := by rcases chk_cases s ws with h | h <;> omega
    have hq := hid (exts_bad hg)
    rw [h3] at HCHK
    go_enter Tryd.func38, Tryd.ntmps38
    go_wp2_with (go_at_call 17; refine (HCHK.out _ (HB0.out _)).mono ?_; rintro e w1 ⟨rfl, hb1⟩)
    go_ret
    refine ⟨_, rfl, ?_, below_more hb1 (Nat.le_refl _)⟩
    rw [hq.out]
    exact ext_nil _
end Go.Proofs.YtbifhcjkdfocaaaDoor
