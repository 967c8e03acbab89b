/- Extents. -/
import Derived.Test.YtbifhcjkdfocaaaDoorZf
import Derived.Test.YtbifhcjkdfocaaaDoorL
import Derived.RangeFuncBox
import Derived.OwnWalkIn
import Derived.Test.YtbifhcjkdfocaaaDoorRq
namespace Go.Proofs.YtbifhcjkdfocaaaDoor
open Go.RowKit Go.Shelf Go.BigFrame
attribute [local go_sem] Oper.semAt_some

theorem exts_elems (s : Int) (ws : List Nat) : exts s ws = extsOf (elems s ws 0) := by
  by_cases h : chk s ws = 0
  · have good := chk_zero h
    have hlow := good.low
    have hlen := good.len
    obtain ⟨f, rfl⟩ := Int.eq_ofNat_of_zero_le hlow
    rw [exts_good h]
    unfold elems
    rw [if_pos h, Nat.sub_zero]
    have e : 64 * ws.length = f + (64 * ws.length - f) := by omega
    rw [e, elsL_add, elsL_none (n := 64 * ws.length - f) (fun j h1 h2 => good.clean j (by omega)), List.append_nil]
  · rw [exts_bad h]
    unfold elems
    rw [if_neg h]
    rfl
theorem elems_small {s : Int} {ws : List Nat} {q x : Nat} (h : x ∈ elems s ws q) : x < 4096 := by
  unfold elems at h
  by_cases hc : chk s ws = 0
  · rw [if_pos hc] at h
    have good := chk_zero hc
    have hhigh := good.high
    have hlen := good.len
    have h1 := (List.mem_filter.1 h).1
    obtain ⟨h2, h3⟩ := List.mem_range'_1.1 h1
    omega
  · rw [if_neg hc] at h
    cases h
theorem elems_length (s : Int) (ws : List Nat) : (elems s ws 0).length ≤ 4096 := by
  unfold elems
  by_cases hc : chk s ws = 0
  · rw [if_pos hc]
    have good := chk_zero hc
    have hhigh := good.high
    have hlen := good.len
    unfold elsL
    refine Nat.le_trans (List.length_filter_le _ _) ?_
    rw [List.length_range']
    omega
  · rw [if_neg hc]
    exact Nat.zero_le _
theorem addE_length (l : List (Int × Int)) (x : Nat) : (addE l x).length ≤ l.length + 1 := by
  rcases last_or l with rfl | ⟨m, a, c, rfl⟩
  · simp [addE_nil]
  · by_cases h : a + c = x
    · rw [addE_last h]; simp
    · rw [addE_new h]; simp
theorem extsOf_small (xs : List Nat) : (extsOf xs).length ≤ xs.length ∧ ((∀ x ∈ xs, x < 4096) → ∀ e ∈ extsOf xs, 0 ≤ e.1 ∧ 1 ≤ e.2 ∧ e.1 + e.2 ≤ 4096) := by
  have key : ∀ n : Nat, ∀ xs : List Nat, xs.length = n → (extsOf xs).length ≤ xs.length ∧ ((∀ x ∈ xs, x < 4096) → ∀ e ∈ extsOf xs, 0 ≤ e.1 ∧ 1 ≤ e.2 ∧ e.1 + e.2 ≤ 4096) := by
    intro n
    induction n with
    | zero =>
      intro xs h
      have : xs = [] := List.eq_nil_of_length_eq_zero h
      subst this
      exact ⟨Nat.le_refl _, fun _ e he => by cases he⟩
    | succ n ih =>
      intro xs h
      rcases List.eq_nil_or_concat xs with rfl | ⟨ys, x, rfl⟩
      · simp at h
      rw [List.concat_eq_append] at h ⊢
      simp only [List.length_append, List.length_cons, List.length_nil] at h
      obtain ⟨h1, h2⟩ := ih ys (by omega)
      rw [extsOf_snoc]
      refine ⟨by have := addE_length (extsOf ys) x; simp; omega, fun hx e he => ?_⟩
      have h3 := h2 (fun y hy => hx y (List.mem_append_left _ hy))
      have hxl := hx x (by simp)
      rcases last_or (extsOf ys) with hl | ⟨m, a, c, hl⟩
      · rw [hl, addE_nil, List.mem_singleton] at he
        subst he
        exact ⟨by omega, by omega, by simp; omega⟩
      · rw [hl] at h3 he
        by_cases hac : a + c = x
        · rw [addE_last hac, List.mem_append, List.mem_singleton] at he
          rcases he with he | rfl
          · exact h3 e (List.mem_append_left _ he)
          · have := h3 (a, c) (by simp)
            dsimp only at this ⊢
            omega
        · rw [addE_new hac, List.mem_append, List.mem_singleton] at he
          rcases he with he | rfl
          · exact h3 e he
          · exact ⟨by omega, by omega, by simp; omega⟩
  exact key xs.length xs rfl
theorem ownsRow_succ {W : World} {base n : Nat} {v : Value} {xs : List Value} (h : W.ownsRow base 39 2 v (n + 1) xs) : ∃ g cap, v = .slice (some ⟨g, 0, none⟩) (n + 1) cap := by
  rcases h.2 with ⟨_, h0⟩ | ⟨g, cap, cur, hv, _⟩
  · omega
  · exact ⟨g, cap, hv⟩
/-- What a round leaves. -/
structure Left2 (K : Nat → Prop) (lo hi c : Nat) (w W2 W3 : World) (v : Value) (n : Nat) (L : List (Int × Int)) : Prop where
  kept : Kept K lo hi W2 W3
  size : hi ≤ W3.heap.size
  cell : W3.heap[c]? = some (.cells #[v] 45 (0, 0))
  own : W3.ownsRow hi 39 2 v n (xflat L)
  below : Below w.heap.size w W3
theorem left_new {K : Nat → Prop} {lo hi c n : Nat} {w W2 w1 : World} {v v' : Value} {L : List (Int × Int)} {x : Nat} (hK : ∀ k, K k → k ≠ c ∧ k < lo) (hc : c < lo) (hlo : lo ≤ hi) (hwc : w.heap.size ≤ c) (HB2 : W2.heap[c]? = some (.cells #[v] 45 (0, 0))) (hown2 : W2.ownsRow hi 39 2 v n (xflat L))
    (hown' : w1.ownsRow hi 39 2 v' (n + 1) (xflat L ++ xflat [((x : Int), 1)])) (hgrow : (W2.alloc (.cells (xflat [((x : Int), 1)]).toArray 39)).grownBy w1 v.ownBlock) (hhi2 : hi ≤ W2.heap.size) (hb : Below w.heap.size w W2) :
    w1.cell? ⟨c, 0, none⟩ = some v ∧ w1.frozen? ⟨c, 0, none⟩ = false ∧ ∃ g' cap', v' = .slice (some ⟨g', 0, none⟩) (n + 1) cap' ∧
      Left2 K lo hi c w W2 (w1.setCell ⟨c, 0, none⟩ v') v' (n + 1) (L ++ [((x : Int), 1)]) := by
  have hq : ∀ q, v.ownBlock = some q → hi ≤ q := fun q hq => (hown2.lt q hq).1
  have hw1 := hgrow.size
  simp at hw1
  have hB3 : w1.heap[c]? = some (.cells #[v] 45 (0, 0)) := (hgrow.block _ (by simp; omega) (fun e => by have := hq _ e.symm; omega)).trans ((Below.heap_alloc _ _ _ (by omega)).trans HB2)
  have hk3 : Kept K lo hi W2 w1 :=
    (Kept.grown (World.grownBy_alloc W2 (.cells (xflat [((x : Int), 1)]).toArray 39) none) (fun k hk => by have := hK k hk; omega) hhi2 (fun r e => by cases e)).trans (Kept.grown hgrow (fun k hk => by have := hK k hk; simp; omega) (by simp; omega) (fun r e => by have := hq r e; exact ⟨fun hk => by have := hK r hk; omega, .inr this⟩))
  have hb3 : Below w.heap.size w w1 := (hb.alloc (by omega) _).grown hgrow (by simp; omega) (fun k e => by have := hq k e; omega)
  have hown3 : w1.ownsRow hi 39 2 v' (n + 1) (xflat (L ++ [((x : Int), 1)])) := by rw [xflat_append]; exact hown'
  obtain ⟨g', cap', hv'⟩ := ownsRow_succ hown'
  have hg' := (hown'.lt g' (by rw [hv']; rfl)).1
  refine ⟨cell_of_row _ _ _ _ _ _ hB3, by unfold World.frozen?; rw [hB3]; simp, g', cap', hv', ⟨?_, by simp; omega, ?_, ?_, ?_⟩⟩
  · exact hk3.trans ⟨by simp, fun q hq' => Below.heap_setCell w1 ⟨c, 0, none⟩ v' q (by
      show q ≠ c
      rcases hq' with h | h
      · exact (hK q h).1
      · omega)⟩
  · simp [World.setCell, Array.getElem?_modify, hB3]
  · exact ownsRow_setCell_other hown3 (by rw [hv']; simp [Value.ownBlock]; omega) _
  · exact hb3.setCell (p := ⟨c, 0, none⟩) hwc _
theorem left_more {K : Nat → Prop} {lo hi c j g cp : Nat} {w W2 : World} {m : List (Int × Int)} {a d : Int} (hK : ∀ k, K k → k ≠ c ∧ k < lo) (hc : c < lo) (hlo : lo ≤ hi) (hwc : w.heap.size ≤ c) (HB2 : W2.heap[c]? = some (.cells #[.slice (some ⟨g, 0, none⟩) (j + 1) cp] 45 (0, 0)))
    (hset : (W2.setCell ⟨g, j * 2 + 1, none⟩ (.int .i64 d)).ownsRow hi 39 2 (.slice (some ⟨g, 0, none⟩) (j + 1) cp) (j + 1) (xflat (m ++ [(a, d)]))) (hg : hi ≤ g) (hhi2 : hi ≤ W2.heap.size) (hb : Below w.heap.size w W2) :
    Left2 K lo hi c w W2 (W2.setCell ⟨g, j * 2 + 1, none⟩ (.int .i64 d)) (.slice (some ⟨g, 0, none⟩) (j + 1) cp) (j + 1) (m ++ [(a, d)]) :=
  ⟨⟨by simp, fun q hq' => Below.heap_setCell W2 ⟨g, j * 2 + 1, none⟩ _ q (by
      show q ≠ g
      rcases hq' with h | h
      · have := hK q h; omega
      · omega)⟩, by simpa using hhi2, (Below.heap_setCell _ _ _ _ (show c ≠ g by omega)).trans HB2, hset, hb.setCell (p := ⟨g, j * 2 + 1, none⟩) (show w.heap.size ≤ g by omega) _⟩
theorem Left2.drew {K : Nat → Prop} {lo hi c n : Nat} {w W2 W3 : World} {v : Value} {L : List (Int × Int)} {q : Nat} (h : Left2 K lo hi c w (W2.drewN q) W3 v n L) : Left2 K lo hi c w W2 W3 v n L :=
  ⟨⟨h.kept.size, h.kept.same⟩, h.size, h.cell, h.own, h.below⟩
/-- What the rounds keep. -/
def IExt (w w2 : World) (hi : Nat) (pre : List Nat) (W : World) : Prop :=
  hi ≤ W.heap.size ∧ w2.heap.size < hi ∧ (∃ v n, W.heap[w.heap.size + 1]? = some (.cells #[v] 45 (0, 0)) ∧ W.ownsRow hi 39 2 v n (xflat (extsOf pre)) ∧ (extsOf pre).length = n) ∧ Below w.heap.size w W
def INo (_ : Code) (_ : Nat) (_ : List Nat) (_ : World) : Prop := False

set_option maxHeartbeats 8000000 in
set_option maxRecDepth 100000 in
theorem extents_in (s : Int) (ws : List Nat) (v : Value) (w : World) (hv : Bm w v s ws) (hT : Tab w) :
    CallsIn Fence.wide 5 Tryd.prog 37 #[v] w fun e w' => ∃ va, e = .returned va ∧ Ext w' va (exts s ws) ∧ Below w.heap.size w w' := by
  obtain ⟨i0, hinf, hz0, hz1, hz2⟩ := info_parts info39
  obtain ⟨A, ca, rfl⟩ := hv.form
  obtain ⟨w1, h1⟩ : ∃ w1, w.alloc (.cells #[.int .i64 s, .slice A ws.length ca] 24) = w1 := ⟨_, rfl⟩
  have z1 : w1.heap.size = w.heap.size + 1 := by rw [← h1]; simp
  obtain ⟨w4, h4⟩ : ∃ w4, w1.alloc (.cells #[.slice none 0 0] 45) = w4 := ⟨_, rfl⟩
  have z4 : w4.heap.size = w.heap.size + 2 := by rw [← h4]; simp; omega
  have rA : w4.heap[w.heap.size]? = some (.cells #[.int .i64 s, .slice A ws.length ca] 24 (0, 0)) := by
    rw [← h4]; refine (Below.heap_alloc _ _ _ (by omega)).trans ?_
    rw [← h1]; exact heap_alloc_new w _
  have rR : w4.heap[w.heap.size + 1]? = some (.cells #[.slice none 0 0] 45 (0, 0)) := by
    rw [← h4, ← z1]; exact heap_alloc_new w1 _
  have hB4 : Below w.heap.size w w4 := by
    rw [← h4, ← h1]
    exact ((Below.refl _ w).alloc (Nat.le_refl _) _).alloc (by simp) _
  have a0 := cell_of_row _ _ 0 _ _ _ rA
  have a1 := cell_of_row _ _ 1 _ _ _ rA
  have HE := hid (elements_any s ws _ 0 w4 (hv.below hB4))
  have HV := hid hv
  have HTT := hid hT
  have RR := hid rR
  have HB4 := hid hB4
  clear hv hT rA rR hB4
  refine callsIn_of_wp_marks Tryd.func37 rfl trivial ?_ rfl
  simp only [Tryd.ntmps37, List.size_toArray, List.length_cons, List.length_nil, Nat.reduceAdd, Nat.reduceSub, Array.replicate_succ, Array.replicate_zero, List.push_toArray, List.append_toArray, List.nil_append, List.cons_append]
  gi_wp2_with (refine And.intro trivial ?_; gi_at_call 42; refine (callsIn_wide.2 HE.out).mono ?_; rintro e w2 ⟨rfl, hsz, hc1, hc2, hb2⟩)
  have HI := hid (elems_gives 4 (w4.heap.size) (w4.heap.size + 1) s ws 0 _ w w2 (by omega) HV.out HTT.out (below_both HB4.out hb2) (by omega) (fun A cap h => hc1 A cap h) hc2 (by omega) (by omega))
  have rw2 := (hb2.block (w.heap.size + 1) (by omega)).trans RR.out
  have hbw := below_both HB4.out hb2
  have RW2 := hid rw2
  have HBW := hid hbw
  clear rw2 hbw hc1 hc2 hb2 a0 a1
  rw [z4] at HI hsz
  have hs1 : w2.heap.size ≤ w.heap.size + 2 + 2 := by omega
  have hs2 : w.heap.size + 2 + 2 ≤ w2.heap.size := by omega
  clear hsz
  have HK : Hid (∀ k, KB w.heap.size (w.heap.size + 2) (w.heap.size + 2 + 1) k → k ≠ w.heap.size + 1 ∧ k < w2.heap.size) := hid (fun k hk => by rcases hk with h | h | h <;> omega)
  refine wpIn_range rfl (by omega) (gf := 53) (lb := #[.pointer (some ⟨w.heap.size + 2, 0, none⟩), .pointer (some ⟨w.heap.size + 2 + 1, 0, none⟩)]) rfl trivial (enters_of Tryd.func53 (by kernel_rfl) rfl) HI.out (Below.refl _ _) (fun k hk => by rcases hk with h | h | h <;> omega) (fun _ => rfl)
    (IExt w w2)
    INo ?h0 ?hI ?hIx ?hround ?hdone ?hstop
  case h0 =>
    intro hi' W' hb hlo hhi
    exact ⟨hhi, hlo, ⟨.slice none 0 0, 0, (hb.block _ (by omega)).trans RW2.out, World.ownsRow_nil _ _ _ _, rfl⟩, HBW.out.trans (hb.mono (by omega))⟩
  case hI =>
    rintro hi' pre A B row ⟨h1, h2, ⟨v, n, hv, hown, hn⟩, hbel⟩ hgr hrow
    refine ⟨Nat.le_trans h1 hgr.size, h2, ⟨v, n, ?_, ?_, hn⟩, hbel.grown hgr hbel.size (fun k e => by have := (hrow k e).1; omega)⟩
    · exact (hgr.block _ (Array.getElem?_eq_some_iff.1 hv).1 (fun e => by have := (hrow _ e.symm).1; omega)).trans hv
    · refine hown.kept hgr ?_
      cases hob : v.ownBlock with
      | none => exact .inl rfl
      | some q => exact .inr (fun e => by have := (hrow q e.symm).2; have := (hown.lt q hob).1; omega)
  case hIx => exact fun _ _ _ _ _ _ h _ _ => h
  case hstop => exact fun _ _ _ _ _ _ _ h => h.elim
  case hround =>
    rintro l hi' pre x W hlo hlhi hhi ⟨_, hwhi, ⟨v, n, hv, hown, hn⟩, hbel⟩ hsp
    have hxs : x < 4096 ∧ pre.length ≤ 4095 ∧ ∀ y ∈ pre, y < 4096 := by
      obtain ⟨r, hr⟩ := hsp
      have h1 := elems_length s ws
      rw [← hr] at h1
      simp only [List.length_append, List.length_cons, List.length_nil] at h1
      refine ⟨elems_small (s := s) (ws := ws) (q := 0) (by rw [← hr]; simp), by omega, fun y hy => elems_small (s := s) (ws := ws) (q := 0) (by rw [← hr]; simp [hy])⟩
    obtain ⟨hx, hpl, hps⟩ := hxs
    obtain ⟨hsm1, hsm2⟩ := extsOf_small pre
    have hsm3 := hsm2 hps
    rw [hn] at hsm1
    have hn4 : n ≤ 4095 := by omega
    obtain ⟨L, hL⟩ : ∃ L, extsOf pre = L := ⟨_, rfl⟩
    have HEX := hid (extsOf_snoc pre x)
    rw [hL] at hown hn hsm3 HEX
    have HSM := hid hsm3
    clear hsm1 hsm2 hsm3 hps hpl hL hsp
    obtain ⟨av, cv, hvv⟩ := own_form hown
    subst hvv
    gi_wp2
    refine ⟨Kept.refl _ _ _ _, fun W2 hg2 => ?_⟩
    have hzz := hg2.size
    have hR2 : W2.heap[w.heap.size + 1]? = some (.cells #[.slice av n cv] 45 (0, 0)) := (hg2.block _ (Array.getElem?_eq_some_iff.1 hv).1 (fun e => by injection e with e; omega)).trans hv
    have hown2 : W2.ownsRow hi' 39 2 (.slice av n cv) n (xflat L) := hown.kept hg2 (by
      cases hob : (Value.slice av n cv).ownBlock with
      | none => exact .inl rfl
      | some q => exact .inr (fun e => by injection e with e; have := (hown.lt q hob).1; omega))
    have hb2' : Below w.heap.size w W2 := hbel.grown hg2 hbel.size (fun k e => by injection e with e; omega)
    have hcs : W2.cell? ⟨w.heap.size + 1, 0, none⟩ = some (.slice av n cv) := cell_of_row _ _ _ _ _ _ hR2
    have HR2 := hid hR2
    have HO2 := hid hown2
    have HB2 := hid hb2'
    have hhi2 : hi' ≤ W2.heap.size := by omega
    clear hv hown hbel hR2 hown2 hb2' hzz
    rcases last_or L with hL0 | ⟨m, a, c, hL0⟩
    · subst hL0
      have hn0 : n = 0 := hn.symm
      subst hn0
      gi_wp2
      refine wpIn_quiet_round rfl (by kernel_rfl) (by kernel_rfl) (by kernel_rfl) ?_
      repeat (gi_big_quiet_step (fail))
      refine wpQuietIn_nil ?_
      rintro _ ⟨nq, rfl⟩
      have HR3 : Hid ((W2.drewN nq).heap[w.heap.size + 1]? = some (.cells #[.slice av 0 cv] 45 (0, 0))) := hid HR2.out
      have HO3 : Hid ((W2.drewN nq).ownsRow hi' 39 2 (.slice av 0 cv) 0 (xflat [])) := hid HO2.out
      have HB3 : Hid (Below w.heap.size w (W2.drewN nq)) := hid (below_drewN HB2.out nq)
      have hhi3 : hi' ≤ (W2.drewN nq).heap.size := hhi2
      have hcs3 : (W2.drewN nq).cell? ⟨w.heap.size + 1, 0, none⟩ = some (.slice av 0 cv) := hcs
      have HKW : Hid (Kept (KB w.heap.size (w.heap.size + 2) (w.heap.size + 2 + 1)) w2.heap.size hi' W2 (W2.drewN nq)) := hid ⟨Nat.le_refl _, fun _ _ => rfl⟩
      clear HR2 HO2 HB2 hcs hhi2
      generalize W2.drewN nq = W3 at HR3 HO3 HB3 hhi3 hcs3 HKW ⊢
      have hws3 : w.heap.size + 1 < W3.heap.size := by omega
      gi_wp2_with (gi_at_builtin; refine wpListIn_append_own _ rfl _ _ 45 rfl hi' 39 i0 (.agg #[.int .i64 0, .int .i64 0]) 2 16 Tryd.underlying45 hinf hz0 hz1 hz2 rfl (by decide) _ _ _ rfl (HO3.out.alloc _) ⟨W3.heap.size, 0, none⟩ 1 1 _ rfl (xflat_length [((x : Int), 1)]) (cells_new W3 39 _) (one_cells _ _) (by unfold maxLen; omega) (by omega) (by simp; omega) ?_; intro v' w5 hown' hgrow _; obtain ⟨hv3, hf3, g', cap', hv', HS⟩ := left_new (lo := w2.heap.size) HK.out (by omega) (by omega) (by omega) HR3.out HO3.out hown' hgrow hhi3 HB3.out; subst hv'; clear hown' hgrow)
      refine ⟨HKW.out.trans HS.kept, HS.size, hwhi, ⟨_, _, HS.cell, by rw [HEX.out, addE_nil]; exact HS.own, by rw [HEX.out, addE_nil]; rfl⟩, HS.below⟩
    · subst hL0
      obtain ⟨j, hj⟩ : ∃ j, m.length = j := ⟨_, rfl⟩
      have hn0 : n = j + 1 := by rw [← hn, ← hj]; simp
      subst hn0
      clear hn
      obtain ⟨ha, hc, hac⟩ := HSM.out (a, c) (by simp)
      dsimp only at ha hc hac
      obtain ⟨g, cp, hve, hg0, hg1, y0, y1, hfz, hset⟩ := own_last HO2.out hj
      injection hve with e1 e2 e3
      subst e1
      subst e3
      by_cases hx2 : a + c = x
      · have hdec : (a + c == (x : Int)) = true := by simp [hx2]
        have HE2 := hid (addE_last (m := m) hx2)
        have HSET := hid hset
        have y2 := hfz (j * 2 + 1)
        clear hset hfz hx2
        gi_wp2
        refine wpIn_quiet_round rfl (by kernel_rfl) (by kernel_rfl) (by kernel_rfl) ?_
        repeat (gi_big_quiet_step (fail))
        refine wpQuietIn_nil ?_
        rintro _ ⟨nq, rfl⟩
        have HR3 : Hid ((W2.drewN nq).heap[w.heap.size + 1]? = some (.cells #[.slice (some ⟨g, 0, none⟩) (j + 1) cv] 45 (0, 0))) := hid HR2.out
        have HSET3 : Hid (∀ d : Int, ((W2.drewN nq).setCell ⟨g, j * 2 + 1, none⟩ (.int .i64 d)).ownsRow hi' 39 2 (.slice (some ⟨g, 0, none⟩) (j + 1) cv) (j + 1) (xflat (m ++ [(a, d)]))) := hid HSET.out
        have HB3 : Hid (Below w.heap.size w (W2.drewN nq)) := hid (below_drewN HB2.out nq)
        have hhi3 : hi' ≤ (W2.drewN nq).heap.size := hhi2
        have hcs3 : (W2.drewN nq).cell? ⟨w.heap.size + 1, 0, none⟩ = some (.slice (some ⟨g, 0, none⟩) (j + 1) cv) := hcs
        have z0 : (W2.drewN nq).cell? ⟨g, j * 2, none⟩ = some (.int .i64 a) := y0
        have z1 : (W2.drewN nq).cell? ⟨g, j * 2 + 1, none⟩ = some (.int .i64 c) := y1
        have z2 : (W2.drewN nq).frozen? ⟨g, j * 2 + 1, none⟩ = false := y2
        have HKW : Hid (Kept (KB w.heap.size (w.heap.size + 2) (w.heap.size + 2 + 1)) w2.heap.size hi' W2 (W2.drewN nq)) := hid ⟨Nat.le_refl _, fun _ _ => rfl⟩
        clear HR2 HO2 HB2 hcs hhi2 y0 y1 y2 HSET hdec
        generalize W2.drewN nq = W3 at HR3 HSET3 HB3 hhi3 hcs3 z0 z1 z2 HKW ⊢
        have HS := hid (left_more (lo := w2.heap.size) (c := w.heap.size + 1) (w := w) HK.out (by omega) (by omega) (by omega) HR3.out (HSET3.out (c + 1)) hg0 hhi3 HB3.out)
        gi_wp2
        refine ⟨HKW.out.trans HS.out.kept, HS.out.size, hwhi, ⟨_, _, HS.out.cell, by rw [HEX.out, HE2.out]; exact HS.out.own, by rw [HEX.out, HE2.out]; simp [hj]⟩, HS.out.below⟩
      · have hdec : (a + c == (x : Int)) = false := by simp [hx2]
        have HE2 := hid (addE_new (m := m) hx2)
        clear hset hfz hx2
        gi_wp2
        refine wpIn_quiet_round rfl (by kernel_rfl) (by kernel_rfl) (by kernel_rfl) ?_
        repeat (gi_big_quiet_step (fail))
        refine wpQuietIn_nil ?_
        rintro _ ⟨nq, rfl⟩
        have HR3 : Hid ((W2.drewN nq).heap[w.heap.size + 1]? = some (.cells #[.slice (some ⟨g, 0, none⟩) (j + 1) cv] 45 (0, 0))) := hid HR2.out
        have HO3 : Hid ((W2.drewN nq).ownsRow hi' 39 2 (.slice (some ⟨g, 0, none⟩) (j + 1) cv) (j + 1) (xflat (m ++ [(a, c)]))) := hid HO2.out
        have HB3 : Hid (Below w.heap.size w (W2.drewN nq)) := hid (below_drewN HB2.out nq)
        have hhi3 : hi' ≤ (W2.drewN nq).heap.size := hhi2
        have hcs3 : (W2.drewN nq).cell? ⟨w.heap.size + 1, 0, none⟩ = some (.slice (some ⟨g, 0, none⟩) (j + 1) cv) := hcs
        have HKW : Hid (Kept (KB w.heap.size (w.heap.size + 2) (w.heap.size + 2 + 1)) w2.heap.size hi' W2 (W2.drewN nq)) := hid ⟨Nat.le_refl _, fun _ _ => rfl⟩
        clear HR2 HO2 HB2 hcs hhi2 y0 y1 hdec hg1
        generalize W2.drewN nq = W3 at HR3 HO3 HB3 hhi3 hcs3 HKW ⊢
        have hws3 : w.heap.size + 1 < W3.heap.size := by omega
        gi_wp2_with (gi_at_builtin; refine wpListIn_append_own _ rfl _ _ 45 rfl hi' 39 i0 (.agg #[.int .i64 0, .int .i64 0]) 2 16 Tryd.underlying45 hinf hz0 hz1 hz2 rfl (by decide) _ _ _ rfl (HO3.out.alloc _) ⟨W3.heap.size, 0, none⟩ 1 1 _ rfl (xflat_length [((x : Int), 1)]) (cells_new W3 39 _) (one_cells _ _) (by unfold maxLen; omega) (by omega) (by simp; omega) ?_; intro v' w5 hown' hgrow _; obtain ⟨hv3, hf3, g', cap', hv', HS⟩ := left_new (lo := w2.heap.size) HK.out (by omega) (by omega) (by omega) HR3.out HO3.out hown' hgrow hhi3 HB3.out; subst hv'; clear hown' hgrow)
        refine ⟨HKW.out.trans HS.kept, HS.size, hwhi, ⟨_, _, HS.cell, by rw [HEX.out, HE2.out]; exact HS.own, by rw [HEX.out, HE2.out]; simp [hj]⟩, HS.below⟩
  case hdone =>
    rintro D hi' xs W hD hS ⟨_, hwhi, ⟨v, n, hv, hown, hn⟩, hbel⟩ hdef
    have hcs : W.cell? ⟨w.heap.size + 1, 0, none⟩ = some v := cell_of_row _ _ _ _ _ _ hv
    have HV' := hid hv
    have HS := hid hS
    have HN := hid hn
    have HO := hid hown
    have HBEL := hid hbel
    clear hv hS hn hown hbel
    gi_wp2
    refine ⟨by simp, .inl ⟨_, _, rfl, run_takeDeferred hdef, ?_⟩⟩
    refine ⟨_, results_tmp rfl _ _ _, v, rfl, ?_, HBEL.out.grown (grownBy_putObj' W D _) HBEL.out.size (fun k e => by injection e with e; omega)⟩
    rw [exts_elems, ← HS.out]
    have h := HO.out
    rw [← HN.out] at h
    exact ext_of_own (ownsRow_putObj h _ hdef rfl) (fun e he => by
      have := (extsOf_small xs).2 (fun y hy => elems_small (s := s) (ws := ws) (q := 0) (by rw [← HS.out]; exact hy)) e he
      unfold R64
      omega)
theorem extents_any (s : Int) (ws : List Nat) (v : Value) (w : World) (hv : Bm w v s ws) (hT : Tab w) :
    Calls Tryd.prog 37 #[v] w fun e w' => ∃ va, e = .returned va ∧ Ext w' va (exts s ws) ∧ Below w.heap.size w w' := callsIn_wide.1 (extents_in s ws v w hv hT)
end Go.Proofs.YtbifhcjkdfocaaaDoor
