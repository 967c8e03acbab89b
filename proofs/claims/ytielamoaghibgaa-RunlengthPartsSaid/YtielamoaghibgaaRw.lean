/- Runs. -/
import Derived.Test.YtielamoaghibgaaRv
namespace Go.Proofs.Ytielamoaghibgaa
open Go.RowKit Go.Lib Go.Shelf
attribute [local go_sem] Oper.semAt_some

/-- The box g holds a row of ranges of its own, from base on. -/
def Xe (W : World) (g base : Nat) (l : List (Nat × Nat)) : Prop := ∃ v, Boxed W g 37 v ∧ W.ownsRow base 46 2 v l.length (l.map cE).flatten
theorem Xe.below {W W' : World} {g base : Nat} {l : List (Nat × Nat)} (h : Xe W g base l) (hb : Below W.heap.size W W') : Xe W' g base l := by
  obtain ⟨v, hx, ho⟩ := h
  exact ⟨v, (hb.block _ hx.lt).trans hx, own_keep ho (keep_below hb)⟩
theorem Xe.kept {W W' : World} {g base : Nat} {l : List (Nat × Nat)} {row : Option Nat} (h : Xe W g base l) (hg : W.grownBy W' row) (hr : ∀ r, row = some r → ∃ o : Obj, W.heap[r]? = some o ∧ o.isCells = false) : Xe W' g base l := by
  obtain ⟨v, hx, ho⟩ := h
  refine ⟨v, boxed_kept hx hg hr, own_keep ho (fun k cs hk => (hg.block k (box_lt hk) (fun e => ?_)).trans hk)⟩
  obtain ⟨o, ho, hc⟩ := hr k e.symm
  rw [hk] at ho
  cases ho
  cases hc
theorem rnsK_len (xs : List (Nat × List Sect)) : ∀ p, (rnsK p xs).length ≤ xs.length := by
  induction xs with
  | nil => intro p; simp [rnsK]
  | cons x t ih =>
    intro p
    have := ih (p + x.2.length)
    rw [rnsK, List.length_append, List.length_cons]
    split
    · simp only [List.length_singleton]; omega
    · simp only [List.length_nil]; omega
theorem boxed_set {w : World} {g b i : Nat} {T : TypeId} {v u : Value} (h : Boxed w g T v) (hn : g ≠ b) : Boxed (w.setCell ⟨b, i, none⟩ u) g T v := (Below.heap_setCell _ _ _ _ hn).trans h
theorem runs_app {W w1 : World} {g base N : Nat} {vo p : Value} {xs : List Value} {tmp : Obj} (hx : Boxed W g 37 vo) (hp : Boxed W (g + 1) 3 p) (ho : W.ownsRow base 46 2 vo N xs) (hg : (W.alloc tmp).grownBy w1 vo.ownBlock) : Boxed w1 g 37 vo ∧ Boxed w1 (g + 1) 3 p := by
  have ho' := own_keep ho (keep_below (al1 W tmp))
  exact ⟨(hx.alloc _).kept hg ((hx.alloc _).not_row (by decide) ho'), (hp.alloc _).kept hg ((hp.alloc _).not_row (by decide) ho')⟩
theorem tot_bound {w : World} (pre : List (GrpOf w)) : tot (gpr pre) ≤ 100000 * pre.length := by
  induction pre with
  | nil => simp [gpr, tot]
  | cons x t ih =>
    have h := x.2.2.2.1
    have e : tot (gpr (x :: t)) = x.1.g.length + tot (gpr t) := by simp [gpr, tot]
    rw [e, List.length_cons]
    omega

set_option maxRecDepth 100000 in
theorem append_extIn {F : Fence} {d : Nat} {ops : Array Oper} {rest : List Oper} {o : Oper} {a : Act} {w : World} {Q : Exit → Act → World → Prop} (hgd : o.guard = none) (s x : Operand) (ho : o.op = .call { callee := .builtin .append, args := #[s, x], argTypes := #[37, 37] })
    (base : Nat) (v : Value) (n : Nat) (olds : List Value) (hs : a.eval s = v) (hown : w.ownsRow base 46 2 v n olds) (e : Nat × Nat) (ad : Addr) (c : Nat) (hx : a.eval x = .slice (some ad) 1 c)
    (hc : ∀ j u, (cE e)[j]? = some u → w.cell? (ad.add j) = some u) (b1 : n + 1 ≤ 1000000) (hbase : base ≤ w.heap.size)
    (h : ∀ v' w', w'.ownsRow base 46 2 v' (n + 1) (olds ++ cE e) → w.grownBy w' v.ownBlock → wpListIn F d Try.prog ops Q rest (a.put o.dst v') w') : wpListIn F d Try.prog ops Q (o :: rest) a w := by
  obtain ⟨i0, hi, hz0, hz1, hz2⟩ := info_parts info46
  exact wpListIn_append_own w hgd s x 37 ho base 46 i0 _ 2 16 Try.underlying37 hi hz0 hz1 hz2 rfl (by decide) v n olds hs hown ad 1 c _ hx rfl hc (by have := cE_one [e]; simpa using this) (by unfold maxLen; omega) (by omega) hbase (fun v' w' h1 h2 _ => h v' w' h1 h2)

set_option maxRecDepth 100000 in
set_option maxHeartbeats 4000000 in
theorem runs_any (l : List Sect) (v : Value) (w : World) (hv : Sec w v l) (hl : l.length ≤ 1000) :
    Calls Try.prog 19 #[v] w fun e w' => ∃ v', e = .returned v' ∧ w'.ownsRow w.heap.size 46 2 v' (rns 0 l).length ((rns 0 l).map cE).flatten ∧ Below w.heap.size w w' := by
  obtain ⟨A, cap, rfl⟩ := sec_form hv
  have HV := hid hv
  clear hv
  refine (callsIn_wide (n := 3)).1 ?_
  refine callsIn_of_wp_marks Try.func19 rfl trivial ?_ rfl
  simp only [Try.ntmps19, List.size_toArray, List.length_cons, List.length_nil, Nat.reduceAdd, Nat.reduceSub, Array.replicate_succ, Array.replicate_zero, List.push_toArray, List.append_toArray, List.nil_append, List.cons_append]
  gi_wp2_with (refine ⟨trivial, ?_⟩; gi_at_call 23; refine (callsIn_wide.2 (groups_any _ _ _ _ _ rfl)).mono ?_; rintro e w2 ⟨rfl, rfl⟩)
  obtain ⟨W2, hW2⟩ : ∃ W2, ((w.alloc (.cells #[.slice none 0 0] 37)).alloc (.cells #[.int .i64 0] 3)).alloc (.cells #[.slice A l.length cap] 22) = W2 := ⟨_, rfl⟩
  have hz2 : W2.heap.size = w.heap.size + 3 := by rw [← hW2]; simp
  have hB2 : Below w.heap.size w W2 := by rw [← hW2]; exact (((Below.refl _ w).alloc (Nat.le_refl _) _).alloc (by simp) _).alloc (by simp; omega) _
  have hx2 : Boxed W2 w.heap.size 37 (.slice none 0 0) := by rw [← hW2]; exact (Below.heap_alloc _ _ _ (by simp; omega)).trans ((Below.heap_alloc _ _ _ (by simp)).trans (heap_alloc_new w _))
  have hp2 : Boxed W2 (w.heap.size + 1) 3 (.int .i64 0) := by
    rw [← hW2]
    refine (Below.heap_alloc _ _ _ (by simp)).trans ?_
    have h := heap_alloc_new (w.alloc (.cells #[.slice none 0 0] 37)) (.cells #[.int .i64 0] 3)
    rw [show (w.alloc (.cells #[.slice none 0 0] 37)).heap.size = w.heap.size + 1 by simp] at h
    exact h
  have hc2 : W2.cell? ⟨w.heap.size + 2, 0, none⟩ = some (.slice A l.length cap) := by
    rw [← hW2]
    have h := heap_alloc_new ((w.alloc (.cells #[.slice none 0 0] 37)).alloc (.cells #[.int .i64 0] 3)) (.cells #[.slice A l.length cap] 22)
    rw [show ((w.alloc (.cells #[.slice none 0 0] 37)).alloc (.cells #[.int .i64 0] 3)).heap.size = w.heap.size + 2 by simp] at h
    exact cell_of_row _ _ 0 _ _ _ h
  have hS := groups_streams 2 (w.heap.size + 2) l _ w W2 (by decide) HV.out (by omega) hB2 (by omega) hc2
  have HLL : Hid (l.length ≤ 1000) := hid hl
  rw [hW2]
  clear hW2 hc2 hl
  refine wpIn_rangeFunc_ownH rfl (by decide) (gf := 34) (lb := #[.pointer (some ⟨w.heap.size + 2, 0, none⟩)]) rfl trivial enters34 hS (fun h k => Kp.trans h k) (kp_put (by omega)) (Below.refl _ _) (fun _ => rfl)
    (fun pre W => ((Xe W w.heap.size w.heap.size (rnsK 0 (gpr pre)) ∧ Boxed W (w.heap.size + 1) 3 (.int .i64 (tot (gpr pre) : Nat))) ∧ Below w.heap.size w W) ∧ W2.heap.size ≤ W.heap.size)
    (fun _ _ _ => False)
    ?hI (fun _ _ _ _ _ hs _ _ => hs)
    ⟨⟨⟨⟨_, hx2, World.ownsRow_nil _ _ _ _⟩, hp2⟩, hB2⟩, Nat.le_refl _⟩
    (fun x a' W => ∃ gb, w.heap.size + 1 < gb ∧ a' = { tmps := #[.slice A l.length cap, undef, .slice none 0 0, .pointer (some ⟨w.heap.size, 0, none⟩), .pointer (some ⟨w.heap.size + 1, 0, none⟩), .pointer (some ⟨gb, 0, none⟩), undef, .slice A l.length cap, .func (.func 34) #[] #[.pointer (some ⟨w.heap.size + 2, 0, none⟩)], gval x.1, undef, undef, undef, undef, undef, undef, undef, undef, undef, undef, undef, undef, undef, undef, undef, undef, undef, undef, undef, undef], defers := [] } ∧ W.heap[gb]? = some (.cells #[.int .i64 (x.1.k : Int), .slice x.1.A x.1.g.length x.1.c] 53 (0, 0)))
    ?hA ?assign ?body ?done ?stop
  case hI =>
    exact OwnFrom.and (OwnFrom.and (fun s A B row hs hg hr => ⟨hs.1.kept hg (fun r e => (hr r e).2), boxed_kept hs.2 hg (fun r e => (hr r e).2)⟩) (ownFrom_below (Nat.le_refl _) (by omega))) (fun _ _ _ _ hs hg _ => Nat.le_trans hs hg.size)
  case hA =>
    rintro x a' s W W' row ⟨gb, h1, h2, h3⟩ hg hr
    refine ⟨gb, h1, h2, (hg.block _ (box_lt h3) (fun e => ?_)).trans h3⟩
    obtain ⟨_, o, ho, hoc⟩ := hr gb e.symm
    rw [h3] at ho
    cases ho
    cases hoc
  case assign =>
    rintro l0 pre x W K ⟨⟨hc, hB⟩, hz⟩ hK
    obtain ⟨⟨xk, xg, xA, xc⟩, hx⟩ := x
    have HK := hid hK
    have HI := hid (show ((Xe W w.heap.size w.heap.size (rnsK 0 (gpr pre)) ∧ Boxed W (w.heap.size + 1) 3 (.int .i64 (tot (gpr pre) : Nat))) ∧ Below w.heap.size w W) ∧ W2.heap.size ≤ W.heap.size from ⟨⟨hc, hB⟩, hz⟩)
    clear hK hc hB
    dsimp only [gval]
    gi_wp2
    have hI := HI.out
    have hlt : w.heap.size + 1 < W.heap.size := by omega
    exact HK.out _ _ ((KeepsOthers.alloc W _).from _) (kp_below (al1 W _) (by omega))
      ⟨⟨⟨hI.1.1.1.below (al1 W _), hI.1.1.2.alloc _⟩, hI.1.2.trans ((al1 W _).mono hI.1.2.size)⟩, by simp; omega⟩
      ⟨W.heap.size, hlt, rfl, heap_alloc_new W _⟩
  case body =>
    rintro l0 pre x a' W _ _ ⟨⟨⟨hbb, hpp⟩, hB⟩, hz⟩ ⟨gb, hgb, rfl, hgx⟩ hpl
    obtain ⟨⟨xk, xg, xA, xc⟩, hx⟩ := x
    have hN := tot_bound pre
    have hxl := hx.2.2.1
    have HLR : Hid (rnsK 0 (gpr (pre ++ [⟨⟨xk, xg, xA, xc⟩, hx⟩])) = rnsK 0 (gpr pre) ++ (if xk ≠ 0 ∧ 1 < xg.length then [(tot (gpr pre), xg.length)] else [])) := hid (by rw [gpr_snoc, rnsK_snoc]; simp)
    have HLT : Hid (tot (gpr (pre ++ [⟨⟨xk, xg, xA, xc⟩, hx⟩])) = tot (gpr pre) + xg.length) := hid (by rw [gpr_snoc, tot_snoc])
    dsimp only at hxl hgx
    obtain ⟨rs, hrs⟩ : ∃ rs, rnsK 0 (gpr pre) = rs := ⟨_, rfl⟩
    obtain ⟨P, hP⟩ : ∃ P, tot (gpr pre) = P := ⟨_, rfl⟩
    rw [hrs] at hbb HLR
    rw [hP] at hpp hN HLR HLT
    have hrl := rnsK_len (gpr pre) 0
    rw [hrs] at hrl
    have hgl : (gpr pre).length = pre.length := by simp [gpr]
    obtain ⟨vv, hbx, hown⟩ := hbb
    obtain ⟨rA, rc, rfl⟩ := own_form46 hown
    obtain ⟨N, hNe⟩ : ∃ N, rs.length = N := ⟨_, rfl⟩
    have HNE := hid hNe
    obtain ⟨m, hm⟩ : ∃ m, xg.length = m := ⟨_, rfl⟩
    rw [hm] at HLR HLT hgx hxl
    have hN1 : N ≤ 1000 := by have := HLL.out; omega
    have hP1 : P ≤ 100000000 := by have := HLL.out; omega
    rw [hNe] at hbx hown
    have HX := hid hbx
    have HO := hid hown
    have HP := hid hpp
    have HB := hid hB
    have HZ := hid hz
    have c0 := hbx.cell
    have f0 := hbx.frozen
    have c1 := hpp.cell
    have f1 := hpp.frozen
    have c2 : W.cell? ⟨gb, 0, none⟩ = some (.int .i64 (xk : Int)) := cell_of_row _ _ 0 _ _ _ hgx
    have c3 : W.cell? ⟨gb, 1, none⟩ = some (.slice xA m xc) := cell_of_row _ _ 1 _ _ _ hgx
    have HG := hid hgx
    rw [show (gval (⟨xk, xg, xA, xc⟩ : Grp)) = .agg #[.int .i64 (xk : Int), .slice xA m xc] by unfold gval; rw [hm]]
    clear hrs hP hN hrl hgl hNe hm hbx hown hpp hB hgx
    have hWz : w.heap.size + 3 ≤ W.heap.size := by omega
    by_cases hk : xk ≠ 0 ∧ 1 < m
    · have HLR2 : Hid (rnsK 0 (gpr (pre ++ [⟨⟨xk, xg, xA, xc⟩, hx⟩])) = rs ++ [(P, m)]) := hid (by rw [HLR.out, if_pos hk])
      have d1 : ((xk : Int) != 0) = true := by simp; omega
      have d2 : decide ((1 : Int) < (m : Int)) = true := by simp; omega
      clear hk
      gi_wp2_with (gi_at_builtin; (refine append_extIn rfl (.tmp 20) (.tmp 24) rfl w.heap.size (.slice rA N rc) N _ rfl (own_keep HO.out (keep_below (al1 _ _))) (P, m) ⟨W.heap.size, 0, none⟩ 1 rfl (fun j u hu => by rw [add_at', cell_of_row _ _ _ _ _ _ (heap_alloc_new W _)]; simpa [cE] using hu) (by omega) (by simp; omega) ?_; intro v1 w1 hown1 hg1; obtain ⟨a1, k1, rfl⟩ := own_form46 hown1; have HO1 := hid hown1; have HG1 := hid hg1; clear hown1 hg1; obtain ⟨hx1, hp1⟩ := runs_app HX.out HP.out HO.out HG1.out; have HX1 := hid hx1; have HP1 := hid hp1; have c5 := hx1.cell; have f5 := hx1.frozen; have hp2 := boxed_set (b := w.heap.size) (i := 0) (u := .slice a1 (N + 1) k1) hp1 (by omega); have c6 := hp2.cell; have f6 := hp2.frozen; have HP2 := hid hp2; clear hx1 hp1 hp2))
      have hb1 : Below w.heap.size w w1 := (HB.out.alloc (show w.heap.size ≤ W.heap.size by omega) _).grown HG1.out (by simp; omega) (fun k e => (HO.out.lt k e).1)
      have hst : Stp W2.heap.size w.heap.size W w1 := (stp_below (al1 W _) (by omega)).trans (stp_grown (own_keep HO.out (keep_below (al1 W _))) HG1.out (by decide) (Nat.le_refl _) (by simp; omega))
      obtain ⟨W5, hW5⟩ : ∃ W5, w1.setCell ⟨w.heap.size, 0, none⟩ (.slice a1 (N + 1) k1) = W5 := ⟨_, rfl⟩
      have hx5 : Boxed W5 w.heap.size 37 (.slice a1 (N + 1) k1) := by rw [← hW5]; exact HX1.out.set _
      have hp5 : Boxed W5 (w.heap.size + 1) 3 (.int .i64 (P : Int)) := by rw [← hW5]; exact HP2.out
      have ho5 : W5.ownsRow w.heap.size 46 2 (.slice a1 (N + 1) k1) (N + 1) ((rs.map cE).flatten ++ cE (P, m)) := by rw [← hW5]; exact own_keep HO1.out (keep_set HX1.out (by decide))
      have hst5 : Stp W2.heap.size w.heap.size W W5 := by rw [← hW5]; exact hst.trans (stp_set HX1.out (by decide) (Nat.le_refl _))
      have hb5 : Below w.heap.size w W5 := by rw [← hW5]; exact hb1.setCell (p := ⟨w.heap.size, 0, none⟩) (Nat.le_refl _) _
      have hz5 : W2.heap.size ≤ W5.heap.size := by have := hst5.size; omega
      rw [hW5]
      have hp9 : Boxed (W5.setCell ⟨w.heap.size + 1, 0, none⟩ (.int .i64 ((P : Int) + (m : Int)))) (w.heap.size + 1) 3 (.int .i64 ((P + m : Nat) : Int)) := hp5.set _
      have hx9 : Boxed (W5.setCell ⟨w.heap.size + 1, 0, none⟩ (.int .i64 ((P : Int) + (m : Int)))) w.heap.size 37 (.slice a1 (N + 1) k1) := boxed_set hx5 (by omega)
      have hst9 : Stp W2.heap.size w.heap.size W (W5.setCell ⟨w.heap.size + 1, 0, none⟩ (.int .i64 ((P : Int) + (m : Int)))) := hst5.trans (stp_set hp5 (by decide) (by omega))
      have hr := HLR2.out
      have ht := HLT.out
      have hnl : (rs ++ [(P, m)]).length = N + 1 := by rw [List.length_append, HNE.out]; rfl
      have hcl : ((rs ++ [(P, m)]).map cE).flatten = (rs.map cE).flatten ++ cE (P, m) := by rw [List.map_append, List.flatten_append]; simp
      exact ⟨hst9.kf, hst9.kp, ⟨⟨⟨by rw [hr]; exact ⟨_, hx9, by rw [hnl, hcl]; exact own_keep ho5 (keep_set hp5 (by decide))⟩, by rw [ht]; exact hp9⟩, hb5.setCell (p := ⟨w.heap.size + 1, 0, none⟩) (by simp) _⟩, by simp; omega⟩⟩
    · have HLR2 : Hid (rnsK 0 (gpr (pre ++ [⟨⟨xk, xg, xA, xc⟩, hx⟩])) = rs) := hid (by rw [HLR.out, if_neg hk, List.append_nil])
      by_cases h0 : xk = 0
      · have d1 : ((xk : Int) != 0) = false := by simp; omega
        clear hk h0
        gi_wp2
        have hp9 : Boxed (W.setCell ⟨w.heap.size + 1, 0, none⟩ (.int .i64 ((P : Int) + (m : Int)))) (w.heap.size + 1) 3 (.int .i64 ((P + m : Nat) : Int)) := HP.out.set _
        have hx9 : Boxed (W.setCell ⟨w.heap.size + 1, 0, none⟩ (.int .i64 ((P : Int) + (m : Int)))) w.heap.size 37 (.slice rA N rc) := boxed_set HX.out (by omega)
        have hst : Stp W2.heap.size w.heap.size W (W.setCell ⟨w.heap.size + 1, 0, none⟩ (.int .i64 ((P : Int) + (m : Int)))) := stp_set HP.out (by decide) (by omega)
        have hr := HLR2.out
        have ht := HLT.out
        exact ⟨hst.kf, hst.kp, ⟨⟨⟨by rw [hr]; exact ⟨_, hx9, by rw [HNE.out]; exact own_keep HO.out (keep_set HP.out (by decide))⟩, by rw [ht]; exact hp9⟩, HB.out.setCell (p := ⟨w.heap.size + 1, 0, none⟩) (by simp) _⟩, by simp; omega⟩⟩
      · have d1 : ((xk : Int) != 0) = true := by simp; omega
        have d2 : decide ((1 : Int) < (m : Int)) = false := by simp; omega
        clear hk h0
        gi_wp2
        have hp9 : Boxed (W.setCell ⟨w.heap.size + 1, 0, none⟩ (.int .i64 ((P : Int) + (m : Int)))) (w.heap.size + 1) 3 (.int .i64 ((P + m : Nat) : Int)) := HP.out.set _
        have hx9 : Boxed (W.setCell ⟨w.heap.size + 1, 0, none⟩ (.int .i64 ((P : Int) + (m : Int)))) w.heap.size 37 (.slice rA N rc) := boxed_set HX.out (by omega)
        have hst : Stp W2.heap.size w.heap.size W (W.setCell ⟨w.heap.size + 1, 0, none⟩ (.int .i64 ((P : Int) + (m : Int)))) := stp_set HP.out (by decide) (by omega)
        have hr := HLR2.out
        have ht := HLT.out
        exact ⟨hst.kf, hst.kp, ⟨⟨⟨by rw [hr]; exact ⟨_, hx9, by rw [HNE.out]; exact own_keep HO.out (keep_set HP.out (by decide))⟩, by rw [ht]; exact hp9⟩, HB.out.setCell (p := ⟨w.heap.size + 1, 0, none⟩) (by simp) _⟩, by simp; omega⟩⟩
  case done =>
    rintro D ys W hD hys ⟨⟨⟨hbb, hpp⟩, hB⟩, _⟩ hK
    rw [hys, ← rns_grps _ l 0 (Nat.le_refl _)] at hbb
    obtain ⟨vv, hbx, hown⟩ := hbb
    obtain ⟨vA, vc, rfl⟩ := own_form46 hown
    have hc := hbx.cell
    have HO := hid hown
    clear hbx hown
    gi_wp2
    refine ⟨by simp, .inl ⟨_, _, rfl, run_takeDeferred hK, ?_⟩⟩
    exact ⟨_, results_tmp rfl _ _ _, ⟨_, rfl, own_keep HO.out (fun k cs hk => (World.putObj_heap_other (fun e => by subst e; rw [hK] at hk; cases hk)).trans hk), hB.trans (belowK_b (w := w) (Nat.le_refl _) W D _ _ (by omega) hK rfl rfl)⟩⟩
  case stop =>
    rintro D c pre W _ _ h _
    exact h.elim
end Go.Proofs.Ytielamoaghibgaa
