/- The encoder's longest. -/
import Derived.Test.YtldlddoealpomaaFe
namespace Go.Proofs.Ytldlddoealpomaa
open Go.RowKit Go.Lib Go.Shelf Go.Maps Go.WideElems
attribute [local go_sem] Oper.semAt_some

theorem cm_end (x : List Nat) (p a : Nat) : ∀ f n, cm x p a f n ≤ max n (x.length - a)
  | 0, n => by rw [cm]; omega
  | f + 1, n => by
    rw [cm]
    split
    · have := cm_end x p a f (n + 1); omega
    · omega
theorem bst_short {x : List Nat} {a : Nat} (h : ¬ a + 4 ≤ x.length) : ∀ d, bst x a d = (0, 0)
  | 0 => rfl
  | d + 1 => by
    have := cm_end x (a - (d + 1)) a 131 0
    rw [bst, if_neg (by omega), bst_short h d]
theorem St.below {W0 w w' : World} {g a : Nat} {x l : List Nat} {vx : Value} (h : St W0 w g x vx a l) (hb : Below w.heap.size w w') : St W0 w' g x vx a l := by
  obtain ⟨vt, h1, h2, h3, h4, h5⟩ := h
  exact ⟨vt, (hb.block g (box_lt h1)).trans h1, own_keep h2 (keep_below hb), h3.below hb, h4.trans (hb.mono h4.size), h5⟩
theorem box_set {w : World} {g : Nat} {cs : List Value} {t : TypeId} (h : w.heap[g]? = some (.cells cs.toArray t)) (i : Nat) (v : Value) : (w.setCell ⟨g, i, none⟩ v).heap[g]? = some (.cells (cs.set i v).toArray t) := by
  show (w.heap.modify g _)[g]? = _
  obtain ⟨hlt, hk⟩ := Array.getElem?_eq_some_iff.1 h
  rw [Array.getElem?_eq_getElem (by rw [Array.size_modify]; exact hlt), Array.getElem_modify_self, hk]
  simp
theorem set68 {w : World} {g : Nat} {a b : Value} (u v : Value) (h : w.heap[g]? = some (.cells #[a, b] 68)) : ((w.setCell ⟨g, 0, none⟩ u).setCell ⟨g, 1, none⟩ v).heap[g]? = some (.cells #[u, v] 68) := box_set (box_set (cs := [a, b]) h 0 u) 1 v
set_option maxRecDepth 100000 in
theorem kb_put {n₀ : Nat} {w : World} (hn : n₀ ≤ w.heap.size) (W : World) (l : Nat) (o o' : Obj) (hl : w.heap.size ≤ l) (h : W.heap[l]? = some o) (hc : o.isCells = false) (hw : o.isWalk = false) : Kb n₀ W (W.putObj l o') :=
  ⟨belowK_b hn W l o o' hl h hc hw, fun k cs hk => (World.putObj_heap_other (fun e => by subst e; rw [h] at hk; cases hk; cases hc)).trans hk⟩
/-- The boxes of longest. -/
structure Lg (W : World) (h g a D N : Nat) : Prop where
  b0 : W.heap[h]? = some (.cells #[.pointer (some ⟨g, 0, none⟩)] 66)
  b1 : W.heap[h + 1]? = some (.cells #[.int .i64 (a : Int)] 3)
  b2 : W.heap[h + 2]? = some (.cells #[.int .i64 0, .int .i64 0] 68)
  b3 : W.heap[h + 3]? = some (.cells #[.int .i64 (D : Int), .int .i64 (N : Int)] 68)
theorem cells_stay {A B : World} {k : Nat} {cs : Array Value} {T : TypeId} {row : Option Nat} {n : Nat} (hs : A.heap[k]? = some (.cells cs T)) (hg : A.grownBy B row) (hr : ∀ r, row = some r → n ≤ r ∧ ∃ o : Obj, A.heap[r]? = some o ∧ o.isCells = false) : B.heap[k]? = some (.cells cs T) :=
  (hg.block k (box_lt hs) (fun e => by obtain ⟨_, o, ho, hoc⟩ := hr k e.symm; rw [hs] at ho; cases ho; cases hoc)).trans hs
theorem Lg.stay {A B : World} {h g a D N n : Nat} {row : Option Nat} (hs : Lg A h g a D N) (hg : A.grownBy B row) (hr : ∀ r, row = some r → n ≤ r ∧ ∃ o : Obj, A.heap[r]? = some o ∧ o.isCells = false) : Lg B h g a D N :=
  ⟨cells_stay hs.b0 hg hr, cells_stay hs.b1 hg hr, cells_stay hs.b2 hg hr, cells_stay hs.b3 hg hr⟩
/-- Between two rounds of longest. -/
def LI (w : World) (h g a : Nat) (x : List Nat) (pre : List (Ent a)) (W : World) : Prop := ((∀ p ∈ ents pre, a - p ≤ 4096) ∧ Lg W h g a ((ents pre).foldl (stp x a) (0, 0)).1 ((ents pre).foldl (stp x a) (0, 0)).2) ∧ Below w.heap.size w W
/-- A round of longest has left. -/
def LX (w : World) (h g a : Nat) (x : List Nat) (c : Go.Code) (xs : List (Ent a)) (W : World) : Prop := c = .exit 0 ∧ (∃ pre y, xs = pre ++ [y] ∧ (∀ p ∈ ents pre, a - p ≤ 4096) ∧ (4096 < a - y.1.2 ∨ ((ents pre).foldl (stp x a) (0, 0)).2 = 131) ∧ Lg W h g a ((ents pre).foldl (stp x a) (0, 0)).1 ((ents pre).foldl (stp x a) (0, 0)).2) ∧ Below w.heap.size w W
theorem lg_draw {A : World} {h g a D N : Nat} (hs : Lg A h g a D N) (q : Nat) : Lg (A.drewN q) h g a D N := ⟨hs.b0, hs.b1, hs.b2, hs.b3⟩
set_option maxRecDepth 100000 in
theorem lv68 {w : World} {g : Nat} {a b : Value} (hg : w.heap[g]? = some (.cells #[a, b] 68)) : (loadVar 68 ⟨g, 0, none⟩).run Try.prog w = .ok (.agg #[a, b]) w := run_loadVar_row w g 68 68 #[a, b] (0, 0) _ hg Try.underlying68 rfl rfl
set_option maxHeartbeats 4000000 in
set_option maxRecDepth 100000 in
theorem longest_any (W0 w : World) (g a : Nat) (x l : List Nat) (vx : Value) (hs : St W0 w g x vx a l) (hx : Byt W0 vx x) (hxl : x.length ≤ 1000000000) (hal : a ≤ x.length) :
    Calls Try.prog 43 #[.pointer (some ⟨g, 0, none⟩), .int .i64 (a : Int)] w fun e w' => e = .returned (.agg #[.int .i64 ((bst x a (min 4096 a)).1 : Int), .int .i64 ((bst x a (min 4096 a)).2 : Int)]) ∧ Below w.heap.size w w' := by
  obtain ⟨vt, hb, ho, hp, hbw, hg0⟩ := hs
  obtain ⟨A, c, rfl⟩ := byt_form hx
  obtain ⟨n, hn⟩ : ∃ n, x.length = n := ⟨_, rfl⟩
  have hcap := byt_cap hx
  rw [hn] at hx hcap hxl hal hb
  obtain ⟨W1, hW1⟩ : ∃ W1, (((w.alloc (.cells #[.pointer (some ⟨g, 0, none⟩)] 66)).alloc (.cells #[.int .i64 (a : Int)] 3)).alloc (.cells #[.int .i64 0, .int .i64 0] 68)).alloc (.cells #[.int .i64 0, .int .i64 0] 68) = W1 := ⟨_, rfl⟩
  obtain ⟨h, hh⟩ : ∃ h, w.heap.size = h := ⟨_, rfl⟩
  have hb1 : Below w.heap.size w W1 := by rw [← hW1]; exact ((((Below.refl _ w).alloc (Nat.le_refl _) _).alloc (by simp) _).alloc (by simp; omega) _).alloc (by simp; omega) _
  have ht2 : W1.heap[h]? = some (.cells #[.pointer (some ⟨g, 0, none⟩)] 66) := by rw [← hW1, ← hh]; exact (Below.heap_alloc _ _ _ (by simp; omega)).trans ((Below.heap_alloc _ _ _ (by simp; omega)).trans ((Below.heap_alloc _ _ _ (by simp)).trans (heap_alloc_new w _)))
  have ht3 : W1.heap[h + 1]? = some (.cells #[.int .i64 (a : Int)] 3) := by
    rw [← hW1, ← hh]
    refine (Below.heap_alloc _ _ _ (by simp)).trans ((Below.heap_alloc _ _ _ (by simp)).trans ?_)
    simpa using heap_alloc_new (w.alloc (.cells #[.pointer (some ⟨g, 0, none⟩)] 66)) (.cells #[.int .i64 (a : Int)] 3)
  have ht4 : W1.heap[h + 2]? = some (.cells #[.int .i64 0, .int .i64 0] 68) := by
    rw [← hW1, ← hh]
    refine (Below.heap_alloc _ _ _ (by simp)).trans ?_
    simpa using heap_alloc_new ((w.alloc (.cells #[.pointer (some ⟨g, 0, none⟩)] 66)).alloc (.cells #[.int .i64 (a : Int)] 3)) (.cells #[.int .i64 0, .int .i64 0] 68)
  have ht5 : W1.heap[h + 3]? = some (.cells #[.int .i64 0, .int .i64 0] 68) := by
    rw [← hW1, ← hh]
    simpa using heap_alloc_new (((w.alloc (.cells #[.pointer (some ⟨g, 0, none⟩)] 66)).alloc (.cells #[.int .i64 (a : Int)] 3)).alloc (.cells #[.int .i64 0, .int .i64 0] 68)) (.cells #[.int .i64 0, .int .i64 0] 68)
  have hz1 : W1.heap.size = h + 4 := by rw [← hW1, ← hh]; simp
  have hgb := (hb1.block g (box_lt hb)).trans hb
  have HX := hid hx
  have HXN := hid hn
  have HST : Hid (St W0 W1 g x (.slice A n c) a l) := hid (St.below ⟨vt, hb, ho, hp, hbw, hg0⟩ hb1)
  have HPW := hid hp
  have HBW0 := hid hbw
  have HGW := hid hb
  have HB1 := hid hb1
  have HT2 := hid ht2
  have HT3 := hid ht3
  have HT4 := hid ht4
  have HT5 := hid ht5
  have HZ1 := hid hz1
  have HW1 := hid hW1
  have HH := hid hh
  have HGB := hid hgb
  have c1 := cell_of_row _ _ 1 _ _ _ hgb
  have c2 := cell_of_row _ _ 2 _ _ _ hgb
  have e2 := cell_of_row _ _ 0 _ _ _ ht2
  have e3 := cell_of_row _ _ 0 _ _ _ ht3
  have e40 := cell_of_row _ _ 0 _ _ _ ht4
  have e41 := cell_of_row _ _ 1 _ _ _ ht4
  have e50 := cell_of_row _ _ 0 _ _ _ ht5
  have e51 := cell_of_row _ _ 1 _ _ _ ht5
  have f40 := box_fr ht4 0
  have f41 := box_fr ht4 1
  have hwr : IntKind.i64.wrap ((n : Int) - 4) = (n : Int) - 4 := by rw [IntKind.wrap_i64]; omega
  clear hb ho hp hbw hx hn hb1 ht2 ht3 ht4 ht5 hz1 hgb hW1 hh
  refine (callsIn_wide (n := 3)).1 ?_
  refine callsIn_of_wp_marks Try.func43 rfl trivial ?_ rfl
  simp only [Try.ntmps43, List.size_toArray, List.length_cons, List.length_nil, Nat.reduceAdd, Nat.reduceSub, Array.replicate_succ, Array.replicate_zero, List.push_toArray, List.append_toArray, List.nil_append, List.cons_append]
  by_cases h4 : a + 4 ≤ n
  · have d1 : decide ((n : Int) - 4 < (a : Int)) = false := decide_eq_false (by omega)
    gi_wp2_with fail
    rw [HW1.out, HH.out]
    gi_quiet (fail)
    obtain ⟨b, off, rfl, hbl, hc⟩ := byt_at HX.out (by rw [HXN.out]; omega)
    obtain ⟨κ, hκ⟩ : ∃ κ, (x.drop a).take 4 = κ := ⟨_, rfl⟩
    obtain ⟨k0, k1, k2, k3, hk⟩ : ∃ k0 k1 k2 k3, κ = [k0, k1, k2, k3] := by
      have hl : κ.length = 4 := by rw [← hκ, List.length_take, List.length_drop, HXN.out]; omega
      match κ, hl with
      | [p, q, r, s], _ => exact ⟨p, q, r, s, rfl⟩
    have hB4 : B4 κ := ⟨by rw [hk]; rfl, by rw [← hκ]; exact b8_take (b8_drop HX.out.1 a) 4⟩
    obtain ⟨vt1, hs1, hs2, hs3, hs4, hs5⟩ := HST.out
    have hat : ∀ (i y : Nat), κ[i]? = some y → W1.cell? ⟨b, off + a + i, none⟩ = some (.int .u8 (y : Int)) := fun i y hi => by
      rw [← hκ, List.getElem?_take] at hi
      split at hi
      · rw [List.getElem?_drop] at hi
        have h := hc (a + i) y hi
        rw [show off + (a + i) = off + a + i by omega] at h
        exact (hs4.cell (p := ⟨b, off + a + i, none⟩) hbl).trans h
      · cases hi
    have q0 := hat 0 k0 (by rw [hk]; rfl)
    have q1 := hat 1 k1 (by rw [hk]; rfl)
    have q2 := hat 2 k2 (by rw [hk]; rfl)
    have q3 := hat 3 k3 (by rw [hk]; rfl)
    rw [Nat.add_zero] at q0
    have hfrom : fromA (some ⟨b, off, none⟩) c a = some ⟨b, off + a, none⟩ := by unfold fromA; rw [if_neg (by omega)]; simp [Addr.add]
    have hsl := run_slice_from (some ⟨b, off, none⟩) n c a (by omega)
    rw [hfrom] at hsl
    have haa := run_arrayAt95 ⟨b, off + a, none⟩ (n - a) (c - a) (by omega)
    obtain ⟨v, hown, hlk⟩ := plc_look' HPW.out hB4
    obtain ⟨esw, clw, hbmw, _⟩ := HPW.out
    have hbm1 := (HB1.out.block _ (box_lt hbmw)).trans hbmw
    have hpos := pos_of hown
    obtain ⟨vA, vc, hve, hvc⟩ := id hpos
    obtain ⟨P, hP⟩ : ∃ P, PF x a κ = P := ⟨_, rfl⟩
    rw [hP] at hown hpos hve hvc
    have hPm : P.reverse = Md x a a := by rw [← hP, ← hκ]; exact places_md (by rw [HXN.out]; exact h4)
    have hPl : P.length ≤ a := by rw [← hP]; exact pf_len x a κ
    have hPa : ∀ p ∈ P, p < a := fun p hp => by rw [← hP] at hp; exact pf_lt hp
    have hlk2 : ∀ q, (Instr.lookup 47 (.map (some W0.heap.size)) (.agg #[.int .u8 (k0 : Int), .int .u8 (k1 : Int), .int .u8 (k2 : Int), .int .u8 (k3 : Int)]) false).run Try.prog (W1.drewN q) = .ok v (W1.drewN q) := fun q => by
      have h := hlk (W1.drewN q) (hbm1.trans hbmw.symm)
      rw [hk] at h
      exact h
    subst hve
    obtain ⟨M, hM⟩ : ∃ M, P.length = M := ⟨_, rfl⟩
    rw [hM] at hlk2
    have HPO := hid (show Pos w (.slice vA M vc) P by rw [hM] at hpos; exact hpos)
    have HPM := hid hPm
    have HPA := hid hPa
    have HM := hid hM
    clear hat hc hκ hk hB4 hs1 hs2 hs3 hs5 hown hlk hpos hvc hP hPm hPa hfrom vt1
    gi_wp2_with fail
    have hHeld : (fun X : World => X.cell? ⟨h, 0, none⟩ = some (.pointer (some ⟨g, 0, none⟩)) ∧ X.cell? ⟨h + 1, 0, none⟩ = some (.int .i64 (a : Int)) ∧ X.cell? ⟨g, 1, none⟩ = some (.slice (some ⟨b, off, none⟩) n c) ∧ X.cell? ⟨g, 2, none⟩ = some (.map (some W0.heap.size)) ∧ X.cell? ⟨b, off + a, none⟩ = some (.int .u8 (k0 : Int)) ∧ X.cell? ⟨b, off + a + 1, none⟩ = some (.int .u8 (k1 : Int)) ∧ X.cell? ⟨b, off + a + 2, none⟩ = some (.int .u8 (k2 : Int)) ∧ X.cell? ⟨b, off + a + 3, none⟩ = some (.int .u8 (k3 : Int)) ∧ (Instr.lookup 47 (.map (some W0.heap.size)) (.agg #[.int .u8 (k0 : Int), .int .u8 (k1 : Int), .int .u8 (k2 : Int), .int .u8 (k3 : Int)]) false).run Try.prog X = .ok (.slice vA M vc) X) (W1.drewN (nq + 1)) := ⟨e2, e3, c1, c2, q0, q1, q2, q3, hlk2 (nq + 1)⟩
    dsimp only at hHeld
    refine wpIn_wide.2 ?_
    refine' wp_mono (Q := Exit.then (fun a' w' => a' = ({ tmps := #[Value.pointer (some ⟨g, 0, none⟩), .int .i64 (a : Int), .pointer (some ⟨h, 0, none⟩), .pointer (some ⟨h + 1, 0, none⟩), .pointer (some ⟨h + 1 + 1, 0, none⟩), .pointer (some ⟨h + 1 + 1 + 1, 0, none⟩), undef, undef, undef, undef, .int .i64 (a : Int), .pointer (some ⟨g, 0, none⟩), .pointer (some ⟨g, 0, none⟩), .pointer (some ⟨g, 1, none⟩), .slice (some ⟨b, off, none⟩) n c, .int .i64 (n : Int), .int .i64 ((n : Int) - 4), .bool false, undef, .pointer (some ⟨g, 0, none⟩), .pointer (some ⟨g, 0, none⟩), .pointer (some ⟨g, 2, none⟩), .map (some W0.heap.size), .pointer (some ⟨g, 0, none⟩), .pointer (some ⟨g, 0, none⟩), .pointer (some ⟨g, 1, none⟩), .slice (some ⟨b, off, none⟩) n c, .int .i64 (a : Int), .slice (some ⟨b, off + a, none⟩) (n - a) (c - a), .pointer (some ⟨b, off + a, none⟩), .agg #[.int .u8 (k0 : Int), .int .u8 (k1 : Int), .int .u8 (k2 : Int), .int .u8 (k3 : Int)], .slice vA M vc, .func (.func 70) #[] #[.pointer (some ⟨(W1.drewN (nq + 1)).heap.size, 0, none⟩)], undef, undef, undef, undef, undef, undef, undef, undef, undef, undef, undef, undef, undef, undef, undef, undef, undef, undef, undef, undef, undef, undef, undef, undef], defers := [] } : Act) ∧ w' = (W1.drewN (nq + 1)).alloc (.cells #[.slice vA M vc] 96)) (fun _ _ _ => False)) ?lgh ?lgq
    case lgh =>
     refine region_tail 13 (fun X => X.cell? ⟨h, 0, none⟩ = some (.pointer (some ⟨g, 0, none⟩)) ∧ X.cell? ⟨h + 1, 0, none⟩ = some (.int .i64 (a : Int)) ∧ X.cell? ⟨g, 1, none⟩ = some (.slice (some ⟨b, off, none⟩) n c) ∧ X.cell? ⟨g, 2, none⟩ = some (.map (some W0.heap.size)) ∧ X.cell? ⟨b, off + a, none⟩ = some (.int .u8 (k0 : Int)) ∧ X.cell? ⟨b, off + a + 1, none⟩ = some (.int .u8 (k1 : Int)) ∧ X.cell? ⟨b, off + a + 2, none⟩ = some (.int .u8 (k2 : Int)) ∧ X.cell? ⟨b, off + a + 3, none⟩ = some (.int .u8 (k3 : Int)) ∧ (Instr.lookup 47 (.map (some W0.heap.size)) (.agg #[.int .u8 (k0 : Int), .int .u8 (k1 : Int), .int .u8 (k2 : Int), .int .u8 (k3 : Int)]) false).run Try.prog X = .ok (.slice vA M vc) X) (by kernel_rfl) ?_
     rw [show (W1.drewN nq).drew = W1.drewN (nq + 1) from rfl]
     clear e2 e3 c1 c2 q0 q1 q2 q3 hlk2 d1 hwr
     refine' wpAnyT_take (i := 0) (oi := ?oilg0) (v := ?vlg0) ?hilg0 (by kernel_rfl) (by kernel_rfl) ?hqlg0 ?hylg0 hHeld ?restlg0
     case hilg0 => (simp only [List.getElem?_toArray, List.getElem?_cons_zero]; rfl)
     case hqlg0 => exact fun _ _ _ h => h
     case hylg0 => (refine Or.inl ⟨by rfl, ?_⟩; intro w' hSw; (try dsimp only at hSw); go_simp; try with_reducible rfl)
     (try simp only [Act.put, List.setIfInBounds_toArray, List.set_cons_zero, List.set_cons_succ])
     refine' wpAnyT_take (i := 1) (oi := ?oilg1) (v := ?vlg1) ?hilg1 (by kernel_rfl) (by kernel_rfl) ?hqlg1 ?hylg1 hHeld ?restlg1
     case hilg1 => (simp only [List.getElem?_toArray, List.getElem?_cons_zero, List.getElem?_cons_succ]; rfl)
     case hqlg1 => exact fun _ _ _ h => h
     case hylg1 => (refine Or.inl ⟨by rfl, ?_⟩; intro w' hSw; (try dsimp only at hSw); go_simp; try with_reducible rfl)
     (try simp only [Act.put, List.setIfInBounds_toArray, List.set_cons_zero, List.set_cons_succ])
     refine' wpAnyT_take (i := 2) (oi := ?oilg2) (v := ?vlg2) ?hilg2 (by kernel_rfl) (by kernel_rfl) ?hqlg2 ?hylg2 hHeld ?restlg2
     case hilg2 => (simp only [List.getElem?_toArray, List.getElem?_cons_zero, List.getElem?_cons_succ]; rfl)
     case hqlg2 => exact fun _ _ _ h => h
     case hylg2 => (refine Or.inl ⟨by rfl, ?_⟩; intro w' hSw; (try dsimp only at hSw); go_simp; try with_reducible rfl)
     (try simp only [Act.put, List.setIfInBounds_toArray, List.set_cons_zero, List.set_cons_succ])
     refine' wpAnyT_take (i := 3) (oi := ?oilg3) (v := ?vlg3) ?hilg3 (by kernel_rfl) (by kernel_rfl) ?hqlg3 ?hylg3 hHeld ?restlg3
     case hilg3 => (simp only [List.getElem?_toArray, List.getElem?_cons_zero, List.getElem?_cons_succ]; rfl)
     case hqlg3 => exact fun _ _ _ h => h
     case hylg3 => (refine Or.inl ⟨by rfl, ?_⟩; intro w' hSw; (try dsimp only at hSw); go_simp; try with_reducible rfl)
     (try simp only [Act.put, List.setIfInBounds_toArray, List.set_cons_zero, List.set_cons_succ])
     refine' wpAnyT_take (i := 4) (oi := ?oilg4) (v := ?vlg4) ?hilg4 (by kernel_rfl) (by kernel_rfl) ?hqlg4 ?hylg4 hHeld ?restlg4
     case hilg4 => (simp only [List.getElem?_toArray, List.getElem?_cons_zero, List.getElem?_cons_succ]; rfl)
     case hqlg4 => exact fun _ _ _ h => h
     case hylg4 => (refine Or.inl ⟨by rfl, ?_⟩; intro w' hSw; (try dsimp only at hSw); go_simp; try with_reducible rfl)
     (try simp only [Act.put, List.setIfInBounds_toArray, List.set_cons_zero, List.set_cons_succ])
     refine' wpAnyT_take (i := 5) (oi := ?oilg5) (v := ?vlg5) ?hilg5 (by kernel_rfl) (by kernel_rfl) ?hqlg5 ?hylg5 hHeld ?restlg5
     case hilg5 => (simp only [List.getElem?_toArray, List.getElem?_cons_zero, List.getElem?_cons_succ]; rfl)
     case hqlg5 => exact fun _ _ _ h => h
     case hylg5 => (refine Or.inl ⟨by rfl, ?_⟩; intro w' hSw; (try dsimp only at hSw); go_simp; try with_reducible rfl)
     (try simp only [Act.put, List.setIfInBounds_toArray, List.set_cons_zero, List.set_cons_succ])
     refine' wpAnyT_take (i := 6) (oi := ?oilg6) (v := ?vlg6) ?hilg6 (by kernel_rfl) (by kernel_rfl) ?hqlg6 ?hylg6 hHeld ?restlg6
     case hilg6 => (simp only [List.getElem?_toArray, List.getElem?_cons_zero, List.getElem?_cons_succ]; rfl)
     case hqlg6 => exact fun _ _ _ h => h
     case hylg6 => (refine Or.inl ⟨by rfl, ?_⟩; intro w' hSw; (try dsimp only at hSw); go_simp; try with_reducible rfl)
     (try simp only [Act.put, List.setIfInBounds_toArray, List.set_cons_zero, List.set_cons_succ])
     refine' wpAnyT_take (i := 7) (oi := ?oilg7) (v := ?vlg7) ?hilg7 (by kernel_rfl) (by kernel_rfl) ?hqlg7 ?hylg7 hHeld ?restlg7
     case hilg7 => (simp only [List.getElem?_toArray, List.getElem?_cons_zero, List.getElem?_cons_succ]; rfl)
     case hqlg7 => exact fun _ _ _ h => h
     case hylg7 => (refine Or.inl ⟨by rfl, ?_⟩; intro w' hSw; (try dsimp only at hSw); go_simp; try with_reducible rfl)
     (try simp only [Act.put, List.setIfInBounds_toArray, List.set_cons_zero, List.set_cons_succ])
     refine' wpAnyT_take (i := 8) (oi := ?oilg8) (v := ?vlg8) ?hilg8 (by kernel_rfl) (by kernel_rfl) ?hqlg8 ?hylg8 hHeld ?restlg8
     case hilg8 => (simp only [List.getElem?_toArray, List.getElem?_cons_zero, List.getElem?_cons_succ]; rfl)
     case hqlg8 => exact fun _ _ _ h => h
     case hylg8 => (refine Or.inl ⟨by rfl, ?_⟩; intro w' hSw; (try dsimp only at hSw); go_simp; try with_reducible rfl)
     (try simp only [Act.put, List.setIfInBounds_toArray, List.set_cons_zero, List.set_cons_succ])
     refine' wpAnyT_take (i := 9) (oi := ?oilg9) (v := ?vlg9) ?hilg9 (by kernel_rfl) (by kernel_rfl) ?hqlg9 ?hylg9 hHeld ?restlg9
     case hilg9 => (simp only [List.getElem?_toArray, List.getElem?_cons_zero, List.getElem?_cons_succ]; rfl)
     case hqlg9 => exact fun _ _ _ h => h
     case hylg9 => (refine Or.inl ⟨by rfl, ?_⟩; intro w' hSw; (try dsimp only at hSw); go_simp; try with_reducible rfl)
     (try simp only [Act.put, List.setIfInBounds_toArray, List.set_cons_zero, List.set_cons_succ])
     refine' wpAnyT_take (i := 10) (oi := ?oilg10) (v := ?vlg10) ?hilg10 (by kernel_rfl) (by kernel_rfl) ?hqlg10 ?hylg10 hHeld ?restlg10
     case hilg10 => (simp only [List.getElem?_toArray, List.getElem?_cons_zero, List.getElem?_cons_succ]; rfl)
     case hqlg10 => exact fun _ _ _ h => h
     case hylg10 => (refine Or.inl ⟨by rfl, ?_⟩; intro w' hSw; (try dsimp only at hSw); go_simp; try with_reducible rfl)
     (try simp only [Act.put, List.setIfInBounds_toArray, List.set_cons_zero, List.set_cons_succ])
     refine' wpAnyT_take (i := 11) (oi := ?oilg11) (v := ?vlg11) ?hilg11 (by kernel_rfl) (by kernel_rfl) ?hqlg11 ?hylg11 hHeld ?restlg11
     case hilg11 => (simp only [List.getElem?_toArray, List.getElem?_cons_zero, List.getElem?_cons_succ]; rfl)
     case hqlg11 => exact fun _ _ _ h => h
     case hylg11 => (refine Or.inl ⟨by rfl, ?_⟩; intro w' hSw; (try dsimp only at hSw); go_simp; try with_reducible rfl)
     (try simp only [Act.put, List.setIfInBounds_toArray, List.set_cons_zero, List.set_cons_succ])
     refine' wpAnyT_take (i := 12) (oi := ?oilg12) (v := ?vlg12) ?hilg12 (by kernel_rfl) (by kernel_rfl) ?hqlg12 ?hylg12 hHeld ?restlg12
     case hilg12 => (simp only [List.getElem?_toArray, List.getElem?_cons_zero, List.getElem?_cons_succ]; rfl)
     case hqlg12 => exact fun _ _ _ h => h
     case hylg12 => (refine Or.inl ⟨by rfl, ?_⟩; intro w' hSw; (try dsimp only at hSw); go_simp; try with_reducible rfl)
     (try simp only [Act.put, List.setIfInBounds_toArray, List.set_cons_zero, List.set_cons_succ])
     refine' wpAnyT_one (i := 13) (o := ?oilg13) (by kernel_rfl) ?hilg13 (fun K hK => ?stlg13)
     case hilg13 => (simp only [List.getElem?_toArray, List.getElem?_cons_zero, List.getElem?_cons_succ]; rfl)
     go_simp
     go_at_call 59
     refine (backward_any _ _ _ _ _ rfl).mono ?_
     rintro e w2 ⟨rfl, hw2⟩
     subst hw2
     go_simp
     refine hK.out _ _ (fun h => absurd h (by decide)) ?_
     clear hK K
     (try simp only [Act.put, List.setIfInBounds_toArray, List.set_cons_zero, List.set_cons_succ])
     refine wpAnyT_done (by kernel_rfl) ?_ _
     exact ⟨rfl, rfl⟩
    case lgq =>
     intro e a' w' hq
     cases e with
     | normal =>
       obtain ⟨rfl, rfl⟩ := hq
       have hz5 : (W1.drewN (nq + 1)).heap.size = h + 4 := HZ1.out
       rw [hz5]
       obtain ⟨W2, hW2⟩ : ∃ W2, (W1.drewN (nq + 1)).alloc (.cells #[.slice vA M vc] 96) = W2 := ⟨_, rfl⟩
       rw [hW2]
       have hb01 : Below w.heap.size w (W1.drewN (nq + 1)) := ⟨HB1.out.os, HB1.out.tape, HB1.out.output, HB1.out.size, HB1.out.block⟩
       have hb02 : Below w.heap.size w W2 := by rw [← hW2]; exact hb01.trans ((al1 _ _).mono hb01.size)
       have hsz2 : W2.heap.size = h + 5 := by rw [← hW2]; simp; exact HZ1.out
       have hbx2 : W2.heap[h + 4]? = some (.cells #[.slice vA M vc] 96) := by rw [← hW2, ← hz5]; exact heap_alloc_new _ _
       have hold : ∀ (k : Nat) (o : Obj), W1.heap[k]? = some o → W2.heap[k]? = some o := fun k o hk => by
         rw [← hW2]; exact (Below.heap_alloc _ _ _ (box_lt (show (W1.drewN (nq + 1)).heap[k]? = _ from hk))).trans hk
       have hlg : Lg W2 h g a 0 0 := ⟨hold _ _ HT2.out, hold _ _ HT3.out, hold _ _ HT4.out, hold _ _ HT5.out⟩
       have hS := back_streams 2 (h + 4) a P (.slice vA M vc) w W2 (by decide) HPO.out HPA.out (by rw [HM.out]; omega) hb02 hbx2
       have HS := hid hS
       have HLG := hid hlg
       have HB02 := hid hb02
       have hM2 : P.length = M := HM.out
       clear hS hlg hold hbx2 hb01 hW2 hz5
       gi_wp2_with fail
       refine wpIn_rangeFunc_ownG rfl (by decide) (gf := 70) (lb := #[.pointer (some ⟨h + 4, 0, none⟩)]) rfl trivial enters70 HS.out (fun h k => Kb.trans h k) (kb_put (by rw [HH.out, hsz2]; omega)) (Below.refl _ _) (fun _ => rfl)
         (LI w h g a x) (LX w h g a x)
         ?hI ?hIx ⟨⟨(fun p hp => by simp [ents] at hp), HLG.out⟩, HB02.out⟩
         (fun y : Ent a => { tmps := #[Value.pointer (some ⟨g, 0, none⟩), .int .i64 (a : Int), .pointer (some ⟨h, 0, none⟩), .pointer (some ⟨h + 1, 0, none⟩), .pointer (some ⟨h + 1 + 1, 0, none⟩), .pointer (some ⟨h + 1 + 1 + 1, 0, none⟩), undef, .int .i64 (y.1.2 : Int), undef, undef, .int .i64 (a : Int), .pointer (some ⟨g, 0, none⟩), .pointer (some ⟨g, 0, none⟩), .pointer (some ⟨g, 1, none⟩), .slice (some ⟨b, off, none⟩) n c, .int .i64 (n : Int), .int .i64 ((n : Int) - 4), .bool false, undef, .pointer (some ⟨g, 0, none⟩), .pointer (some ⟨g, 0, none⟩), .pointer (some ⟨g, 2, none⟩), .map (some W0.heap.size), .pointer (some ⟨g, 0, none⟩), .pointer (some ⟨g, 0, none⟩), .pointer (some ⟨g, 1, none⟩), .slice (some ⟨b, off, none⟩) n c, .int .i64 (a : Int), .slice (some ⟨b, off + a, none⟩) (n - a) (c - a), .pointer (some ⟨b, off + a, none⟩), .agg #[.int .u8 (k0 : Int), .int .u8 (k1 : Int), .int .u8 (k2 : Int), .int .u8 (k3 : Int)], .slice vA M vc, .func (.func 70) #[] #[.pointer (some ⟨h + 4, 0, none⟩)], .int .i64 (y.1.1 : Int), .int .i64 (y.1.2 : Int), undef, undef, undef, undef, undef, undef, undef, undef, undef, undef, undef, undef, undef, undef, undef, undef, undef, undef, undef, undef, undef, undef], defers := [] }) ?assign ?body ?done ?stop
       case hI => exact OwnFrom.and (fun s A B row hs hg hr => ⟨hs.1, hs.2.stay hg hr⟩) (ownFrom_below (Nat.le_refl _) (by rw [HH.out, hsz2]; omega))
       case hIx => exact fun c => fun s A B row hs hg hr => ⟨hs.1, let ⟨pre, y, h1, h2, h3, h4⟩ := hs.2.1; ⟨pre, y, h1, h2, h3, h4.stay hg hr⟩, ownFrom_below (β := Unit) (Nat.le_refl _) (by rw [HH.out, hsz2]; omega) () A B row hs.2.2 hg hr⟩
       case assign =>
         intro l y W K hK
         gi_wp2
         exact hK
       case body =>
         rintro l0 pre y W ⟨⟨hnear, hL⟩, hB⟩ hpl
         obtain ⟨⟨yi, yp⟩, hy1, hy2⟩ := y
         obtain ⟨⟨D, N⟩, hDN⟩ : ∃ r, (ents pre).foldl (stp x a) (0, 0) = r := ⟨_, rfl⟩
         rw [hDN] at hL
         dsimp only at hy1 hy2 hL ⊢
         have e0 := cell_of_row _ _ 0 _ _ _ hL.b0
         have e1 := cell_of_row _ _ 0 _ _ _ hL.b1
         have e30 := cell_of_row _ _ 0 _ _ _ hL.b3
         have e31 := cell_of_row _ _ 1 _ _ _ hL.b3
         have hw1 : IntKind.i64.wrap ((a : Int) - (yp : Int)) = ((a - yp : Nat) : Int) := by rw [IntKind.wrap_i64]; omega
         obtain ⟨d, hd⟩ : ∃ d, a - yp = d := ⟨_, rfl⟩
         rw [hd] at hw1
         have HL := hid hL
         have HB := hid hB
         have HNR := hid hnear
         have HDN := hid hDN
         have HD := hid hd
         have hh2 : h + 2 = h + 1 + 1 := rfl
         have hh3 : h + 3 = h + 1 + 1 + 1 := rfl
         rw [hh3] at e30 e31
         clear hL hB hnear hDN
         by_cases hfar : 4096 < d
         · have d1 : decide ((4096 : Int) < (d : Int)) = true := decide_eq_true (by omega)
           have HIX := hid (show ((ents pre).foldl (stp x a) (0, 0)) = (D, N) from HDN.out)
           clear hd
           gi_wp2_with fail
           exact ⟨KeepsFrom.refl _ _, rfl, ⟨pre, ⟨(yi, yp), hy1, hy2⟩, rfl, HNR.out, Or.inl (by show 4096 < a - yp; rw [HD.out]; exact hfar), by rw [HIX.out]; exact HL.out⟩, HB.out⟩
         · have d1 : decide ((4096 : Int) < (d : Int)) = false := decide_eq_false (by omega)
           by_cases hN : N = 131
           · have d2 : ((N : Int) == 131) = true := by rw [beq_iff_eq]; omega
             clear hd
             gi_wp2_with fail
             exact ⟨KeepsFrom.refl _ _, rfl, ⟨pre, ⟨(yi, yp), hy1, hy2⟩, rfl, HNR.out, Or.inr (by rw [HDN.out]; exact hN), by rw [HDN.out]; exact HL.out⟩, HB.out⟩
           · have d2 : ((N : Int) == 131) = false := by rw [beq_eq_false_iff_ne]; omega
             have hgW := (HB.out.block g (box_lt HGW.out)).trans HGW.out
             have hcm := common_any x yp a g vt (.slice (some ⟨b, off, none⟩) n c) (.map (some W0.heap.size)) W hgW ((HX.out.below (HBW0.out)).below HB.out) (by omega) (by rw [HXN.out]; omega) (by omega)
             obtain ⟨m, hm⟩ : ∃ m, cm x yp a 131 0 = m := ⟨_, rfl⟩
             rw [hm] at hcm
             have HCM := hid hcm
             have HMM := hid hm
             clear hcm hm hgW hd
             have HNR2 : Hid (∀ p ∈ ents (pre ++ [(⟨(yi, yp), hy1, hy2⟩ : Ent a)]), a - p ≤ 4096) := hid (fun p hp => by
               rw [ents_snoc, List.mem_append, List.mem_singleton] at hp
               rcases hp with hp | hp
               · exact HNR.out p hp
               · rw [hp]; show a - yp ≤ 4096; rw [HD.out]; omega)
             have HST2 : Hid ((ents (pre ++ [(⟨(yi, yp), hy1, hy2⟩ : Ent a)])).foldl (stp x a) (0, 0) = stp x a (D, N) yp) := hid (by rw [ents_snoc, List.foldl_append, HDN.out]; rfl)
             by_cases hNm : N < m
             · have d3 : decide ((N : Int) < (m : Int)) = true := decide_eq_true (by omega)
               have d3n : decide (N < m) = true := decide_eq_true hNm
               have HFO : Hid (stp x a (D, N) yp = (d, m)) := hid (by unfold stp; dsimp only; rw [HMM.out, if_pos hNm, HD.out])
               have f30 : W.frozen? ⟨h + 1 + 1 + 1, 0, none⟩ = false := box_fr HL.out.b3 0
               have f31 : W.frozen? ⟨h + 1 + 1 + 1, 1, none⟩ = false := box_fr HL.out.b3 1
               gi_wp2_with (refine ⟨trivial, ?_⟩; gi_at_call 60; refine (CallsIn.inRound l0 (callsIn_wide.2 HCM.out)).mono ?_; rintro e w1 ⟨rfl, q, rfl⟩)
               rw [show h + 1 + 1 + 1 = h + 3 from rfl]
               have hb3 := set68 (.int .i64 (d : Int)) (.int .i64 (m : Int)) (lg_draw HL.out q).b3
               obtain ⟨W9, hW9⟩ : ∃ W9, ((W.drewN q).setCell ⟨h + 3, 0, none⟩ (.int .i64 (d : Int))).setCell ⟨h + 3, 1, none⟩ (.int .i64 (m : Int)) = W9 := ⟨_, rfl⟩
               have hso : ∀ k, k ≠ h + 3 → W9.heap[k]? = W.heap[k]? := fun k hk => by rw [← hW9]; exact (Below.heap_setCell _ _ _ _ hk).trans (Below.heap_setCell _ _ _ _ hk)
               rw [hW9] at hb3
               have hl9 : Lg W9 h g a d m := ⟨(hso h (by omega)).trans HL.out.b0, (hso (h + 1) (by omega)).trans HL.out.b1, (hso (h + 2) (by omega)).trans HL.out.b2, hb3⟩
               have hbd : ∀ k, k ≤ h + 3 → Below k W W9 := fun k hk => by
                 rw [← hW9]
                 exact ((show Below k W (W.drewN q) from ⟨rfl, rfl, rfl, Nat.le_refl _, fun _ _ => rfl⟩).setCell (p := ⟨h + 3, 0, none⟩) hk _).setCell (p := ⟨h + 3, 1, none⟩) hk _
               rw [hW9]
               have hk96 : Keep 96 W W9 := fun k cs hk => (hso k (fun e => by rw [e, HL.out.b3] at hk; cases hk)).trans hk
               have hwh : w.heap.size = h := HH.out
               refine ⟨?_, ⟨hbd _ (by omega), hk96⟩, ⟨⟨HNR2.out, ?_⟩, HB.out.trans (hbd _ (by omega))⟩⟩
               · rw [← hW9]; exact ((show KeepsFrom W2.heap.size W (W.drewN q) from ⟨Nat.le_refl _, fun _ _ _ hk _ => hk⟩).trans ((KeepsOthers.setCell _ _ _).from _)).trans ((KeepsOthers.setCell _ _ _).from _)
               · rw [HST2.out, HFO.out]; exact hl9
             · have d3 : decide ((N : Int) < (m : Int)) = false := decide_eq_false (by omega)
               have d3n : decide (N < m) = false := decide_eq_false hNm
               have HFO : Hid (stp x a (D, N) yp = (D, N)) := hid (by unfold stp; dsimp only; rw [HMM.out, if_neg hNm])
               gi_wp2_with (refine ⟨trivial, ?_⟩; gi_at_call 60; refine (CallsIn.inRound l0 (callsIn_wide.2 HCM.out)).mono ?_; rintro e w1 ⟨rfl, q, rfl⟩)
               have hbd : ∀ k, Below k W (W.drewN q) := fun k => ⟨rfl, rfl, rfl, Nat.le_refl _, fun _ _ => rfl⟩
               exact ⟨⟨Nat.le_refl _, fun _ _ _ hk _ => hk⟩, ⟨hbd _, fun _ _ hk => hk⟩, ⟨⟨HNR2.out, by rw [HST2.out, HFO.out]; exact lg_draw HL.out q⟩, HB.out.trans (hbd _)⟩⟩
       case done =>
         rintro D ys W hD hys ⟨⟨hnear, hL⟩, hB⟩ hK
         have hbe := best_all (by rw [HXN.out]; exact h4) (hys.trans HPM.out) hnear
         rw [hbe] at hL
         clear hnear hys hbe
         obtain ⟨⟨BD, BN⟩, hBE⟩ : ∃ r, bst x a (min 4096 a) = r := ⟨_, rfl⟩
         rw [hBE] at hL
         dsimp only at hL
         have e30 := cell_of_row _ _ 0 _ _ _ hL.b3
         have e31 := cell_of_row _ _ 1 _ _ _ hL.b3
         have e20 := cell_of_row _ _ 0 _ _ _ hL.b2
         have e21 := cell_of_row _ _ 1 _ _ _ hL.b2
         have f20 := box_fr hL.b2 0
         have f21 := box_fr hL.b2 1
         rw [show h + 3 = h + 1 + 1 + 1 from rfl] at e30 e31
         rw [show h + 2 = h + 1 + 1 from rfl] at e20 e21 f20 f21
         have HL := hid hL
         have HB := hid hB
         have HK := hid hK
         have HBE := hid hBE
         have HDD := hid hD
         clear hL hB hK hBE hD
         gi_wp2
         rw [show h + 1 + 1 = h + 2 from rfl]
         have hfin := set68 (.int .i64 (BD : Int)) (.int .i64 (BN : Int)) HL.out.b2
         have hDne : D ≠ h + 2 := by have := HDD.out; rw [hsz2] at this; omega
         have hbd := (HB.out.setCell (p := ⟨h + 2, 0, none⟩) (by rw [HH.out]; show h ≤ h + 2; omega) (.int .i64 (BD : Int))).setCell (p := ⟨h + 2, 1, none⟩) (by rw [HH.out]; show h ≤ h + 2; omega) (.int .i64 (BN : Int))
         have hKD : ((W.setCell ⟨h + 2, 0, none⟩ (.int .i64 (BD : Int))).setCell ⟨h + 2, 1, none⟩ (.int .i64 (BN : Int))).heap[D]? = some (.deferred (some [])) := (Below.heap_setCell _ _ _ _ hDne).trans ((Below.heap_setCell _ _ _ _ hDne).trans HK.out)
         obtain ⟨W9, hW9⟩ : ∃ W9, (W.setCell ⟨h + 2, 0, none⟩ (.int .i64 (BD : Int))).setCell ⟨h + 2, 1, none⟩ (.int .i64 (BN : Int)) = W9 := ⟨_, rfl⟩
         rw [hW9] at hfin hbd hKD ⊢
         refine ⟨by simp, .inl ⟨_, _, rfl, run_takeDeferred hKD, ?_⟩⟩
         have hfp := (World.putObj_heap_other (w := W9) (o := .deferred none) (Ne.symm hDne)).trans hfin
         exact ⟨_, results_cell_row rfl _ _ (h + 2) 68 #[.int .i64 (BD : Int), .int .i64 (BN : Int)] (0, 0) _ rfl hfp Try.underlying68 rfl rfl, by rw [HBE.out], hbd.trans (belowK_b (w := w) (Nat.le_refl _) W9 D _ _ (by rw [HH.out]; have := HDD.out; omega) hKD rfl rfl)⟩
       case stop =>
         rintro D c pre W hD hpre ⟨rfl, ⟨pr, y, rfl, hnear, hwhy, hL⟩, hB⟩ hK
         have hbe := best_break (x := x) (p := y.1.2) (by rw [HXN.out]; exact h4) (by rw [← ents_snoc, ← HPM.out]; exact hpre) hnear hwhy
         rw [hbe] at hL
         clear hnear hpre hbe hwhy
         obtain ⟨⟨BD, BN⟩, hBE⟩ : ∃ r, bst x a (min 4096 a) = r := ⟨_, rfl⟩
         rw [hBE] at hL
         dsimp only at hL
         have e30 := cell_of_row _ _ 0 _ _ _ hL.b3
         have e31 := cell_of_row _ _ 1 _ _ _ hL.b3
         have e20 := cell_of_row _ _ 0 _ _ _ hL.b2
         have e21 := cell_of_row _ _ 1 _ _ _ hL.b2
         have f20 := box_fr hL.b2 0
         have f21 := box_fr hL.b2 1
         rw [show h + 3 = h + 1 + 1 + 1 from rfl] at e30 e31
         rw [show h + 2 = h + 1 + 1 from rfl] at e20 e21 f20 f21
         have HL := hid hL
         have HB := hid hB
         have HK := hid hK
         have HBE := hid hBE
         have HDD := hid hD
         clear hL hB hK hBE hD
         gi_wp2
         rw [show h + 1 + 1 = h + 2 from rfl]
         have hfin := set68 (.int .i64 (BD : Int)) (.int .i64 (BN : Int)) HL.out.b2
         have hDne : D ≠ h + 2 := by have := HDD.out; rw [hsz2] at this; omega
         have hbd := (HB.out.setCell (p := ⟨h + 2, 0, none⟩) (by rw [HH.out]; show h ≤ h + 2; omega) (.int .i64 (BD : Int))).setCell (p := ⟨h + 2, 1, none⟩) (by rw [HH.out]; show h ≤ h + 2; omega) (.int .i64 (BN : Int))
         have hKD : ((W.setCell ⟨h + 2, 0, none⟩ (.int .i64 (BD : Int))).setCell ⟨h + 2, 1, none⟩ (.int .i64 (BN : Int))).heap[D]? = some (.deferred (some [])) := (Below.heap_setCell _ _ _ _ hDne).trans ((Below.heap_setCell _ _ _ _ hDne).trans HK.out)
         obtain ⟨W9, hW9⟩ : ∃ W9, (W.setCell ⟨h + 2, 0, none⟩ (.int .i64 (BD : Int))).setCell ⟨h + 2, 1, none⟩ (.int .i64 (BN : Int)) = W9 := ⟨_, rfl⟩
         rw [hW9] at hfin hbd hKD ⊢
         refine ⟨by simp, .inl ⟨_, _, rfl, run_takeDeferred hKD, ?_⟩⟩
         have hfp := (World.putObj_heap_other (w := W9) (o := .deferred none) (Ne.symm hDne)).trans hfin
         exact ⟨_, results_cell_row rfl _ _ (h + 2) 68 #[.int .i64 (BD : Int), .int .i64 (BN : Int)] (0, 0) _ rfl hfp Try.underlying68 rfl rfl, by rw [HBE.out], hbd.trans (belowK_b (w := w) (Nat.le_refl _) W9 D _ _ (by rw [HH.out]; have := HDD.out; omega) hKD rfl rfl)⟩
     | _ => exact hq.elim
  · have d1 : decide ((n : Int) - 4 < (a : Int)) = true := decide_eq_true (by omega)
    have HBS : Hid (bst x a (min 4096 a) = (0, 0)) := hid (bst_short (by rw [HXN.out]; exact h4) _)
    clear h4
    gi_wp2_with fail
    rw [HW1.out, HH.out]
    gi_quiet (fail)
    gi_wp2_with fail
    have hfin := set68 (.int .i64 0) (.int .i64 0) HT4.out
    have hbf : Below w.heap.size w (((W1.drewN nq).setCell ⟨h + 2, 0, none⟩ (.int .i64 0)).setCell ⟨h + 2, 1, none⟩ (.int .i64 0)) := ((show Below w.heap.size w (W1.drewN nq) from ⟨HB1.out.os, HB1.out.tape, HB1.out.output, HB1.out.size, HB1.out.block⟩).setCell (p := ⟨h + 2, 0, none⟩) (by rw [HH.out]; show h ≤ h + 2; omega) _).setCell (p := ⟨h + 2, 1, none⟩) (by rw [HH.out]; show h ≤ h + 2; omega) _
    exact ⟨_, results_cell_row rfl _ _ (h + 2) 68 #[.int .i64 0, .int .i64 0] (0, 0) _ rfl hfin Try.underlying68 rfl rfl, by rw [HBS.out]; rfl, hbf⟩
end Go.Proofs.Ytldlddoealpomaa
