/- differing; extents: the canonical list of the sectors that an iterator yields. -/
import Derived.Test.YtbcnikmhodkbfaaJ
import Derived.Test.YtbcnikmhodkbfaaXH
namespace Go.Proofs.Ytbcnikmhodkbfaa
open Go.RowKit Go.Lib Go.Shelf
attribute [local go_sem] Oper.semAt_some

theorem boxed_kept {W W' : World} {g : Nat} {T : TypeId} {v : Value} {row : Option Nat} (h : Boxed W g T v) (hg : W.grownBy W' row) (hr : ∀ r, row = some r → ∃ o : Obj, W.heap[r]? = some o ∧ o.isCells = false) : Boxed W' g T v := by
  refine (hg.block g h.lt (fun e => ?_)).trans h
  obtain ⟨o, ho, hc⟩ := hr g e.symm
  rw [show W.heap[g]? = _ from h] at ho
  cases ho
  cases hc
theorem keep_set {W : World} {g i : Nat} {T E : TypeId} {u v : Value} (h : Boxed W g E u) (hT : T ≠ E) : Keep T W (W.setCell ⟨g, i, none⟩ v) := fun k cs hk => by
  refine (Below.heap_setCell W ⟨g, i, none⟩ v k (fun e => ?_)).trans hk
  have e' : k = g := e
  subst e'
  rw [show W.heap[k]? = _ from h] at hk
  cases hk
  exact hT rfl
theorem keepsFrom_below {B : Nat} {A C : World} (h : Below A.heap.size A C) : KeepsFrom B A C := ⟨h.size, fun k _ _ hk _ => (h.block k (Array.getElem?_eq_some_iff.1 hk).1).trans hk⟩
def one1 (l : List Nat) : List (Int × Int) := l.map fun (x : Nat) => ((x : Int), (1 : Int))
theorem one1_len (l : List Nat) : (one1 l).length = l.length := by unfold one1; rw [List.length_map]
theorem one1_snoc (l : List Nat) (x : Nat) : one1 (l ++ [x]) = one1 l ++ [((x : Int), 1)] := by unfold one1; rw [List.map_append]; rfl
theorem differing_any (A B : Option Addr) (n m c d : Nat) (w : World) :
    Calls Try.prog 58 #[.slice A n c, .slice B m d] w fun e w' => e = .returned (.func (.func 73) #[] #[.pointer (some ⟨w.heap.size, 0, none⟩), .pointer (some ⟨w.heap.size + 1, 0, none⟩)]) ∧ (w.alloc (.cells #[.slice A n c] 40)).alloc (.cells #[.slice B m d] 40) = w' := by
  go_enter Try.func58, Try.ntmps58
  go_wp2
  go_ret
  exact ⟨rfl, rfl⟩
/-- The box g holds a row of extents of its own, from base on. -/
def Xe (W : World) (g base : Nat) (l : List Nat) : Prop := ∃ v, Boxed W g 80 v ∧ W.ownsRow base 51 2 v l.length (Xt.xflat (one1 l))
theorem Xe.kept {W W' : World} {g base : Nat} {l : List Nat} {row : Option Nat} (h : Xe W g base l) (hg : W.grownBy W' row) (hr : ∀ r, row = some r → ∃ o : Obj, W.heap[r]? = some o ∧ o.isCells = false) : Xe W' g base l := by
  obtain ⟨v, hx, ho⟩ := h
  refine ⟨v, boxed_kept hx hg hr, own_keep ho (fun k cs hk => (hg.block k (box_lt hk) (fun e => ?_)).trans hk)⟩
  obtain ⟨o, ho, hc⟩ := hr k e.symm
  rw [hk] at ho
  cases ho
  cases hc
theorem kf_grown {B base E st n : Nat} {A C : World} {v : Value} {xs : List Value} (ho : A.ownsRow base E st v n xs) (hg : A.grownBy C v.ownBlock) : KeepsFrom B A C :=
  ⟨hg.size, fun k o _ hk hc => (hg.block k (Array.getElem?_eq_some_iff.1 hk).1 (fun e => by
    rcases ho.2 with ⟨rfl, _⟩ | ⟨g, cap, cur, rfl, _, hgc, _⟩
    · simp [Value.ownBlock] at e
    · have e' : k = g := by simpa [Value.ownBlock] using e
      subst e'
      rw [hgc] at hk
      cases hk
      cases hc)).trans hk⟩
theorem info51' : (Try.prog.info? 51).map (fun i => (i.zero, i.size, i.bytes)) = some (some (.agg #[.int .i64 0, .int .i64 0]), 2, 16) := by kernel_rfl
set_option maxRecDepth 100000 in
theorem append_extIn {F : Fence} {d : Nat} {ops : Array Oper} {rest : List Oper} {o : Oper} {a : Act} {w : World} {Q : Exit → Act → World → Prop} (hgd : o.guard = none) (s x : Operand) (ho : o.op = .call { callee := .builtin .append, args := #[s, x], argTypes := #[80, 80] })
    (base : Nat) (v : Value) (n : Nat) (olds : List Value) (hs : a.eval s = v) (hown : w.ownsRow base 51 2 v n olds) (e1 e2 : Int) (ad : Addr) (c : Nat) (hx : a.eval x = .slice (some ad) 1 c)
    (hc : ∀ j u, [Value.int .i64 e1, .int .i64 e2][j]? = some u → w.cell? (ad.add j) = some u) (b1 : n + 1 ≤ 1000000) (hbase : base ≤ w.heap.size)
    (h : ∀ v' w', w'.ownsRow base 51 2 v' (n + 1) (olds ++ [Value.int .i64 e1, .int .i64 e2]) → w.grownBy w' v.ownBlock → wpListIn F d Try.prog ops Q rest (a.put o.dst v') w') : wpListIn F d Try.prog ops Q (o :: rest) a w := by
  obtain ⟨i0, hi, hz0, hz1, hz2⟩ := info_parts info51'
  exact wpListIn_append_own w hgd s x 80 ho base 51 i0 _ 2 16 Try.underlying80 hi hz0 hz1 hz2 rfl (by decide) v n olds hs hown ad 1 c _ hx rfl hc (by intro u hu; simp at hu; rcases hu with rfl | rfl <;> rfl) (by unfold maxLen; omega) (by omega) hbase (fun v' w' h1 h2 _ => h v' w' h1 h2)
theorem ext_put {W : World} {D : Nat} {o' : Obj} {v : Value} {l : List (Int × Int)} (h : Xt.Ext W v l) (hD : W.heap[D]? = some (.deferred (some []))) : Xt.Ext (W.putObj D o') v l := by
  obtain ⟨hr, A, cap, hv, h1, h2, b, off, hA, hcell⟩ := h
  have hbD : 0 < l.length → b ≠ D := fun hp e => by
    subst e
    have h0 := (hcell 0 _ (List.getElem?_eq_getElem hp)).1
    unfold World.cell? at h0
    rw [hD] at h0
    simp at h0
  refine ⟨hr, A, cap, hv, h1, h2, b, off, fun hp => ⟨(hA hp).1, by have := (hA hp).2; simpa [World.putObj] using this⟩, fun i e hi => ?_⟩
  have hp : 0 < l.length := by have := (List.getElem?_eq_some_iff.1 hi).1; omega
  have hk : ∀ k, (W.putObj D o').cell? ⟨b, k, none⟩ = W.cell? ⟨b, k, none⟩ := fun k => by
    unfold World.cell?
    rw [World.putObj_heap_other (hbD hp)]
  rw [hk, hk]
  exact hcell i e hi

theorem cells2 (W : World) (a b : Int) : ∀ (j : Nat) (u : Value), [Value.int .i64 a, .int .i64 b][j]? = some u → (W.alloc (.cells #[.int .i64 a, .int .i64 b] 51)).cell? ((⟨W.heap.size, 0, none⟩ : Addr).add j) = some u := fun j u hu => by
  rw [add_at', cell_of_row _ _ _ _ _ _ (heap_alloc_new W _)]
  simpa using hu
theorem xe_app {W w1 : World} {g base N : Nat} {vo : Value} {xs : List Value} {tmp : Obj} (hx : Boxed W g 80 vo) (ho : W.ownsRow base 51 2 vo N xs) (hg : (W.alloc tmp).grownBy w1 vo.ownBlock) : Boxed w1 g 80 vo :=
  (hx.alloc _).kept hg ((hx.alloc _).not_row (by decide) (own_keep ho (keep_below (al1 W tmp))))
set_option maxRecDepth 100000 in
set_option maxHeartbeats 4000000 in
theorem extents_any (gf : Nat) (lb : Array Value) (n₀ : Nat) (l : List Nat) (w : World) (hS : StreamN 2 gf lb n₀ l w) (hn₀ : n₀ ≤ w.heap.size) (he : ∀ args w, (callFunc gf args).run Try.prog w = .ok (.enter gf args) w) (hl : l.length ≤ 5000) (hlx : ∀ x ∈ l, x ≤ 5000) :
    Calls Try.prog 57 #[.func (.func gf) #[] lb] w (Xt.Made w fun x => Xt.mem (one1 l) x) := by
  refine (callsIn_wide (n := 3)).1 ?_
  refine callsIn_of_wp_marks Try.func57 rfl trivial ?_ rfl
  simp only [Try.ntmps57, List.size_toArray, List.length_cons, List.length_nil, Nat.reduceAdd, Nat.reduceSub, Array.replicate_succ, Array.replicate_zero, List.push_toArray, List.append_toArray, List.nil_append, List.cons_append]
  gi_wp2
  have hB0 : Below w.heap.size w (w.alloc (.cells #[.slice none 0 0] 80)) := al1 _ _
  have bS := Boxed.new w 80 (.slice none 0 0)
  refine wpIn_rangeFunc_ownG rfl (by decide) (gf := gf) (lb := lb) rfl trivial he hS belowK_t (belowK_b (n₀ := n₀) (by simp; omega)) hB0 (fun _ => rfl)
    (fun pre W => Xe W w.heap.size w.heap.size pre ∧ Below w.heap.size w W)
    (fun _ _ _ => False)
    (OwnFrom.and (fun s A B row hs hg hr => hs.kept hg (fun r e => (hr r e).2)) (ownFrom_below (Nat.le_refl _) (by simp)))
    (fun _ _ _ _ _ hs _ _ => hs)
    ⟨⟨_, bS, World.ownsRow_nil _ _ _ _⟩, hB0⟩
    (fun x => { tmps := #[.func (.func gf) #[] lb, undef, .slice none 0 0, .pointer (some ⟨w.heap.size, 0, none⟩), .int .i64 (x : Int), .func (.func gf) #[] lb, .int .i64 (x : Int), undef, undef, undef, undef, undef, undef, undef], defers := [] }) ?assign ?body ?done ?stop
  case assign =>
    intro l x W K hK
    gi_wp2
    exact hK
  case body =>
    rintro l0 pre x W ⟨⟨v, hx, ho⟩, hB⟩ hpl
    obtain ⟨vA, vc, rfl⟩ := ownAny_form ho
    obtain ⟨N, hN⟩ : ∃ N, pre.length = N := ⟨_, rfl⟩
    rw [hN] at hx ho hpl
    have HN := hid hN
    have hz := hB.size
    have hxl := hx.lt
    have HO := hid ho
    have HX := hid hx
    have HB := hid hB
    have c0 := hx.cell
    have f0 := hx.frozen
    clear hN ho hx hB
    have HOa := hid (own_keep HO.out (keep_below (al1 W (.cells #[.int .i64 (x : Int), .int .i64 1] 51))))
    gi_wp2_with (gi_at_builtin; (refine append_extIn rfl (.tmp 7) (.tmp 10) rfl w.heap.size (.slice vA N vc) N _ rfl HOa.out (x : Int) 1 ⟨W.heap.size, 0, none⟩ 1 rfl (cells2 W x 1) (by omega) (by simp; omega) ?_; intro v1 w1 hown1 hg1; obtain ⟨a1, k1, rfl⟩ := ownAny_form hown1; have HO1 := hid hown1; have HG1 := hid hg1; clear hown1 hg1; have HX1 := hid (xe_app HX.out HO.out HG1.out); have c5 := HX1.out.cell; have f5 := HX1.out.frozen))
    have hkf : KeepsFrom (w.alloc (.cells #[.slice none 0 0] 80)).heap.size W (w1.setCell ⟨w.heap.size, 0, none⟩ (.slice a1 (N + 1) k1)) := ((keepsFrom_below (al1 W _)).trans (kf_grown HOa.out HG1.out)).trans ((KeepsOthers.setCell _ _ _).from _)
    have hb1 : ∀ n1, n1 ≤ w.heap.size → Below n1 W (w1.setCell ⟨w.heap.size, 0, none⟩ (.slice a1 (N + 1) k1)) := fun n1 h1 => (((Below.refl n1 W).alloc (by omega) _).grown HG1.out (by simp; omega) (fun k e => by have := (HOa.out.lt k e).1; omega)).setCell (p := ⟨w.heap.size, 0, none⟩) h1 _
    refine ⟨hkf, hb1 n₀ hn₀, ⟨_, HX1.out.set _, ?_⟩, HB.out.trans (hb1 _ (Nat.le_refl _))⟩
    have ho5 := own_keep HO1.out (keep_set (i := 0) (v := .slice a1 (N + 1) k1) HX1.out (by decide))
    rw [one1_snoc, Xt.xflat_append, List.length_append, HN.out]
    exact ho5
  case done =>
    rintro D ys W hD hys ⟨⟨v, hx, ho⟩, hB⟩ hK
    subst hys
    obtain ⟨vA, vc, rfl⟩ := ownAny_form ho
    have c0 := hx.cell
    rw [← one1_len] at ho
    have hE := Xt.ext_of_own ho (fun e he => by
      unfold one1 at he
      obtain ⟨x, hx, rfl⟩ := List.mem_map.1 he
      have := hlx x hx
      exact ⟨⟨by dsimp only; omega, by dsimp only; omega⟩, ⟨by dsimp only; omega, by dsimp only; omega⟩⟩)
    have HU := hid (Xt.union_any (one1 ys) [] _ (.slice none 0 0) W hE (Xt.ext_nil W) (by rw [one1_len]; omega) (by simp))
    rw [one1_len] at HU
    have HB := hid hB
    have HK := hid hK
    clear hE ho hB hK hx
    gi_wp2_with (refine ⟨trivial, ?_⟩; gi_at_call 72; refine (callsIn_wide.2 HU.out).mono ?_; rintro e w2 ⟨v2, l2, rfl, hcan, hmem, hext, hb2⟩)
    have hK2 := (hb2.block D (box_lt HK.out)).trans HK.out
    refine ⟨by simp, .inl ⟨_, _, rfl, run_takeDeferred hK2, ?_⟩⟩
    exact ⟨_, results_tmp rfl _ _ _, v2, l2, rfl, hcan, fun x => by rw [hmem, Xt.mem_nil, Bool.or_false], ext_put hext hK2, (HB.out.trans (hb2.mono HB.out.size)).trans (belowK_b (w := w) (Nat.le_refl _) w2 D _ _ (by simp at hD; omega) hK2 rfl rfl)⟩
  case stop =>
    rintro D c pre W _ _ h _
    exact h.elim
end Go.Proofs.Ytbcnikmhodkbfaa
