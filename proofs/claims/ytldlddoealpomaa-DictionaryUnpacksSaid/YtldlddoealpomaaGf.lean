/- Encode. -/
import Derived.Test.YtldlddoealpomaaGe
import Derived.Test.YtldlddoealpomaaFl
namespace Go.Proofs.Ytldlddoealpomaa.Rl
open Go.RowKit Go.Lib Go.Shelf
attribute [local go_sem] Oper.semAt_some

theorem encK_bound {w : World} {x : Grp} (h : GOk w x) : (encK (x.k, x.g)).length ≤ 900000 := by
  obtain ⟨hk, h0, hl, h8, _⟩ := h
  unfold encK
  rw [List.length_append]
  have h1 : (enc (4 * x.g.length + x.k)).length ≤ 8 := enc_le8 (by unfold top; omega)
  have h2 : (body x.k x.g).length ≤ 800000 := by
    unfold body
    split
    · rw [flat_len h8]; omega
    split
    · rw [flat_len (fun s hs => h8 s (List.mem_of_mem_take hs)), List.length_take]; omega
    · simp
  dsimp only
  omega
theorem encs_bound {w : World} (pre : List (GrpOf w)) : (encs (gpr pre)).length ≤ 900000 * pre.length := by
  induction pre with
  | nil => simp [gpr, encs]
  | cons x t ih =>
    have h := encK_bound x.2
    have e : encs (gpr (x :: t)) = encK (x.1.k, x.1.g) ++ encs (gpr t) := by simp [gpr, encs]
    rw [e, List.length_append, List.length_cons]
    omega
theorem encK_len {w : World} {k c : Nat} {g : List Sect} {A : Option Addr} (h : GOk w ⟨k, g, A, c⟩) : (encK (k, g)).length = (enc (4 * g.length + k)).length + 8 * bodyN k g.length := by
  obtain ⟨hk, h0, hl, h8, _⟩ := h
  dsimp only at hk h0 hl h8
  have hp : 0 < g.length := List.length_pos_iff.2 h0
  unfold encK bodyN body
  dsimp only
  rw [List.length_append]
  split
  · rw [flat_len h8]
  split
  · rw [flat_len (fun s hs => h8 s (List.mem_of_mem_take hs)), List.length_take]; omega
  · simp
theorem boxed_kept {W W' : World} {g : Nat} {T : TypeId} {v : Value} {row : Option Nat} (h : Boxed W g T v) (hg : W.grownBy W' row) (hr : ∀ r, row = some r → ∃ o : Obj, W.heap[r]? = some o ∧ o.isCells = false) : Boxed W' g T v := by
  refine (hg.block g h.lt (fun e => ?_)).trans h
  obtain ⟨o, ho, hc⟩ := hr g e.symm
  rw [show W.heap[g]? = _ from h] at ho
  cases ho
  cases hc
theorem keep_set {W : World} {g i : Nat} {T E : TypeId} {u v : Value} (h : Boxed W g E u) (hT : T ≠ E) : Keep T W (W.setCell ⟨g, i, none⟩ v) := fun k cs hk => by
  refine (Below.heap_setCell W ⟨g, i, none⟩ v k (fun e => ?_)).trans hk
  have e' : k = g := e
  subst e'
  rw [show W.heap[k]? = _ from h] at hk
  cases hk
  exact hT rfl
theorem keepsFrom_below {B : Nat} {A C : World} (h : Below A.heap.size A C) : KeepsFrom B A C := ⟨h.size, fun k _ _ hk _ => (h.block k (Array.getElem?_eq_some_iff.1 hk).1).trans hk⟩
theorem kp_put {n₀ : Nat} {w : World} (hn : n₀ ≤ w.heap.size) (W : World) (l : Nat) (o o' : Obj) (hl : w.heap.size ≤ l) (h : W.heap[l]? = some o) (hc : o.isCells = false) (hw : o.isWalk = false) : Kp n₀ W (W.putObj l o') :=
  ⟨belowK_b hn W l o o' hl h hc hw, fun k cs hk => (World.putObj_heap_other (fun e => by subst e; rw [h] at hk; cases hk; cases hc)).trans hk⟩
theorem kp_below {n₀ : Nat} {A B : World} (h : Below A.heap.size A B) (hn : n₀ ≤ A.heap.size) : Kp n₀ A B := ⟨h.mono hn, keep_below h⟩

/-- A step within a round: nothing but cells has changed, and what the iterator wants kept is kept. -/
structure Stp (B n₀ : Nat) (A C : World) : Prop where
  kf : KeepsFrom B A C
  kp : Kp n₀ A C
theorem Stp.trans {B n₀ : Nat} {A C D : World} (h : Stp B n₀ A C) (k : Stp B n₀ C D) : Stp B n₀ A D := ⟨h.kf.trans k.kf, h.kp.trans k.kp⟩
theorem Stp.size {B n₀ : Nat} {A C : World} (h : Stp B n₀ A C) : A.heap.size ≤ C.heap.size := h.kf.size
theorem stp_below {B n₀ : Nat} {A C : World} (h : Below A.heap.size A C) (hn : n₀ ≤ A.heap.size) : Stp B n₀ A C := ⟨keepsFrom_below h, kp_below h hn⟩
theorem stp_grown {B n₀ base E st n : Nat} {A C : World} {v : Value} {xs : List Value} (ho : A.ownsRow base E st v n xs) (hg : A.grownBy C v.ownBlock) (hE : (81 : TypeId) ≠ E) (hb : n₀ ≤ base) (hn : n₀ ≤ A.heap.size) : Stp B n₀ A C :=
  ⟨⟨hg.size, fun k o _ hk hc => (hg.block k (Array.getElem?_eq_some_iff.1 hk).1 (fun e => by
    rcases ho.2 with ⟨rfl, _⟩ | ⟨g, cap, cur, rfl, _, hgc, _⟩
    · simp [Value.ownBlock] at e
    · have e' : k = g := by simpa [Value.ownBlock] using e
      subst e'
      rw [hgc] at hk
      cases hk
      cases hc)).trans hk⟩,
   ⟨(Below.refl n₀ A).grown hg hn (fun k e => by have := (ho.lt k e).1; omega), keep_grown ho hE hg⟩⟩
theorem stp_set {B n₀ g i : Nat} {W : World} {E : TypeId} {u v : Value} (h : Boxed W g E u) (hE : (81 : TypeId) ≠ E) (hn : n₀ ≤ g) : Stp B n₀ W (W.setCell ⟨g, i, none⟩ v) :=
  ⟨(KeepsOthers.setCell _ _ _).from _, (Below.refl n₀ W).setCell (p := ⟨g, i, none⟩) hn _, keep_set h hE⟩

/-- The box g holds a row of bytes of its own, from base on. -/
def Bb (W : World) (g base : Nat) (l : List Nat) : Prop := ∃ v, Boxed W g 22 v ∧ W.ownsRow base 5 1 v l.length (l.map byteV)
theorem Bb.below {W W' : World} {g base : Nat} {l : List Nat} (h : Bb W g base l) (hb : Below W.heap.size W W') : Bb W' g base l := by
  obtain ⟨v, hx, ho⟩ := h
  exact ⟨v, (hb.block _ hx.lt).trans hx, own_keep ho (keep_below hb)⟩
theorem Bb.kept {W W' : World} {g base : Nat} {l : List Nat} {row : Option Nat} (h : Bb W g base l) (hg : W.grownBy W' row) (hr : ∀ r, row = some r → ∃ o : Obj, W.heap[r]? = some o ∧ o.isCells = false) : Bb W' g base l := by
  obtain ⟨v, hx, ho⟩ := h
  refine ⟨v, boxed_kept hx hg hr, own_keep ho (fun k cs hk => (hg.block k (box_lt hk) (fun e => ?_)).trans hk)⟩
  obtain ⟨o, ho, hc⟩ := hr k e.symm
  rw [hk] at ho
  cases ho
  cases hc
theorem encK_body (k : Nat) (g : List Sect) : encK (k, g) = enc (4 * g.length + k) ++ (g.take (bodyN k g.length)).flatten := by
  unfold encK body bodyN
  dsimp only
  split
  · rw [List.take_of_length_le (Nat.le_refl _)]
  split
  · rfl
  · simp
theorem byt_some {w : World} {A : Option Addr} {n c : Nat} {l : List Nat} (h : Byt w (.slice A n c) l) (hp : 0 < l.length) : ∃ a, A = some a := by
  obtain ⟨_, A', c', e, _, _, b, off, hA, _⟩ := h
  injection e with e1
  subst e1
  exact ⟨_, (hA hp).1⟩
/-- An append to the row in a box, and the store of what it yields. -/
theorem bb_app {W W3 : World} {g base N : Nat} {l p : List Nat} {vo v3 : Value} (hN : l.length = N) (hx : Boxed W g 22 vo) (ho : W.ownsRow base 5 1 vo N (l.map byteV)) (hg : W.grownBy W3 vo.ownBlock) (h3 : W3.ownsRow base 5 1 v3 (N + p.length) (l.map byteV ++ p.map byteV)) :
    Boxed W3 g 22 vo ∧ Bb (W3.setCell ⟨g, 0, none⟩ v3) g base (l ++ p) := by
  subst hN
  have hx3 : Boxed W3 g 22 vo := hx.kept hg (hx.not_row (by decide) ho)
  refine ⟨hx3, v3, hx3.set v3, ?_⟩
  rw [own_snoc, ← List.length_append] at h3
  exact ownsRow_setCell_other h3 (fun e => hx3.not_row (by decide) h3 e.symm) v3

set_option maxRecDepth 100000 in
set_option maxHeartbeats 4000000 in
theorem encode_any (l : List Sect) (v : Value) (w : World) (hv : Sec w v l) (hl : l.length ≤ 100000) :
    Calls Try.prog 34 #[v] w (MadeO w (rl l)) := by
  obtain ⟨A, cap, rfl⟩ := sec_form hv
  have HV := hid hv
  clear hv
  refine (callsIn_wide (n := 3)).1 ?_
  refine callsIn_of_wp_marks Try.func34 rfl trivial ?_ rfl
  simp only [Try.ntmps34, List.size_toArray, List.length_cons, List.length_nil, Nat.reduceAdd, Nat.reduceSub, Array.replicate_succ, Array.replicate_zero, List.push_toArray, List.append_toArray, List.nil_append, List.cons_append]
  gi_wp2_with (refine ⟨trivial, ?_⟩; gi_at_call 51; refine (callsIn_wide.2 (groups_any _ _ _ _ _ rfl)).mono ?_; rintro e w2 ⟨rfl, rfl⟩)
  obtain ⟨W2, hW2⟩ : ∃ W2, (w.alloc (.cells #[.slice none 0 0] 22)).alloc (.cells #[.slice A l.length cap] 33) = W2 := ⟨_, rfl⟩
  have hz2 : W2.heap.size = w.heap.size + 2 := by rw [← hW2]; simp
  have hB2 : Below w.heap.size w W2 := by rw [← hW2]; exact ((Below.refl _ w).alloc (Nat.le_refl _) _).alloc (by simp) _
  have hx2 : Boxed W2 w.heap.size 22 (.slice none 0 0) := by rw [← hW2]; exact (Below.heap_alloc _ _ _ (by simp)).trans (heap_alloc_new w _)
  have hc2 : W2.cell? ⟨w.heap.size + 1, 0, none⟩ = some (.slice A l.length cap) := by
    rw [← hW2]
    have h := heap_alloc_new (w.alloc (.cells #[.slice none 0 0] 22)) (.cells #[.slice A l.length cap] 33)
    rw [show (w.alloc (.cells #[.slice none 0 0] 22)).heap.size = w.heap.size + 1 by simp] at h
    exact cell_of_row _ _ 0 _ _ _ h
  have hS := groups_streams 2 (w.heap.size + 1) l _ w W2 (by decide) HV.out hl hB2 (by omega) hc2
  have HLL : Hid (l.length ≤ 100000) := hid hl
  rw [hW2]
  clear hW2 hc2 hl
  refine wpIn_rangeFunc_ownH rfl (by decide) (gf := 63) (lb := #[.pointer (some ⟨w.heap.size + 1, 0, none⟩)]) rfl trivial enters34 hS (fun h k => Kp.trans h k) (kp_put (by omega)) (Below.refl _ _) (fun _ => rfl)
    (fun pre W => (Bb W w.heap.size w.heap.size (encs (gpr pre)) ∧ Below w.heap.size w W) ∧ W2.heap.size ≤ W.heap.size)
    (fun _ _ _ => False)
    ?hI (fun _ _ _ _ _ hs _ _ => hs)
    ⟨⟨⟨_, hx2, World.ownsRow_nil _ _ _ _⟩, hB2⟩, Nat.le_refl _⟩
    (fun x a' W => ∃ gb, w.heap.size < gb ∧ a' = { tmps := #[.slice A l.length cap, undef, .slice none 0 0, .pointer (some ⟨w.heap.size, 0, none⟩), .pointer (some ⟨gb, 0, none⟩), undef, undef, .slice A l.length cap, .func (.func 63) #[] #[.pointer (some ⟨w.heap.size + 1, 0, none⟩)], gval x.1, undef, undef, undef, undef, undef, undef, undef, undef, undef, undef, undef, undef, undef, undef, undef, undef], defers := [] } ∧ W.heap[gb]? = some (.cells #[.int .i64 (x.1.k : Int), .slice x.1.A x.1.g.length x.1.c] 81 (0, 0)))
    ?hA ?assign ?body ?done ?stop
  case hI =>
    exact OwnFrom.and (OwnFrom.and (fun s A B row hs hg hr => hs.kept hg (fun r e => (hr r e).2)) (ownFrom_below (Nat.le_refl _) (by omega))) (fun _ _ _ _ hs hg _ => Nat.le_trans hs hg.size)
  case hA =>
    rintro x a' s W W' row ⟨gb, h1, h2, h3⟩ hg hr
    refine ⟨gb, h1, h2, (hg.block _ (box_lt h3) (fun e => ?_)).trans h3⟩
    obtain ⟨_, o, ho, hoc⟩ := hr gb e.symm
    rw [h3] at ho
    cases ho
    cases hoc
  case assign =>
    rintro l0 pre x W K ⟨⟨hc, hB⟩, hz⟩ hK
    obtain ⟨⟨xk, xg, xA, xc⟩, hx⟩ := x
    have HK := hid hK
    have HI := hid (show (Bb W w.heap.size w.heap.size (encs (gpr pre)) ∧ Below w.heap.size w W) ∧ W2.heap.size ≤ W.heap.size from ⟨⟨hc, hB⟩, hz⟩)
    clear hK hc hB
    dsimp only [gval]
    gi_wp2
    have hI := HI.out
    have hlt : w.heap.size < W.heap.size := by omega
    exact HK.out _ _ ((KeepsOthers.alloc W _).from _) (kp_below (al1 W _) (by omega))
      ⟨⟨hI.1.1.below (al1 W _), hI.1.2.trans ((al1 W _).mono hI.1.2.size)⟩, by simp; omega⟩
      ⟨W.heap.size, hlt, rfl, heap_alloc_new W _⟩
  case body =>
    rintro l0 pre x a' W _ _ ⟨⟨hbb, hB⟩, hz⟩ ⟨gb, hgb, rfl, hgx⟩ hpl
    obtain ⟨⟨xk, xg, xA, xc⟩, hx⟩ := x
    have hN := encs_bound pre
    have HLE : Hid (encs (gpr (pre ++ [⟨⟨xk, xg, xA, xc⟩, hx⟩])) = encs (gpr pre) ++ encK (xk, xg)) := hid (by rw [gpr_snoc, encs_snoc])
    have hxk := hx.1
    have hxl := hx.2.2.1
    have HXX := hid hx
    dsimp only at hxk hxl hgx
    obtain ⟨bs, hbs⟩ : ∃ bs, encs (gpr pre) = bs := ⟨_, rfl⟩
    rw [hbs] at hbb hN HLE
    clear hbs
    obtain ⟨vv, hbx, hown⟩ := hbb
    obtain ⟨vA, vc, rfl⟩ := own_form hown
    have HX0 := hid hbx
    have HO0 := hid hown
    obtain ⟨N, hNe⟩ : ∃ N, bs.length = N := ⟨_, rfl⟩
    have HNE := hid hNe
    rw [hNe] at hN HX0 HO0
    have hNb : N ≤ 90000000000 := by have := HLL.out; omega
    clear hN hNe hbx hown
    have HX := HX0
    have HO := HO0
    have HGX := hid hgx
    have HBW := hid hB
    have HZ := hid hz
    have hz0 := hz
    have HC := hid (show W.cell? ⟨w.heap.size, 0, none⟩ = some (.slice vA N vc) ∧ W.cell? ⟨gb, 0, none⟩ = some (.int .i64 (xk : Int)) ∧ W.cell? ⟨gb, 1, none⟩ = some (.slice xA xg.length xc) from ⟨HX.out.cell, cell_of_row _ _ 0 _ _ _ hgx, cell_of_row _ _ 1 _ _ _ hgx⟩)
    have HL := hid (show gb < W.heap.size from box_lt hgx)
    have HH := hid (fun X : World => head_any ⟨xk, xg, xA, xc⟩ X hxk hxl)
    have HBo := hid (fun X : World => body_any ⟨xk, xg, xA, xc⟩ w X hx)
    have hh8 : (enc (4 * xg.length + xk)).length ≤ 8 := enc_le8 (by unfold top; omega)
    have hHeld : W.drew.cell? ⟨w.heap.size, 0, none⟩ = some (.slice vA N vc) ∧ W.drew.cell? ⟨gb, 0, none⟩ = some (.int .i64 (xk : Int)) ∧ W.drew.cell? ⟨gb, 1, none⟩ = some (.slice xA xg.length xc) := HC.out
    clear hgx hB hz
    gi_wp2
    refine round_tail 4 (fun X : World => X.cell? ⟨w.heap.size, 0, none⟩ = some (.slice vA N vc) ∧ X.cell? ⟨gb, 0, none⟩ = some (.int .i64 (xk : Int)) ∧ X.cell? ⟨gb, 1, none⟩ = some (.slice xA xg.length xc)) (by kernel_rfl) (by rintro ⟨_, _, h⟩; exact h) (by kernel_rfl) ?_
    refine' wpAnyT_take (i := 0) (oi := ?oi1) (v := ?v1) ?hi1 (by kernel_rfl) (by kernel_rfl) ?hq1 ?hy1 hHeld ?rest1
    case hi1 => (simp only [List.getElem?_toArray, List.getElem?_cons_zero]; rfl)
    case hq1 => exact fun _ _ _ h => h
    case hy1 => (refine Or.inl ⟨by rfl, ?_⟩; intro w' hSw; (try dsimp only at hSw); go_simp; try with_reducible rfl)
    (try simp only [Act.put, List.setIfInBounds_toArray, List.set_cons_zero, List.set_cons_succ])
    refine' wpAnyT_take (i := 1) (oi := ?oi2) (v := ?v2) ?hi2 (by kernel_rfl) (by kernel_rfl) ?hq2 ?hy2 hHeld ?rest2
    case hi2 => (simp only [List.getElem?_toArray, List.getElem?_cons_zero, List.getElem?_cons_succ]; rfl)
    case hq2 => exact fun _ _ _ h => h
    case hy2 => (refine Or.inl ⟨by rfl, ?_⟩; intro w' hSw; (try dsimp only at hSw); go_simp; try with_reducible rfl)
    (try simp only [Act.put, List.setIfInBounds_toArray, List.set_cons_zero, List.set_cons_succ])
    refine' wpAnyT_one (i := 2) (o := ?oi3) (by kernel_rfl) ?hi3 (fun K hK => ?st3)
    case hi3 => (simp only [List.getElem?_toArray, List.getElem?_cons_zero, List.getElem?_cons_succ]; rfl)
    go_simp
    refine (HH.out _).mono ?_
    rintro e W3 ⟨v3, rfl, hv3, hn3, hb3⟩
    have HV3 := hid hv3
    obtain ⟨a3, c3, rfl⟩ := byt_form hv3
    obtain ⟨ad3, rfl⟩ := byt_some hv3 (enc_pos _)
    have HB3 := hid (show Below W.heap.size W W3 from (below_drew (Below.refl W.heap.size W)).trans (show Below W.heap.size W.drew W3 from hb3))
    have HO3 := hid (own_keep HO.out (keep_below HB3.out))
    have HX3 := hid (show Boxed W3 w.heap.size 22 (.slice vA N vc) from (HB3.out.block _ HX.out.lt).trans HX.out)
    have hz3 := HB3.out.size
    clear hv3 hn3 hb3
    clear hHeld
    have hHeld : W3.cell? ⟨w.heap.size, 0, none⟩ = some (.slice vA N vc) ∧ W3.cell? ⟨gb, 0, none⟩ = some (.int .i64 (xk : Int)) ∧ W3.cell? ⟨gb, 1, none⟩ = some (.slice xA xg.length xc) := ⟨HX3.out.cell, (HB3.out.cell (p := ⟨_, _, none⟩) HL.out).trans HC.out.2.1, (HB3.out.cell (p := ⟨_, _, none⟩) HL.out).trans HC.out.2.2⟩
    refine hK.out _ _ (fun _ => hHeld) ?_
    clear hK K
    (try simp only [Act.put, List.setIfInBounds_toArray, List.set_cons_zero, List.set_cons_succ])
    refine' wpAnyT_one (i := 3) (o := ?oi900) (by kernel_rfl) ?hi900 (fun K hK => ?st900)
    case hi900 => (simp only [List.getElem?_toArray, List.getElem?_cons_zero, List.getElem?_cons_succ]; rfl)
    refine step_append_byt rfl (.tmp 10) (.tmp 12) rfl w.heap.size (.slice vA N vc) N _ (by simp [Act.eval]) HO3.out (enc (4 * xg.length + xk)) ad3 _ c3 (by simp [Act.eval]) HV3.out (by omega) (by omega) ?_
    intro v4 W4 ho4 hg4
    have HBA := hid (bb_app HNE.out HX3.out HO3.out hg4 ho4)
    have HS4 := hid (show Stp W2.heap.size w.heap.size W3 W4 from stp_grown HO3.out hg4 (by decide) (Nat.le_refl _) (by omega))
    have HG4 := hid (HS4.out.kp.2 _ _ (show W3.heap[gb]? = some (.cells #[.int .i64 (xk : Int), .slice xA xg.length xc] 81) from (HB3.out.block _ HL.out).trans HGX.out))
    obtain ⟨av4, cv4, rfl⟩ := own_form ho4
    have hz4 := hg4.size
    have HB4 := hid (show Below w.heap.size w W4 from (HBW.out.trans (HB3.out.mono HBW.out.size)).grown hg4 (by omega) (fun k e => (HO3.out.lt k e).1))
    clear hg4 ho4 hHeld
    have hHeld : W4.cell? ⟨w.heap.size, 0, none⟩ = some (.slice vA N vc) ∧ W4.cell? ⟨gb, 0, none⟩ = some (.int .i64 (xk : Int)) ∧ W4.cell? ⟨gb, 1, none⟩ = some (.slice xA xg.length xc) := ⟨HBA.out.1.cell, cell_of_row _ _ 0 _ _ _ HG4.out, cell_of_row _ _ 1 _ _ _ HG4.out⟩
    have f4 := HBA.out.1.frozen
    have c4 := HBA.out.1.cell
    refine hK.out _ _ (fun _ => hHeld) ?_
    clear hK K
    (try simp only [Act.put, List.setIfInBounds_toArray, List.set_cons_zero, List.set_cons_succ])
    refine' wpAnyT_one (i := 4) (o := ?oi4) (by kernel_rfl) ?hi4 (fun K hK => ?st4)
    case hi4 => (simp only [List.getElem?_toArray, List.getElem?_cons_zero, List.getElem?_cons_succ]; rfl)
    go_simp
    refine hK.out _ _ (fun h => absurd h (by decide)) ?_
    clear hK K
    (try simp only [Act.put, List.setIfInBounds_toArray, List.set_cons_zero, List.set_cons_succ])
    refine wpAnyT_done (by kernel_rfl) ?_ _
    have HS5 := hid (show Stp W2.heap.size w.heap.size W (W4.setCell ⟨w.heap.size, 0, none⟩ (.slice av4 (N + (enc (4 * xg.length + xk)).length) cv4)) from (stp_below HB3.out (by omega)).trans (HS4.out.trans (stp_set HBA.out.1 (by decide) (Nat.le_refl _))))
    have HB5 := hid (show Below w.heap.size w (W4.setCell ⟨w.heap.size, 0, none⟩ (.slice av4 (N + (enc (4 * xg.length + xk)).length) cv4)) from HB4.out.setCell (p := ⟨w.heap.size, 0, none⟩) (Nat.le_refl _) _)
    have HG5 := hid ((Below.heap_setCell W4 ⟨w.heap.size, 0, none⟩ (.slice av4 (N + (enc (4 * xg.length + xk)).length) cv4) gb (show gb ≠ w.heap.size by omega)).trans HG4.out)
    have HBB5 := hid HBA.out.2
    clear hHeld f4 c4
    obtain ⟨W5, hW5⟩ : ∃ W5, W4.setCell ⟨w.heap.size, 0, none⟩ (.slice av4 (N + (enc (4 * xg.length + xk)).length) cv4) = W5 := ⟨_, rfl⟩
    rw [hW5] at HS5 HB5 HG5 HBB5 ⊢
    have hz5 : W2.heap.size ≤ W5.heap.size := by have := HS5.out.size; omega
    have g0 : W5.cell? ⟨gb, 0, none⟩ = some (.int .i64 (xk : Int)) := cell_of_row _ _ 0 _ _ _ HG5.out
    have g1 : W5.cell? ⟨gb, 1, none⟩ = some (.slice xA xg.length xc) := cell_of_row _ _ 1 _ _ _ HG5.out
    clear hW5 HBA HS4 HG4 HB4 hz4 hz3 HX3 HO3 HB3 HV3 HH HGX HC HX HO HX0 HO0 HBW
    gi_wp2_with fail
    refine ⟨trivial, (CallsIn.inRound l0 (callsIn_wide.2 (HBo.out _))).mono ?_⟩
    rintro e W6 ⟨⟨A6, c6, rfl, hs6⟩, hb6⟩
    have hnl : (xg.take (bodyN xk xg.length)).length = bodyN xk xg.length := by
      rw [List.length_take]
      have : bodyN xk xg.length ≤ xg.length := by have := List.length_pos_iff.2 HXX.out.2.1; dsimp only at this; unfold bodyN; split; omega; split <;> omega
      omega
    have hnb : bodyN xk xg.length ≤ 100000 := by unfold bodyN; split; omega; split <;> omega
    have HEK : Hid (encK (xk, xg) = enc (4 * xg.length + xk) ++ (xg.take (bodyN xk xg.length)).flatten) := hid (encK_body _ _)
    obtain ⟨hd, hhd⟩ : ∃ hd, enc (4 * xg.length + xk) = hd := ⟨_, rfl⟩
    obtain ⟨nb, hnbe⟩ : ∃ nb, bodyN xk xg.length = nb := ⟨_, rfl⟩
    obtain ⟨bl, hbl⟩ : ∃ bl, xg.take (bodyN xk xg.length) = bl := ⟨_, rfl⟩
    rw [hhd] at hh8 HBB5 HEK
    rw [hbl] at hs6 hnl HEK
    rw [hnbe] at hs6 hnl hnb ⊢
    have HNL := hid hnl
    have HS6 := hid hs6
    have HT6 := hid (show Stp W2.heap.size w.heap.size W W6 from HS5.out.trans (stp_below hb6 (by omega)))
    have HB6 := hid (HB5.out.trans (hb6.mono HB5.out.size))
    have HBB6 := hid (HBB5.out.below hb6)
    have hz6 : W2.heap.size ≤ W6.heap.size := by have := hb6.size; omega
    clear hhd hnbe hbl hnl hs6 hb6 HS5 HB5 HBB5 HG5 g0 g1 hz5 HBo
    gi_wp2_with fail
    gi_loopw [17] (fun i wr => ∃ k : Nat, k ≤ nb ∧ i = .int .i64 (k : Int) ∧ Hid (Bb wr w.heap.size w.heap.size (bs ++ hd ++ (bl.take k).flatten)) ∧ Hid (Stp W2.heap.size w.heap.size W wr) ∧ Hid (Below w.heap.size w wr) ∧ W2.heap.size ≤ wr.heap.size) (fun i _ => nb - (Lib.intOf i).toNat)
    case atStart => exact ⟨0, Nat.zero_le _, rfl, hid (by rw [List.take_zero, List.flatten_nil, List.append_nil]; exact HBB6.out), HT6, HB6, hz6⟩
    case round =>
      clear HT6 HB6 HBB6 hz6
      obtain ⟨k, hk, rfl, HBB, HT, HB, hzr⟩ := hrel
      by_cases hkn : k < nb
      · have hne : bl ≠ [] := fun e => by have := HNL.out; rw [e] at this; simp at this; omega
        obtain ⟨b, off, cap', e, hcc, hcm, hbl, hsc⟩ := sec_at HS6.out hne
        injection e with e1 e2 e3
        subst e1 e3
        obtain ⟨s, hs⟩ : ∃ s, bl[k]? = some s := ⟨bl[k]'(by rw [HNL.out]; exact hkn), List.getElem?_eq_getElem _⟩
        have hso := HS6.out.1 s (List.mem_of_getElem? hs)
        have s1 := (hsc k s hs).below hbl HB.out
        have HTK : Hid ((bl.take (k + 1)).flatten = (bl.take k).flatten ++ s) := hid (by
          obtain ⟨hlt, rfl⟩ := List.getElem?_eq_some_iff.1 hs
          rw [List.take_succ_eq_append_getElem hlt, List.flatten_append]
          simp)
        have hblr : b < wr.heap.size := Nat.lt_of_lt_of_le hbl HB.out.size
        clear hsc hs e2 hne
        have hs8 := hso.1
        have HB8x := hid hso.2
        obtain ⟨x0, x1, x2, x3, x4, x5, x6, x7, rfl⟩ := list8 hso.1
        obtain ⟨p0, p1, p2, p3, p4, p5, p6, p7⟩ := s1.facts
        clear s1 hso
        have hkc : (k : Int) < (nb : Int) := by omega
        gi_wp2_with fail
        have hM0 : (bs ++ hd ++ (bl.take k).flatten).length ≤ 900000000000 := by
          rw [List.length_append, List.length_append, HNE.out, flat_len (fun s hs => HS6.out.1 s (List.mem_of_mem_take hs)), List.length_take]
          omega
        obtain ⟨cur, hcur⟩ : ∃ cur, bs ++ hd ++ (bl.take k).flatten = cur := ⟨_, rfl⟩
        rw [hcur] at HBB hM0
        have HCUR := hid hcur
        clear hcur
        have HD0 := hid (byt_cells HB8x.out hs8 (heap_alloc_new wr (.cells (cSec [x0, x1, x2, x3, x4, x5, x6, x7]).toArray 44)))
        obtain ⟨W7, hW7⟩ : ∃ W7, wr.alloc (.cells #[.int .u8 (x0 : Int), .int .u8 (x1 : Int), .int .u8 (x2 : Int), .int .u8 (x3 : Int), .int .u8 (x4 : Int), .int .u8 (x5 : Int), .int .u8 (x6 : Int), .int .u8 (x7 : Int)] 44) = W7 := ⟨_, rfl⟩
        have hW7' : wr.alloc (.cells (cSec [x0, x1, x2, x3, x4, x5, x6, x7]).toArray 44) = W7 := hW7
        rw [hW7'] at HD0
        have hb7 : Below wr.heap.size wr W7 := by rw [← hW7]; exact al1 _ _
        have hz7 : W7.heap.size = wr.heap.size + 1 := by rw [← hW7]; simp
        obtain ⟨vu, hxu, hou⟩ := HBB.out.below hb7
        obtain ⟨uA, uc, rfl⟩ := own_form hou
        have HX7a := hid hxu
        have HO7a := hid hou
        obtain ⟨M, hM⟩ : ∃ M, cur.length = M := ⟨_, rfl⟩
        have HM := hid hM
        rw [hM] at HX7a HO7a hM0
        have HX7 : Hid (Boxed W7.drew w.heap.size 22 (.slice uA M uc)) := hid HX7a.out
        have HO7 : Hid (W7.drew.ownsRow w.heap.size 5 1 (.slice uA M uc) M (cur.map byteV)) := hid HO7a.out
        have HD7 : Hid (Byt W7.drew (.slice (some ⟨wr.heap.size, 0, none⟩) 8 8) [x0, x1, x2, x3, x4, x5, x6, x7]) := hid HD0.out
        have HB7 : Hid (Below w.heap.size w W7.drew) := hid (below_drew (HB.out.trans (hb7.mono HB.out.size)))
        have HT7 : Hid (Stp W2.heap.size w.heap.size W W7.drew) := hid (HT.out.trans ((stp_below hb7 (by omega)).trans (stp_below (below_drew (Below.refl _ W7)) (by omega))))
        have hzd : W7.drew.heap.size = W7.heap.size := rfl
        have hHeld : W7.drew.cell? ⟨w.heap.size, 0, none⟩ = some (.slice uA M uc) := HX7.out.cell
        clear hM hxu hou hb7 hW7' HX7a HO7a HD0 p0 p1 p2 p3 p4 p5 p6 p7 HBB HT HB
        rw [hW7]
        clear hW7
        refine round_tail 3 (fun X : World => X.cell? ⟨w.heap.size, 0, none⟩ = some (.slice uA M uc)) (by kernel_rfl) (by rintro ⟨_, _, h⟩; exact h) (by kernel_rfl) ?_
        refine' wpAnyT_take (i := 0) (oi := ?oi7) (v := ?v7) ?hi7 (by kernel_rfl) (by kernel_rfl) ?hq7 ?hy7 hHeld ?rest7
        case hi7 => (simp only [List.getElem?_toArray, List.getElem?_cons_zero]; rfl)
        case hq7 => exact fun _ _ _ h => h
        case hy7 => (refine Or.inl ⟨by rfl, ?_⟩; intro w' hSw; (try dsimp only at hSw); go_simp; try with_reducible rfl)
        (try simp only [Act.put, List.setIfInBounds_toArray, List.set_cons_zero, List.set_cons_succ])
        refine' wpAnyT_take (i := 1) (oi := ?oi8) (v := ?v8) ?hi8 (by kernel_rfl) (by kernel_rfl) ?hq8 ?hy8 hHeld ?rest8
        case hi8 => (simp only [List.getElem?_toArray, List.getElem?_cons_zero, List.getElem?_cons_succ]; rfl)
        case hq8 => exact fun _ _ _ h => h
        case hy8 => (refine Or.inl ⟨by rfl, ?_⟩; intro w' hSw; (try dsimp only at hSw); go_simp; try with_reducible rfl)
        (try simp only [Act.put, List.setIfInBounds_toArray, List.set_cons_zero, List.set_cons_succ])
        refine' wpAnyT_one (i := 2) (o := ?oi960) (by kernel_rfl) ?hi960 (fun K hK => ?st960)
        case hi960 => (simp only [List.getElem?_toArray, List.getElem?_cons_zero, List.getElem?_cons_succ]; rfl)
        refine step_append_byt rfl (.tmp 21) (.tmp 22) rfl w.heap.size (.slice uA M uc) M _ (by simp [Act.eval]) HO7.out [x0, x1, x2, x3, x4, x5, x6, x7] ⟨wr.heap.size, 0, none⟩ _ 8 (by simp [Act.eval]) HD7.out (by simp; omega) (by omega) ?_
        intro v8 W8 ho8 hg8
        have HBA := hid (bb_app HM.out HX7.out HO7.out hg8 ho8)
        have HS8 := hid (show Stp W2.heap.size w.heap.size W7.drew W8 from stp_grown HO7.out hg8 (by decide) (Nat.le_refl _) (by omega))
        obtain ⟨av8, cv8, rfl⟩ := own_form ho8
        have hz8 := hg8.size
        have HB8 := hid (show Below w.heap.size w W8 from HB7.out.grown hg8 (by omega) (fun k e => (HO7.out.lt k e).1))
        clear hg8 ho8 hHeld
        have hHeld : W8.cell? ⟨w.heap.size, 0, none⟩ = some (.slice uA M uc) := HBA.out.1.cell
        have f8 := HBA.out.1.frozen
        refine hK.out _ _ (fun _ => hHeld) ?_
        clear hK K
        (try simp only [Act.put, List.setIfInBounds_toArray, List.set_cons_zero, List.set_cons_succ])
        refine' wpAnyT_one (i := 3) (o := ?oi9) (by kernel_rfl) ?hi9 (fun K hK => ?st9)
        case hi9 => (simp only [List.getElem?_toArray, List.getElem?_cons_zero, List.getElem?_cons_succ]; rfl)
        go_simp
        refine hK.out _ _ (fun h => absurd h (by decide)) ?_
        clear hK K
        (try simp only [Act.put, List.setIfInBounds_toArray, List.set_cons_zero, List.set_cons_succ])
        refine wpAnyT_done (by kernel_rfl) ?_ _
        have hbb9 : Bb (W8.setCell ⟨w.heap.size, 0, none⟩ (.slice av8 (M + 8) cv8)) w.heap.size w.heap.size (bs ++ hd ++ (bl.take (k + 1)).flatten) := by
          have h := HBA.out.2
          rw [HTK.out, ← List.append_assoc, HCUR.out]
          exact h
        have HT9 := hid (show Stp W2.heap.size w.heap.size W (W8.setCell ⟨w.heap.size, 0, none⟩ (.slice av8 (M + 8) cv8)) from HT7.out.trans (HS8.out.trans (stp_set HBA.out.1 (by decide) (Nat.le_refl _))))
        have HB9 := hid (show Below w.heap.size w (W8.setCell ⟨w.heap.size, 0, none⟩ (.slice av8 (M + 8) cv8)) from HB8.out.setCell (p := ⟨w.heap.size, 0, none⟩) (Nat.le_refl _) _)
        have HBB9 := hid hbb9
        clear hbb9 hHeld f8 HBA HS8 HB8 HT7 HB7
        obtain ⟨W9, hW9⟩ : ∃ W9, W8.setCell ⟨w.heap.size, 0, none⟩ (.slice av8 (M + 8) cv8) = W9 := ⟨_, rfl⟩
        have hz9 : W2.heap.size ≤ W9.heap.size := by rw [← hW9]; simp; omega
        rw [hW9] at HT9 HB9 HBB9 ⊢
        clear hW9
        gi_wp2
        go_roundw
        case rel => exact ⟨k + 1, by omega, by go_num, HBB9, HT9, HB9, hz9⟩
        case measure => simp [Lib.intOf]; omega
      · obtain rfl : k = nb := by omega
        gi_wp2
        have he : encs (gpr (pre ++ [⟨⟨xk, xg, xA, xc⟩, hx⟩])) = bs ++ hd ++ (bl.take k).flatten := by rw [HLE.out, HEK.out, List.take_of_length_le (by rw [HNL.out]; omega), List.append_assoc]
        exact ⟨HT.out.kf, HT.out.kp, ⟨⟨by rw [he]; exact HBB.out, HB.out⟩, hzr⟩⟩
  case done =>
    rintro D ys W hD hys ⟨⟨hbb, hB⟩, _⟩ hK
    rw [hys, ← rl_encs] at hbb
    obtain ⟨vv, hbx, hown⟩ := hbb
    obtain ⟨vA, vc, rfl⟩ := own_form hown
    have hc := hbx.cell
    have HO := hid hown
    clear hbx hown
    gi_wp2
    refine ⟨by simp, .inl ⟨_, _, rfl, run_takeDeferred hK, ?_⟩⟩
    exact ⟨_, results_tmp rfl _ _ _, ⟨_, rfl, own_keep HO.out (fun k cs hk => (World.putObj_heap_other (fun e => by subst e; rw [hK] at hk; cases hk)).trans hk), hB.trans (belowK_b (w := w) (Nat.le_refl _) W D _ _ (by omega) hK rfl rfl)⟩⟩
  case stop =>
    rintro D c pre W _ _ h _
    exact h.elim
end Go.Proofs.Ytldlddoealpomaa.Rl
