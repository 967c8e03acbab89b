/- Size. -/
import Derived.Test.YtielamoaghibgaaRe
namespace Go.Proofs.Ytielamoaghibgaa
open Go.RowKit Go.Lib Go.Shelf
attribute [local go_sem] Oper.semAt_some

theorem encK_bound {w : World} {x : Grp} (h : GOk w x) : (encK (x.k, x.g)).length ≤ 900000 := by
  obtain ⟨hk, h0, hl, h8, _⟩ := h
  unfold encK
  rw [List.length_append]
  have h1 : (enc (4 * x.g.length + x.k)).length ≤ 8 := enc_le8 (by unfold top; omega)
  have h2 : (body x.k x.g).length ≤ 800000 := by
    unfold body
    split
    · rw [flat_len h8]; omega
    split
    · rw [flat_len (fun s hs => h8 s (List.mem_of_mem_take hs)), List.length_take]; omega
    · simp
  dsimp only
  omega
theorem encs_bound {w : World} (pre : List (GrpOf w)) : (encs (gpr pre)).length ≤ 900000 * pre.length := by
  induction pre with
  | nil => simp [gpr, encs]
  | cons x t ih =>
    have h := encK_bound x.2
    have e : encs (gpr (x :: t)) = encK (x.1.k, x.1.g) ++ encs (gpr t) := by simp [gpr, encs]
    rw [e, List.length_append, List.length_cons]
    omega
theorem encK_len {w : World} {k c : Nat} {g : List Sect} {A : Option Addr} (h : GOk w ⟨k, g, A, c⟩) : (encK (k, g)).length = (enc (4 * g.length + k)).length + 8 * bodyN k g.length := by
  obtain ⟨hk, h0, hl, h8, _⟩ := h
  dsimp only at hk h0 hl h8
  have hp : 0 < g.length := List.length_pos_iff.2 h0
  unfold encK bodyN body
  dsimp only
  rw [List.length_append]
  split
  · rw [flat_len h8]
  split
  · rw [flat_len (fun s hs => h8 s (List.mem_of_mem_take hs)), List.length_take]; omega
  · simp
theorem boxed_kept {W W' : World} {g : Nat} {T : TypeId} {v : Value} {row : Option Nat} (h : Boxed W g T v) (hg : W.grownBy W' row) (hr : ∀ r, row = some r → ∃ o : Obj, W.heap[r]? = some o ∧ o.isCells = false) : Boxed W' g T v := by
  refine (hg.block g h.lt (fun e => ?_)).trans h
  obtain ⟨o, ho, hc⟩ := hr g e.symm
  rw [show W.heap[g]? = _ from h] at ho
  cases ho
  cases hc
theorem keep_set {W : World} {g i : Nat} {T E : TypeId} {u v : Value} (h : Boxed W g E u) (hT : T ≠ E) : Keep T W (W.setCell ⟨g, i, none⟩ v) := fun k cs hk => by
  refine (Below.heap_setCell W ⟨g, i, none⟩ v k (fun e => ?_)).trans hk
  have e' : k = g := e
  subst e'
  rw [show W.heap[k]? = _ from h] at hk
  cases hk
  exact hT rfl
theorem keepsFrom_below {B : Nat} {A C : World} (h : Below A.heap.size A C) : KeepsFrom B A C := ⟨h.size, fun k _ _ hk _ => (h.block k (Array.getElem?_eq_some_iff.1 hk).1).trans hk⟩
theorem kp_put {n₀ : Nat} {w : World} (hn : n₀ ≤ w.heap.size) (W : World) (l : Nat) (o o' : Obj) (hl : w.heap.size ≤ l) (h : W.heap[l]? = some o) (hc : o.isCells = false) (hw : o.isWalk = false) : Kp n₀ W (W.putObj l o') :=
  ⟨belowK_b hn W l o o' hl h hc hw, fun k cs hk => (World.putObj_heap_other (fun e => by subst e; rw [h] at hk; cases hk; cases hc)).trans hk⟩
theorem kp_below {n₀ : Nat} {A B : World} (h : Below A.heap.size A B) (hn : n₀ ≤ A.heap.size) : Kp n₀ A B := ⟨h.mono hn, keep_below h⟩

set_option maxRecDepth 100000 in
set_option maxHeartbeats 4000000 in
theorem size_any (l : List Sect) (v : Value) (w : World) (hv : Sec w v l) (hl : l.length ≤ 100000) :
    Calls Try.prog 14 #[v] w fun e W' => e = .returned (.int .i64 ((rl l).length : Nat)) ∧ Below w.heap.size w W' := by
  obtain ⟨A, cap, rfl⟩ := sec_form hv
  have HV := hid hv
  clear hv
  refine (callsIn_wide (n := 3)).1 ?_
  refine callsIn_of_wp_marks Try.func14 rfl trivial ?_ rfl
  simp only [Try.ntmps14, List.size_toArray, List.length_cons, List.length_nil, Nat.reduceAdd, Nat.reduceSub, Array.replicate_succ, Array.replicate_zero, List.push_toArray, List.append_toArray, List.nil_append, List.cons_append]
  gi_wp2_with (refine ⟨trivial, ?_⟩; gi_at_call 23; refine (callsIn_wide.2 (groups_any _ _ _ _ _ rfl)).mono ?_; rintro e w2 ⟨rfl, rfl⟩)
  obtain ⟨W2, hW2⟩ : ∃ W2, (w.alloc (.cells #[.int .i64 0] 3)).alloc (.cells #[.slice A l.length cap] 22) = W2 := ⟨_, rfl⟩
  have hz2 : W2.heap.size = w.heap.size + 2 := by rw [← hW2]; simp
  have hB2 : Below w.heap.size w W2 := by rw [← hW2]; exact ((Below.refl _ w).alloc (Nat.le_refl _) _).alloc (by simp) _
  have hx2 : W2.heap[w.heap.size]? = some (.cells #[.int .i64 0] 3 (0, 0)) := by rw [← hW2]; exact (Below.heap_alloc _ _ _ (by simp)).trans (heap_alloc_new w _)
  have hc2 : W2.cell? ⟨w.heap.size + 1, 0, none⟩ = some (.slice A l.length cap) := by
    rw [← hW2]
    have h := heap_alloc_new (w.alloc (.cells #[.int .i64 0] 3)) (.cells #[.slice A l.length cap] 22)
    rw [show (w.alloc (.cells #[.int .i64 0] 3)).heap.size = w.heap.size + 1 by simp] at h
    exact cell_of_row _ _ 0 _ _ _ h
  have hS := groups_streams 2 (w.heap.size + 1) l _ w W2 (by decide) HV.out hl hB2 (by omega) hc2
  have HLL : Hid (l.length ≤ 100000) := hid hl
  rw [hW2]
  clear hW2 hc2 hl
  refine wpIn_rangeFunc_ownH rfl (by decide) (gf := 34) (lb := #[.pointer (some ⟨w.heap.size + 1, 0, none⟩)]) rfl trivial enters34 hS (fun h k => Kp.trans h k) (kp_put (by omega)) (Below.refl _ _) (fun _ => rfl)
    (fun pre W => (Boxed W w.heap.size 3 (.int .i64 ((encs (gpr pre)).length : Nat)) ∧ Below w.heap.size w W) ∧ W2.heap.size ≤ W.heap.size)
    (fun _ _ _ => False)
    ?hI (fun _ _ _ _ _ hs _ _ => hs)
    ⟨⟨hx2, hB2⟩, Nat.le_refl _⟩
    (fun x a' W => ∃ gb, w.heap.size < gb ∧ a' = { tmps := #[.slice A l.length cap, undef, .int .i64 0, .pointer (some ⟨w.heap.size, 0, none⟩), .pointer (some ⟨gb, 0, none⟩), .slice A l.length cap, .func (.func 34) #[] #[.pointer (some ⟨w.heap.size + 1, 0, none⟩)], gval x.1, undef, undef, undef, undef, undef, undef, undef, undef, undef, undef, undef], defers := [] } ∧ W.heap[gb]? = some (.cells #[.int .i64 (x.1.k : Int), .slice x.1.A x.1.g.length x.1.c] 53 (0, 0)))
    ?hA ?assign ?body ?done ?stop
  case hI =>
    exact OwnFrom.and (OwnFrom.and (fun s A B row hs hg hr => boxed_kept hs hg (fun r e => (hr r e).2)) (ownFrom_below (Nat.le_refl _) (by omega))) (fun _ _ _ _ hs hg _ => Nat.le_trans hs hg.size)
  case hA =>
    rintro x a' s W W' row ⟨gb, h1, h2, h3⟩ hg hr
    refine ⟨gb, h1, h2, (hg.block _ (box_lt h3) (fun e => ?_)).trans h3⟩
    obtain ⟨_, o, ho, hoc⟩ := hr gb e.symm
    rw [h3] at ho
    cases ho
    cases hoc
  case assign =>
    rintro l0 pre x W K ⟨⟨hc, hB⟩, hz⟩ hK
    obtain ⟨⟨xk, xg, xA, xc⟩, hx⟩ := x
    have HK := hid hK
    have HI := hid (show (Boxed W w.heap.size 3 (.int .i64 ((encs (gpr pre)).length : Nat)) ∧ Below w.heap.size w W) ∧ W2.heap.size ≤ W.heap.size from ⟨⟨hc, hB⟩, hz⟩)
    clear hK hc hB
    dsimp only [gval]
    gi_wp2
    have hI := HI.out
    have hlt : w.heap.size < W.heap.size := by omega
    exact HK.out _ _ ((KeepsOthers.alloc W _).from _) (kp_below (al1 W _) (by omega))
      ⟨⟨hI.1.1.alloc _, hI.1.2.trans ((al1 W _).mono hI.1.2.size)⟩, by simp; omega⟩
      ⟨W.heap.size, hlt, rfl, heap_alloc_new W _⟩
  case body =>
    rintro l0 pre x a' W _ _ ⟨⟨hbx, hB⟩, hz⟩ ⟨gb, hgb, rfl, hgx⟩ hpl
    obtain ⟨⟨xk, xg, xA, xc⟩, hx⟩ := x
    have hN := encs_bound pre
    have HLE : Hid (encs (gpr (pre ++ [⟨⟨xk, xg, xA, xc⟩, hx⟩])) = encs (gpr pre) ++ encK (xk, xg)) := hid (by rw [gpr_snoc, encs_snoc])
    have hxk := hx.1
    have hxl := hx.2.2.1
    have HX := hid hx
    dsimp only at hxk hxl hgx
    have HLP := hid hpl
    obtain ⟨N, hNe⟩ : ∃ N, (encs (gpr pre)).length = N := ⟨_, rfl⟩
    have HNE := hid hNe
    rw [hNe] at hbx hN
    have hc := hbx.cell
    have hf := hbx.frozen
    have HBX := hid hbx
    have HBW := hid hB
    have HZ := hid hz
    have hNb : N ≤ 90000000000 := by have := HLL.out; omega
    have HC := hid (show W.cell? ⟨w.heap.size, 0, none⟩ = some (.int .i64 (N : Int)) ∧ W.cell? ⟨gb, 0, none⟩ = some (.int .i64 (xk : Int)) ∧ W.cell? ⟨gb, 1, none⟩ = some (.slice xA xg.length xc) from ⟨hc, cell_of_row _ _ 0 _ _ _ hgx, cell_of_row _ _ 1 _ _ _ hgx⟩)
    have HF := hid hf
    have HL := hid (show w.heap.size < W.drew.heap.size ∧ gb < W.drew.heap.size from ⟨Nat.lt_of_lt_of_le (by omega) hz, box_lt hgx⟩)
    have HH := hid (fun X : World => head_any ⟨xk, xg, xA, xc⟩ X hxk hxl)
    have HBo := hid (fun X : World => body_any ⟨xk, xg, xA, xc⟩ w X hx)
    have HKB : Hid ((encK (xk, xg)).length = (enc (4 * xg.length + xk)).length + 8 * bodyN xk xg.length) := hid (encK_len hx)
    obtain ⟨h9, hh9⟩ : ∃ h9, (enc (4 * xg.length + xk)).length = h9 := ⟨_, rfl⟩
    have hh8 : h9 ≤ 8 := by rw [← hh9]; exact enc_le8 (by unfold top; omega)
    have hHeld : W.drew.cell? ⟨w.heap.size, 0, none⟩ = some (.int .i64 (N : Int)) ∧ W.drew.cell? ⟨gb, 0, none⟩ = some (.int .i64 (xk : Int)) ∧ W.drew.cell? ⟨gb, 1, none⟩ = some (.slice xA xg.length xc) := HC.out
    clear hc hf hgx hNe hN hbx hB hz
    gi_wp2
    refine round_tail 10 (fun X : World => X.cell? ⟨w.heap.size, 0, none⟩ = some (.int .i64 (N : Int)) ∧ X.cell? ⟨gb, 0, none⟩ = some (.int .i64 (xk : Int)) ∧ X.cell? ⟨gb, 1, none⟩ = some (.slice xA xg.length xc)) (by kernel_rfl) (by rintro ⟨_, _, h⟩; exact h) (by kernel_rfl) ?_
    refine' wpAnyT_take (i := 0) (oi := ?oi1) (v := ?v1) ?hi1 (by kernel_rfl) (by kernel_rfl) ?hq1 ?hy1 hHeld ?rest1
    case hi1 => (simp only [List.getElem?_toArray, List.getElem?_cons_zero]; rfl)
    case hq1 => exact fun _ _ _ h => h
    case hy1 => (refine Or.inl ⟨by rfl, ?_⟩; intro w' hSw; (try dsimp only at hSw); go_simp; try with_reducible rfl)
    (try simp only [Act.put, List.setIfInBounds_toArray, List.set_cons_zero, List.set_cons_succ])
    refine' wpAnyT_take (i := 1) (oi := ?oi2) (v := ?v2) ?hi2 (by kernel_rfl) (by kernel_rfl) ?hq2 ?hy2 hHeld ?rest2
    case hi2 => (simp only [List.getElem?_toArray, List.getElem?_cons_zero, List.getElem?_cons_succ]; rfl)
    case hq2 => exact fun _ _ _ h => h
    case hy2 => (refine Or.inl ⟨by rfl, ?_⟩; intro w' hSw; (try dsimp only at hSw); go_simp; try with_reducible rfl)
    (try simp only [Act.put, List.setIfInBounds_toArray, List.set_cons_zero, List.set_cons_succ])
    refine' wpAnyT_take (i := 4) (oi := ?oi3) (v := ?v3) ?hi3 (by kernel_rfl) (by kernel_rfl) ?hq3 ?hy3 hHeld ?rest3
    case hi3 => (simp only [List.getElem?_toArray, List.getElem?_cons_zero, List.getElem?_cons_succ]; rfl)
    case hq3 => exact fun _ _ _ h => h
    case hy3 => (refine Or.inl ⟨by rfl, ?_⟩; intro w' hSw; (try dsimp only at hSw); go_simp; try with_reducible rfl)
    (try simp only [Act.put, List.setIfInBounds_toArray, List.set_cons_zero, List.set_cons_succ])
    refine' wpAnyT_one (i := 2) (o := ?oi4) (by kernel_rfl) ?hi4 (fun K hK => ?st4)
    case hi4 => (simp only [List.getElem?_toArray, List.getElem?_cons_zero, List.getElem?_cons_succ]; rfl)
    go_simp
    refine (HH.out _).mono ?_
    rintro e W3 ⟨v3, rfl, hv3, hn3, hb3⟩
    obtain ⟨a3, c3, rfl⟩ := byt_form hv3
    have HB3 := hid hb3
    clear hv3 hn3 hb3
    clear hHeld
    have hHeld : W3.cell? ⟨w.heap.size, 0, none⟩ = some (.int .i64 (N : Int)) ∧ W3.cell? ⟨gb, 0, none⟩ = some (.int .i64 (xk : Int)) ∧ W3.cell? ⟨gb, 1, none⟩ = some (.slice xA xg.length xc) := ⟨(HB3.out.cell (p := ⟨_, _, none⟩) HL.out.1).trans HC.out.1, (HB3.out.cell (p := ⟨_, _, none⟩) HL.out.2).trans HC.out.2.1, (HB3.out.cell (p := ⟨_, _, none⟩) HL.out.2).trans HC.out.2.2⟩
    refine hK.out _ _ (fun _ => hHeld) ?_
    clear hK K
    (try simp only [Act.put, List.setIfInBounds_toArray, List.set_cons_zero, List.set_cons_succ])
    refine' wpAnyT_take (i := 3) (oi := ?oi5) (v := ?v5) ?hi5 (by kernel_rfl) (by kernel_rfl) ?hq5 ?hy5 hHeld ?rest5
    case hi5 => (simp only [List.getElem?_toArray, List.getElem?_cons_zero, List.getElem?_cons_succ]; rfl)
    case hq5 => exact fun _ _ _ h => h
    case hy5 => (refine Or.inl ⟨by rfl, ?_⟩; intro w' hSw; (try dsimp only at hSw); go_simp; try with_reducible rfl)
    (try simp only [Act.put, List.setIfInBounds_toArray, List.set_cons_zero, List.set_cons_succ])
    refine' wpAnyT_one (i := 5) (o := ?oi6) (by kernel_rfl) ?hi6 (fun K hK => ?st6)
    case hi6 => (simp only [List.getElem?_toArray, List.getElem?_cons_zero, List.getElem?_cons_succ]; rfl)
    go_simp
    refine (HBo.out _).mono ?_
    rintro e W4 ⟨⟨A4, c4, rfl, _⟩, hb4⟩
    have HB4 := hid (below_both HB3.out hb4)
    clear hb4
    clear hHeld
    have hHeld : W4.cell? ⟨w.heap.size, 0, none⟩ = some (.int .i64 (N : Int)) ∧ W4.cell? ⟨gb, 0, none⟩ = some (.int .i64 (xk : Int)) ∧ W4.cell? ⟨gb, 1, none⟩ = some (.slice xA xg.length xc) := ⟨(HB4.out.cell (p := ⟨_, _, none⟩) HL.out.1).trans HC.out.1, (HB4.out.cell (p := ⟨_, _, none⟩) HL.out.2).trans HC.out.2.1, (HB4.out.cell (p := ⟨_, _, none⟩) HL.out.2).trans HC.out.2.2⟩
    have c9 := hHeld.1
    have f9 : W4.frozen? ⟨w.heap.size, 0, none⟩ = false := (HB4.out.frozen (p := ⟨_, _, none⟩) HL.out.1).trans HF.out
    refine hK.out _ _ (fun _ => hHeld) ?_
    clear hK K
    (try simp only [Act.put, List.setIfInBounds_toArray, List.set_cons_zero, List.set_cons_succ])
    refine' wpAnyT_take (i := 6) (oi := ?oi7) (v := ?v7) ?hi7 (by kernel_rfl) (by kernel_rfl) ?hq7 ?hy7 hHeld ?rest7
    case hi7 => (simp only [List.getElem?_toArray, List.getElem?_cons_zero, List.getElem?_cons_succ]; rfl)
    case hq7 => exact fun _ _ _ h => h
    case hy7 => (refine Or.inl ⟨by rfl, ?_⟩; intro w' hSw; (try dsimp only at hSw); go_simp; try with_reducible rfl)
    (try simp only [Act.put, List.setIfInBounds_toArray, List.set_cons_zero, List.set_cons_succ])
    refine' wpAnyT_take (i := 7) (oi := ?oi8) (v := ?v8) ?hi8 (by kernel_rfl) (by kernel_rfl) ?hq8 ?hy8 hHeld ?rest8
    case hi8 => (simp only [List.getElem?_toArray, List.getElem?_cons_zero, List.getElem?_cons_succ]; rfl)
    case hq8 => exact fun _ _ _ h => h
    case hy8 => (refine Or.inl ⟨by rfl, ?_⟩; intro w' hSw; (try dsimp only at hSw); go_simp; try with_reducible rfl)
    (try simp only [Act.put, List.setIfInBounds_toArray, List.set_cons_zero, List.set_cons_succ])
    refine' wpAnyT_take (i := 8) (oi := ?oi9) (v := ?v9) ?hi9 (by kernel_rfl) (by kernel_rfl) ?hq9 ?hy9 hHeld ?rest9
    case hi9 => (simp only [List.getElem?_toArray, List.getElem?_cons_zero, List.getElem?_cons_succ]; rfl)
    case hq9 => exact fun _ _ _ h => h
    case hy9 => (refine Or.inl ⟨by rfl, ?_⟩; intro w' hSw; (try dsimp only at hSw); go_simp; try with_reducible rfl)
    (try simp only [Act.put, List.setIfInBounds_toArray, List.set_cons_zero, List.set_cons_succ])
    refine' wpAnyT_take (i := 9) (oi := ?oi10) (v := ?v10) ?hi10 (by kernel_rfl) (by kernel_rfl) ?hq10 ?hy10 hHeld ?rest10
    case hi10 => (simp only [List.getElem?_toArray, List.getElem?_cons_zero, List.getElem?_cons_succ]; rfl)
    case hq10 => exact fun _ _ _ h => h
    case hy10 => (refine Or.inl ⟨by rfl, ?_⟩; intro w' hSw; (try dsimp only at hSw); go_simp; try with_reducible rfl)
    (try simp only [Act.put, List.setIfInBounds_toArray, List.set_cons_zero, List.set_cons_succ])
    refine' wpAnyT_one (i := 10) (o := ?oi11) (by kernel_rfl) ?hi11 (fun K hK => ?st11)
    case hi11 => (simp only [List.getElem?_toArray, List.getElem?_cons_zero, List.getElem?_cons_succ]; rfl)
    go_simp
    refine hK.out _ _ (fun h => absurd h (by decide)) ?_
    clear hK K
    (try simp only [Act.put, List.setIfInBounds_toArray, List.set_cons_zero, List.set_cons_succ])
    refine wpAnyT_done (by kernel_rfl) ?_ _
    have HW : Hid (Below W.heap.size W W4) := hid ((below_drew (Below.refl W.heap.size W)).trans (show Below W.heap.size W.drew W4 from HB4.out))
    have hb4 : Boxed W4 w.heap.size 3 (.int .i64 (N : Int)) := (HW.out.block _ HBX.out.lt).trans HBX.out
    have he : IntKind.i64.wrap ((N : Int) + IntKind.i64.wrap ((h9 : Int) + IntKind.i64.wrap (8 * (bodyN xk xg.length : Int)))) = ((encs (gpr (pre ++ [⟨⟨xk, xg, xA, xc⟩, hx⟩]))).length : Nat) := by
      rw [HLE.out, List.length_append, HNE.out, HKB.out, hh9]
      have hb : bodyN xk xg.length ≤ 100000 := by unfold bodyN; split; exact hxl; split <;> omega
      rw [IntWalk.i64_in (8 * (bodyN xk xg.length : Int)) (by omega), IntWalk.i64_in ((h9 : Int) + 8 * (bodyN xk xg.length : Int)) (by omega), IntWalk.i64_in _ (by omega)]
      omega
    rw [he]
    exact ⟨(keepsFrom_below HW.out).trans ((KeepsOthers.setCell _ _ _).from _), ⟨(HW.out.mono (show w.heap.size ≤ W.heap.size by have := HZ.out; omega)).setCell (p := ⟨w.heap.size, 0, none⟩) (Nat.le_refl _) _, (keep_below HW.out).trans (keep_set hb4 (by decide))⟩,
      ⟨⟨hb4.set _, (HBW.out.trans (HW.out.mono HBW.out.size)).setCell (p := ⟨w.heap.size, 0, none⟩) (Nat.le_refl _) _⟩, by have := HW.out.size; have := HZ.out; simp; omega⟩⟩
  case done =>
    rintro D ys W hD hys ⟨⟨hbx, hB⟩, _⟩ hK
    rw [hys, ← rl_encs] at hbx
    have hc := hbx.cell
    clear hbx
    gi_wp2
    refine ⟨by simp, .inl ⟨_, _, rfl, run_takeDeferred hK, ?_⟩⟩
    exact ⟨_, results_tmp rfl _ _ _, rfl, hB.trans (belowK_b (w := w) (Nat.le_refl _) W D _ _ (by omega) hK rfl rfl)⟩
  case stop =>
    rintro D c pre W _ _ h _
    exact h.elim
end Go.Proofs.Ytielamoaghibgaa
