/- elements, and the package's Next. -/
import Derived.Test.YtbifhcjkdfocaaaDoorK
import Derived.Test.YtbifhcjkdfocaaaDoorO
namespace Go.Proofs.YtbifhcjkdfocaaaDoor
open Go.RowKit Go.Shelf
attribute [local go_sem] Oper.semAt_some

theorem elements_any (s : Int) (ws : List Nat) (v : Value) (q : Nat) (w : World) (hv : Bm w v s ws) :
    Calls Tryd.prog 42 #[v, .int .i64 q] w fun e w' => e = .returned (.func (.func 53) #[] #[.pointer (some ⟨w.heap.size, 0, none⟩), .pointer (some ⟨w.heap.size + 1, 0, none⟩)]) ∧ w'.heap.size = w.heap.size + 2 ∧
      (∀ A cap, v = .agg #[.int .i64 s, .slice A ws.length cap] → w'.cell? ⟨w.heap.size, 0, none⟩ = some (.int .i64 s) ∧ w'.cell? ⟨w.heap.size, 1, none⟩ = some (.slice A ws.length cap)) ∧ w'.cell? ⟨w.heap.size + 1, 0, none⟩ = some (.int .i64 q) ∧ Below w.heap.size w w' := by
  obtain ⟨A, cap, rfl⟩ := hv.form
  go_enter Tryd.func42, Tryd.ntmps42
  go_wp2
  refine bodyPost_ret (results_tmp rfl _ _ _) rfl ?_
  refine ⟨rfl, by simp, fun A' cap' h => ?_, ?_, ((Below.refl _ w).alloc (Nat.le_refl _) _).alloc (by simp) _⟩
  · simp only [Value.agg.injEq, Array.mk.injEq, List.cons.injEq, and_true, true_and, Value.slice.injEq] at h
    obtain ⟨rfl, rfl⟩ := h
    have h0 : ((w.alloc (.cells #[.int .i64 s, .slice A ws.length cap] 24)).alloc (.cells #[.int .i64 q] 3)).heap[w.heap.size]? = some (.cells #[.int .i64 s, .slice A ws.length cap] 24 (0, 0)) := (Below.heap_alloc _ _ _ (by simp)).trans (heap_alloc_new w _)
    exact ⟨cell_of_row _ _ 0 _ _ _ h0, cell_of_row _ _ 1 _ _ _ h0⟩
  · have h1 := heap_alloc_new (w.alloc (.cells #[.int .i64 s, .slice A ws.length cap] 24)) (.cells #[.int .i64 q] 3)
    rw [World.size_alloc] at h1
    exact cell_of_row _ _ 0 _ _ _ h1

theorem results_cell3 {fn : Func} {p : Tmp} (h : fn.results = #[.cell p 3]) (tmps : Array Value) (w : World) (g : Nat) (x : Value)
    (hp : tmps.getD p undef = .pointer (some ⟨g, 0, none⟩)) (hc : w.cell? ⟨g, 0, none⟩ = some x) : (results fn tmps).run Tryd.prog w = .ok x w := by
  have hp' : tmps[p]?.getD undef = .pointer (some ⟨g, 0, none⟩) := by simpa using hp
  have hag : (isAgg 3).run Tryd.prog w = .ok false w := Tryd.isAgg3 w
  simp [results, h, hp', asAddr, loadVar, hag, hc]
theorem next_elems {s q : Int} {m : Nat} {ws : List Nat} (hm : max q 0 = (m : Int)) : nextB s ws q = hd1 (elems s ws m) := by
  unfold nextB elems
  by_cases h : chk s ws = 0
  · rw [if_pos h, if_pos h, hm, Int.toNat_natCast]
    have good := chk_zero h
    have hlow := good.low
    have hlen := good.len
    obtain ⟨f, rfl⟩ := Int.eq_ofNat_of_zero_le hlow
    rw [Int.toNat_natCast]
    by_cases hmf : m ≤ f
    · have e : 64 * ws.length - m = (f - m) + (64 * ws.length - f) := by omega
      rw [e, elsL_add, elsL_none (n := 64 * ws.length - f) (fun j h1 h2 => good.clean j (by omega)), List.append_nil]
    · have e : f - m = 0 := by omega
      rw [e, elsL_zero, elsL_none (fun j h1 h2 => good.clean j (by omega))]
  · rw [if_neg h, if_neg h]
    rfl

set_option maxHeartbeats 4000000 in
set_option maxRecDepth 100000 in
theorem next_in (s : Int) (ws : List Nat) (v : Value) (m : Nat) (w : World) (hv : Bm w v s ws) (hT : Tab w) (hm : m ≤ 9223372036854775807) :
    CallsIn Fence.wide 5 Tryd.prog 22 #[v, .int .i64 m] w fun e w' => e = .returned (.int .i64 (hd1 (elems s ws m))) ∧ Below w.heap.size w w' := by
  obtain ⟨A, ca, rfl⟩ := hv.form
  obtain ⟨w1, h1⟩ : ∃ w1, w.alloc (.cells #[.int .i64 s, .slice A ws.length ca] 24) = w1 := ⟨_, rfl⟩
  have z1 : w1.heap.size = w.heap.size + 1 := by rw [← h1]; simp
  obtain ⟨w4, h4⟩ : ∃ w4, w1.alloc (.cells #[.int .i64 0] 3) = w4 := ⟨_, rfl⟩
  have z4 : w4.heap.size = w.heap.size + 2 := by rw [← h4]; simp; omega
  have rA : w4.heap[w.heap.size]? = some (.cells #[.int .i64 s, .slice A ws.length ca] 24 (0, 0)) := by
    rw [← h4]; refine (Below.heap_alloc _ _ _ (by omega)).trans ?_
    rw [← h1]; exact heap_alloc_new w _
  have rR : w4.heap[w.heap.size + 1]? = some (.cells #[.int .i64 0] 3 (0, 0)) := by
    rw [← h4, ← z1]; exact heap_alloc_new w1 _
  have hB4 : Below w.heap.size w w4 := by
    rw [← h4, ← h1]
    exact ((Below.refl _ w).alloc (Nat.le_refl _) _).alloc (by simp) _
  have a0 := cell_of_row _ _ 0 _ _ _ rA
  have a1 := cell_of_row _ _ 1 _ _ _ rA
  have HE := hid (elements_any s ws _ m w4 (hv.below hB4))
  have HV := hid hv
  have HTT := hid hT
  have RR := hid rR
  have HB4 := hid hB4
  clear hv hT rA rR hB4
  refine callsIn_of_wp_marks Tryd.func22 rfl trivial ?_ rfl
  simp only [Tryd.ntmps22, List.size_toArray, List.length_cons, List.length_nil, Nat.reduceAdd, Nat.reduceSub, Array.replicate_succ, Array.replicate_zero, List.push_toArray, List.append_toArray, List.nil_append, List.cons_append]
  gi_wp2_with (refine And.intro trivial ?_; gi_at_call 42; refine (callsIn_wide.2 HE.out).mono ?_; rintro e w2 ⟨rfl, hsz, hc1, hc2, hb2⟩)
  have HI := hid (elems_gives 4 (w4.heap.size) (w4.heap.size + 1) s ws m _ w w2 (by omega) HV.out HTT.out (below_both HB4.out hb2) hm (fun A cap h => hc1 A cap h) hc2 (by omega) (by omega))
  have rw2 := (hb2.block (w.heap.size + 1) (by omega)).trans RR.out
  have hbw := below_both HB4.out hb2
  have RW2 := hid rw2
  have HBW := hid hbw
  clear rw2 hbw hc1 hc2 hb2 a0 a1
  rw [z4] at HI hsz
  refine wpIn_range rfl (by omega) (gf := 53) (lb := #[.pointer (some ⟨w.heap.size + 2, 0, none⟩), .pointer (some ⟨w.heap.size + 2 + 1, 0, none⟩)]) rfl trivial (enters_of Tryd.func53 (by kernel_rfl) rfl) HI.out (Below.refl _ _) (fun k hk => by rcases hk with h | h | h <;> omega) (fun _ => rfl)
    (fun hi pre W => pre = [] ∧ hi ≤ W.heap.size ∧ w2.heap.size < hi ∧ W.heap[w.heap.size + 1]? = some (.cells #[.int .i64 0] 3 (0, 0)) ∧ Below w.heap.size w W)
    (fun c hi pre W => c = .ret ∧ ∃ x : Nat, pre = [x] ∧ hi ≤ W.heap.size ∧ w2.heap.size < hi ∧ W.heap[w.heap.size + 1]? = some (.cells #[.int .i64 x] 3 (0, 0)) ∧ Below w.heap.size w W) ?h0 ?hI ?hIx ?hround ?hdone ?hstop
  case h0 =>
    intro hi' W' hb hlo hhi
    exact ⟨rfl, hhi, hlo, (hb.block _ (by omega)).trans RW2.out, HBW.out.trans (hb.mono (by omega))⟩
  case hI =>
    rintro hi' s A B row ⟨h0, h1, h2, hv, hbel⟩ hgr hrow
    exact ⟨h0, Nat.le_trans h1 hgr.size, h2, (hgr.block _ (Array.getElem?_eq_some_iff.1 hv).1 (fun e => by have := (hrow _ e.symm).1; omega)).trans hv, hbel.grown hgr hbel.size (fun k e => by have := (hrow k e).1; omega)⟩
  case hIx =>
    rintro c hi' s A B row ⟨hc, x, h0, h1, h2, hv, hbel⟩ hgr hrow
    exact ⟨hc, x, h0, Nat.le_trans h1 hgr.size, h2, (hgr.block _ (Array.getElem?_eq_some_iff.1 hv).1 (fun e => by have := (hrow _ e.symm).1; omega)).trans hv, hbel.grown hgr hbel.size (fun k e => by have := (hrow k e).1; omega)⟩
  case hround =>
    rintro l hi' pre x W hlo hlhi hhi ⟨rfl, _, hwhi, hv, hbel⟩ hsp
    gi_wp2
    refine ⟨Kept.refl _ _ _ _, fun W2 hg2 => ?_⟩
    have hzz := hg2.size
    have hR2 : W2.heap[w.heap.size + 1]? = some (.cells #[.int .i64 0] 3 (0, 0)) := (hg2.block _ (Array.getElem?_eq_some_iff.1 hv).1 (fun e => by injection e with e; omega)).trans hv
    have hb2' : Below w.heap.size w W2 := hbel.grown hg2 hbel.size (fun k e => by injection e with e; omega)
    have f0 := cell_of_row _ _ 0 _ _ _ hR2
    have f1 : W2.frozen? ⟨w.heap.size + 1, 0, none⟩ = false := by unfold World.frozen?; rw [hR2]; simp
    have HR2 := hid hR2
    have HB2 := hid hb2'
    clear hR2 hb2' hv hbel
    gi_wp2
    refine ⟨⟨by simp, fun k hk => Below.heap_setCell _ _ _ _ (show k ≠ w.heap.size + 1 by rcases hk with (h | h | h) | h <;> omega)⟩, rfl, x, rfl, ?_, hwhi, box1_set HR2.out, HB2.out.setCell (p := ⟨w.heap.size + 1, 0, none⟩) (by show w.heap.size ≤ w.heap.size + 1; omega) _⟩
    simp
    omega
  case hdone =>
    rintro D hi' xs W hD hS ⟨rfl, _, hwhi, hv, hbel⟩ hdef
    have f0 := cell_of_row _ _ 0 _ _ _ hv
    have f1 : W.frozen? ⟨w.heap.size + 1, 0, none⟩ = false := by unfold World.frozen?; rw [hv]; simp
    have HVV := hid hv
    have HBB := hid hbel
    have HS := hid hS
    have HD := hid hdef
    clear hv hbel hS hdef
    gi_wp2
    have hD2 : (W.setCell ⟨w.heap.size + 1, 0, none⟩ (.int .i64 (-1))).heap[D]? = some (.deferred (some [])) := (Below.heap_setCell _ _ _ _ (show D ≠ w.heap.size + 1 by omega)).trans HD.out
    refine ⟨by simp, .inl ⟨_, _, rfl, run_takeDeferred hD2, ?_⟩⟩
    refine ⟨_, results_cell3 rfl _ _ (w.heap.size + 1) _ rfl ((World.cell?_of_block (a := ⟨w.heap.size + 1, 0, none⟩) (World.putObj_heap_other (show w.heap.size + 1 ≠ D by omega))).trans (cell_of_row _ _ 0 _ _ _ (box1_set HVV.out))), ?_, ?_⟩
    · rw [← HS.out]; rfl
    · exact (HBB.out.setCell (p := ⟨w.heap.size + 1, 0, none⟩) (by show w.heap.size ≤ w.heap.size + 1; omega) _).grown (grownBy_putObj' _ D _) (by have := HBB.out.size; simpa using this) (fun k e => by injection e with e; omega)
  case hstop =>
    rintro D hi' c pre W hD hSp ⟨rfl, x, rfl, _, hwhi, hv, hbel⟩ hdef
    have f0 := cell_of_row _ _ 0 _ _ _ hv
    have HBB := hid hbel
    have HD := hid hdef
    clear hv hbel hdef
    gi_wp2
    refine ⟨by simp, .inl ⟨_, _, rfl, run_takeDeferred HD.out, ?_⟩⟩
    obtain ⟨r, hr⟩ := hSp
    refine ⟨_, results_cell3 rfl _ _ (w.heap.size + 1) _ rfl ((World.cell?_of_block (a := ⟨w.heap.size + 1, 0, none⟩) (World.putObj_heap_other (show w.heap.size + 1 ≠ D by omega))).trans f0), ?_, ?_⟩
    · rw [← hr]; rfl
    · exact HBB.out.grown (grownBy_putObj' _ D _) HBB.out.size (fun k e => by injection e with e; omega)

set_option maxHeartbeats 4000000 in
set_option maxRecDepth 100000 in
theorem next_low (s : Int) (ws : List Nat) (v : Value) (q : Int) (w : World) (hv : Bm w v s ws) (hT : Tab w) (hq : q < 0) :
    CallsIn Fence.wide 5 Tryd.prog 22 #[v, .int .i64 q] w fun e w' => e = .returned (.int .i64 (hd1 (elems s ws 0))) ∧ Below w.heap.size w w' := by
  obtain ⟨A, ca, rfl⟩ := hv.form
  obtain ⟨w1, h1⟩ : ∃ w1, w.alloc (.cells #[.int .i64 s, .slice A ws.length ca] 24) = w1 := ⟨_, rfl⟩
  have z1 : w1.heap.size = w.heap.size + 1 := by rw [← h1]; simp
  obtain ⟨w4, h4⟩ : ∃ w4, w1.alloc (.cells #[.int .i64 0] 3) = w4 := ⟨_, rfl⟩
  have z4 : w4.heap.size = w.heap.size + 2 := by rw [← h4]; simp; omega
  have rA : w4.heap[w.heap.size]? = some (.cells #[.int .i64 s, .slice A ws.length ca] 24 (0, 0)) := by
    rw [← h4]; refine (Below.heap_alloc _ _ _ (by omega)).trans ?_
    rw [← h1]; exact heap_alloc_new w _
  have rR : w4.heap[w.heap.size + 1]? = some (.cells #[.int .i64 0] 3 (0, 0)) := by
    rw [← h4, ← z1]; exact heap_alloc_new w1 _
  have hB4 : Below w.heap.size w w4 := by
    rw [← h4, ← h1]
    exact ((Below.refl _ w).alloc (Nat.le_refl _) _).alloc (by simp) _
  have a0 := cell_of_row _ _ 0 _ _ _ rA
  have a1 := cell_of_row _ _ 1 _ _ _ rA
  have HE := hid (elements_any s ws _ 0 w4 (hv.below hB4))
  have HV := hid hv
  have HTT := hid hT
  have RR := hid rR
  have HB4 := hid hB4
  clear hv hT rA rR hB4
  refine callsIn_of_wp_marks Tryd.func22 rfl trivial ?_ rfl
  simp only [Tryd.ntmps22, List.size_toArray, List.length_cons, List.length_nil, Nat.reduceAdd, Nat.reduceSub, Array.replicate_succ, Array.replicate_zero, List.push_toArray, List.append_toArray, List.nil_append, List.cons_append]
  gi_wp2_with (refine And.intro trivial ?_; gi_at_call 42; refine (callsIn_wide.2 HE.out).mono ?_; rintro e w2 ⟨rfl, hsz, hc1, hc2, hb2⟩)
  have HI := hid (elems_gives 4 (w4.heap.size) (w4.heap.size + 1) s ws 0 _ w w2 (by omega) HV.out HTT.out (below_both HB4.out hb2) (by omega) (fun A cap h => hc1 A cap h) hc2 (by omega) (by omega))
  have rw2 := (hb2.block (w.heap.size + 1) (by omega)).trans RR.out
  have hbw := below_both HB4.out hb2
  have RW2 := hid rw2
  have HBW := hid hbw
  clear rw2 hbw hc1 hc2 hb2 a0 a1
  rw [z4] at HI hsz
  refine wpIn_range rfl (by omega) (gf := 53) (lb := #[.pointer (some ⟨w.heap.size + 2, 0, none⟩), .pointer (some ⟨w.heap.size + 2 + 1, 0, none⟩)]) rfl trivial (enters_of Tryd.func53 (by kernel_rfl) rfl) HI.out (Below.refl _ _) (fun k hk => by rcases hk with h | h | h <;> omega) (fun _ => rfl)
    (fun hi pre W => pre = [] ∧ hi ≤ W.heap.size ∧ w2.heap.size < hi ∧ W.heap[w.heap.size + 1]? = some (.cells #[.int .i64 0] 3 (0, 0)) ∧ Below w.heap.size w W)
    (fun c hi pre W => c = .ret ∧ ∃ x : Nat, pre = [x] ∧ hi ≤ W.heap.size ∧ w2.heap.size < hi ∧ W.heap[w.heap.size + 1]? = some (.cells #[.int .i64 x] 3 (0, 0)) ∧ Below w.heap.size w W) ?h0 ?hI ?hIx ?hround ?hdone ?hstop
  case h0 =>
    intro hi' W' hb hlo hhi
    exact ⟨rfl, hhi, hlo, (hb.block _ (by omega)).trans RW2.out, HBW.out.trans (hb.mono (by omega))⟩
  case hI =>
    rintro hi' s A B row ⟨h0, h1, h2, hv, hbel⟩ hgr hrow
    exact ⟨h0, Nat.le_trans h1 hgr.size, h2, (hgr.block _ (Array.getElem?_eq_some_iff.1 hv).1 (fun e => by have := (hrow _ e.symm).1; omega)).trans hv, hbel.grown hgr hbel.size (fun k e => by have := (hrow k e).1; omega)⟩
  case hIx =>
    rintro c hi' s A B row ⟨hc, x, h0, h1, h2, hv, hbel⟩ hgr hrow
    exact ⟨hc, x, h0, Nat.le_trans h1 hgr.size, h2, (hgr.block _ (Array.getElem?_eq_some_iff.1 hv).1 (fun e => by have := (hrow _ e.symm).1; omega)).trans hv, hbel.grown hgr hbel.size (fun k e => by have := (hrow k e).1; omega)⟩
  case hround =>
    rintro l hi' pre x W hlo hlhi hhi ⟨rfl, _, hwhi, hv, hbel⟩ hsp
    gi_wp2
    refine ⟨Kept.refl _ _ _ _, fun W2 hg2 => ?_⟩
    have hzz := hg2.size
    have hR2 : W2.heap[w.heap.size + 1]? = some (.cells #[.int .i64 0] 3 (0, 0)) := (hg2.block _ (Array.getElem?_eq_some_iff.1 hv).1 (fun e => by injection e with e; omega)).trans hv
    have hb2' : Below w.heap.size w W2 := hbel.grown hg2 hbel.size (fun k e => by injection e with e; omega)
    have f0 := cell_of_row _ _ 0 _ _ _ hR2
    have f1 : W2.frozen? ⟨w.heap.size + 1, 0, none⟩ = false := by unfold World.frozen?; rw [hR2]; simp
    have HR2 := hid hR2
    have HB2 := hid hb2'
    clear hR2 hb2' hv hbel
    gi_wp2
    refine ⟨⟨by simp, fun k hk => Below.heap_setCell _ _ _ _ (show k ≠ w.heap.size + 1 by rcases hk with (h | h | h) | h <;> omega)⟩, rfl, x, rfl, ?_, hwhi, box1_set HR2.out, HB2.out.setCell (p := ⟨w.heap.size + 1, 0, none⟩) (by show w.heap.size ≤ w.heap.size + 1; omega) _⟩
    simp
    omega
  case hdone =>
    rintro D hi' xs W hD hS ⟨rfl, _, hwhi, hv, hbel⟩ hdef
    have f0 := cell_of_row _ _ 0 _ _ _ hv
    have f1 : W.frozen? ⟨w.heap.size + 1, 0, none⟩ = false := by unfold World.frozen?; rw [hv]; simp
    have HVV := hid hv
    have HBB := hid hbel
    have HS := hid hS
    have HD := hid hdef
    clear hv hbel hS hdef
    gi_wp2
    have hD2 : (W.setCell ⟨w.heap.size + 1, 0, none⟩ (.int .i64 (-1))).heap[D]? = some (.deferred (some [])) := (Below.heap_setCell _ _ _ _ (show D ≠ w.heap.size + 1 by omega)).trans HD.out
    refine ⟨by simp, .inl ⟨_, _, rfl, run_takeDeferred hD2, ?_⟩⟩
    refine ⟨_, results_cell3 rfl _ _ (w.heap.size + 1) _ rfl ((World.cell?_of_block (a := ⟨w.heap.size + 1, 0, none⟩) (World.putObj_heap_other (show w.heap.size + 1 ≠ D by omega))).trans (cell_of_row _ _ 0 _ _ _ (box1_set HVV.out))), ?_, ?_⟩
    · rw [← HS.out]; rfl
    · exact (HBB.out.setCell (p := ⟨w.heap.size + 1, 0, none⟩) (by show w.heap.size ≤ w.heap.size + 1; omega) _).grown (grownBy_putObj' _ D _) (by have := HBB.out.size; simpa using this) (fun k e => by injection e with e; omega)
  case hstop =>
    rintro D hi' c pre W hD hSp ⟨rfl, x, rfl, _, hwhi, hv, hbel⟩ hdef
    have f0 := cell_of_row _ _ 0 _ _ _ hv
    have HBB := hid hbel
    have HD := hid hdef
    clear hv hbel hdef
    gi_wp2
    refine ⟨by simp, .inl ⟨_, _, rfl, run_takeDeferred HD.out, ?_⟩⟩
    obtain ⟨r, hr⟩ := hSp
    refine ⟨_, results_cell3 rfl _ _ (w.heap.size + 1) _ rfl ((World.cell?_of_block (a := ⟨w.heap.size + 1, 0, none⟩) (World.putObj_heap_other (show w.heap.size + 1 ≠ D by omega))).trans f0), ?_, ?_⟩
    · rw [← hr]; rfl
    · exact HBB.out.grown (grownBy_putObj' _ D _) HBB.out.size (fun k e => by injection e with e; omega)

theorem next_any (s : Int) (ws : List Nat) (v : Value) (q : Int) (w : World) (hv : Bm w v s ws) (hT : Tab w) (hq : R64 q) :
    Calls Tryd.prog 22 #[v, .int .i64 q] w fun e w' => e = .returned (.int .i64 (nextB s ws q)) ∧ Below w.heap.size w w' := by
  obtain ⟨hq1, hq2⟩ := hq
  by_cases h : 0 ≤ q
  · obtain ⟨m, rfl⟩ := Int.eq_ofNat_of_zero_le h
    rw [next_elems (q := (m : Int)) (m := m) (by omega)]
    exact callsIn_wide.1 (next_in s ws v m w hv hT (by omega))
  · rw [next_elems (q := q) (m := 0) (by omega)]
    exact callsIn_wide.1 (next_low s ws v q w hv hT (by omega))
end Go.Proofs.YtbifhcjkdfocaaaDoor
