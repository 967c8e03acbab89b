/- awake: the chapter's examples. -/
import Derived.Test.YtacpejoablcffaaO
namespace Go.Proofs.Ytacpejoablcffaa
open Go.RowKit Go.Lib

theorem own_new (w : World) (cs : List Value) (T st n : Nat) (h : cs.length = n * st) (hn : n ≤ maxLen) : (w.alloc (.cells cs.toArray T)).ownsRow w.heap.size T st (.slice (some ⟨w.heap.size, 0, none⟩) n n) n cs :=
  ⟨h, .inr ⟨w.heap.size, n, cs.toArray, rfl, Nat.le_refl _, heap_alloc_new _ _, Nat.le_refl _, hn, by simpa using h, by simp; rw [← h]; exact List.take_length⟩⟩
theorem ex1 : sendS ⟨1, 3, 4, false, 0, 0⟩ [] 10 [1, 2, 3, 4, 5, 6] [0, 2] = .ok (⟨1, 3, 4, false, 12, 1⟩, [(15, 0, [1, 2, 3, 4, 5, 6])], []) := by rfl
theorem ex2 : sendS ⟨1, 3, 4, false, 12, 1⟩ [(15, 0, [1, 2, 3, 4, 5, 6])] 10 [7] [2, 0, 1] = .ok (⟨1, 3, 4, false, 13, 3⟩, [(14, 1, [7]), (15, 0, [1, 2, 3, 4, 5, 6]), (15, 2, [7])], []) := by rfl
theorem ex3 : sendS ⟨1, 3, 4, false, 13, 3⟩ [(14, 1, [7]), (15, 0, [1, 2, 3, 4, 5, 6]), (15, 2, [7])] 10 [] [1, 7] = .ok (⟨1, 3, 4, false, 13, 3⟩, [(14, 1, [7]), (15, 0, [1, 2, 3, 4, 5, 6]), (15, 2, [7])], [7]) := by rfl
theorem ex4 : delN ⟨1, 3, 4, false, 13, 3⟩ [(14, 1, [7]), (15, 0, [1, 2, 3, 4, 5, 6]), (15, 2, [7])] 15 = 3 := by rfl
theorem send_ok {w w' : World} {R : Except Int (Lk × List Fc × List Int)} {e : Ending} {s : Lk} {l : List Fc} {ch : List Int} (h : SendQ w R e w') (hr : R = .ok (s, l, ch)) :
    ∃ (fv cv : Value) (vs : List Fl), e = .returned (.tuple #[vLk s fv, cv, .int .i64 0]) ∧ w'.ownsRow w.heap.size 69 3 fv vs.length (vs.map cFl).flatten ∧ vs.map core = l ∧ (∀ x ∈ vs, Pay w' x) ∧ w'.ownsRow w.heap.size 3 1 cv ch.length (ch.map intV) ∧ Below w.heap.size w w' := by
  obtain ⟨hb, ⟨er, h1, _, _⟩ | ⟨s', l', ch', v, cv, h1, h2, ⟨fv, vs, rfl, h3, h4, h5⟩, h6⟩⟩ := h
  · rw [hr] at h1; cases h1
  · rw [hr] at h1
    injection h1 with h1
    simp only [Prod.mk.injEq] at h1
    obtain ⟨rfl, rfl, rfl⟩ := h1
    exact ⟨fv, cv, vs, h2, h3, h4, h5, h6, hb⟩
theorem cores1 {vs : List Fl} {a : Fc} (h : vs.map core = [a]) : ∃ x, vs = [x] ∧ core x = a := by
  match vs, h with
  | [x], h => exact ⟨x, rfl, by simpa using h⟩
theorem cores3 {vs : List Fl} {a b c : Fc} (h : vs.map core = [a, b, c]) : ∃ x y z, vs = [x, y, z] ∧ core x = a ∧ core y = b ∧ core z = c := by
  match vs, h with
  | [x, y, z], h => simp at h; exact ⟨x, y, z, rfl, h.1, h.2.1, h.2.2⟩
theorem b8_small {l : List Nat} (h : l.all (fun x => decide (x < 256)) = true) : B8 l := fun x hx => of_decide_eq_true (List.all_eq_true.1 h x hx)
theorem set7k {w : World} {a : Nat} {cs : Array Value} {T E : TypeId} (h : w.heap[a]? = some (.cells cs E)) (hT : T ≠ E) (v0 v1 v2 v3 v4 v5 v6 : Value) : Keep T w (set7 w a v0 v1 v2 v3 v4 v5 v6) := fun q cs' hq => (set7o _ _ _ _ _ _ _ (fun e => by rw [e, h] at hq; cases hq; exact hT rfl)).trans hq
set_option maxHeartbeats 4000000 in
set_option maxRecDepth 100000 in
theorem awake_any (w : World) : Calls Try.prog 12 #[] w (TrueQ w) := by
  obtain ⟨g, hg⟩ : ∃ g, w.heap.size = g := ⟨_, rfl⟩
  have HG := hid hg
  have HNW := hid (new_any 1 3 4 w)
  clear hg
  go_enter Try.func12, Try.ntmps12
  go_wp2_with fail
  refine HNW.out.mono ?_
  rintro e w1 ⟨hb1, ⟨_, rfl⟩ | ⟨h, _⟩⟩
  rotate_left
  · exact absurd h (by decide)
  obtain ⟨a, ha⟩ : ∃ a, w1.heap.size = a := ⟨_, rfl⟩
  obtain ⟨W2, hW2⟩ : ∃ X, w1.alloc (.cells #[.int .i64 1, .int .i64 3, .int .i64 4, .bool false, .int .i64 0, .int .i64 0, .slice none 0 0] 26) = X := ⟨_, rfl⟩
  have HA2 : Hid (W2.heap[a]? = some (.cells #[.int .i64 1, .int .i64 3, .int .i64 4, .bool false, .int .i64 0, .int .i64 0, .slice none 0 0] 26)) := hid (by rw [← hW2, ← ha]; exact heap_alloc_new _ _)
  have HB2 : Hid (Below w.heap.size w W2) := hid (by rw [← hW2]; exact hb1.alloc hb1.size _)
  have hga : g ≤ a := by rw [← HG.out, ← ha]; exact hb1.size
  have HW2 := hid hW2
  have HA := hid ha
  clear hb1 HNW hW2 ha
  unfold vLk
  dsimp only
  go_upto_region 2 with fail
  rw [HW2.out, HA.out]
  have x0 := cell_of_row _ _ 0 _ _ _ HA2.out
  have x1 := cell_of_row _ _ 1 _ _ _ HA2.out
  have x2 := cell_of_row _ _ 2 _ _ _ HA2.out
  have x3 := cell_of_row _ _ 3 _ _ _ HA2.out
  have x4 := cell_of_row _ _ 4 _ _ _ HA2.out
  have x5 := cell_of_row _ _ 5 _ _ _ HA2.out
  have x6 := cell_of_row _ _ 6 _ _ _ HA2.out
  obtain ⟨P3, hP3⟩ : ∃ X, W2.alloc (.cells #[.int .u8 1, .int .u8 2, .int .u8 3, .int .u8 4, .int .u8 5, .int .u8 6] 5) = X := ⟨_, rfl⟩
  have hbp3 : Below W2.heap.size W2 P3 := by rw [← hP3]; exact al1 _ _
  have hzp3 : P3.heap.size = W2.heap.size + 1 := by rw [← hP3]; simp
  have hp3 : Byt P3 (.slice (some ⟨W2.heap.size, 0, none⟩) 6 6) [1, 2, 3, 4, 5, 6] := by rw [← hP3]; exact byt_of_own (own_new W2 ([1, 2, 3, 4, 5, 6].map byteV) 5 1 6 rfl (by unfold maxLen; omega)) (b8_small rfl)
  obtain ⟨C3, hC3⟩ : ∃ X, P3.alloc (.cells #[.int .i64 0, .int .i64 2] 3) = X := ⟨_, rfl⟩
  have hbc3 : Below P3.heap.size P3 C3 := by rw [← hC3]; exact al1 _ _
  have hc3 : Ints C3 (.slice (some ⟨P3.heap.size, 0, none⟩) 2 2) [0, 2] := by rw [← hC3]; exact ints_of_own (own_new P3 ([0, 2].map intV) 3 1 2 rfl (by unfold maxLen; omega)) (fun x hx => by simp at hx; unfold R64; omega)
  have hbb3 : Below W2.heap.size W2 C3 := hbp3.trans (hbc3.mono hbp3.size)
  have HS := hid (send_any ⟨1, 3, 4, false, 0, 0⟩ [] (.slice none 0 0) 10 [1, 2, 3, 4, 5, 6] (.slice (some ⟨W2.heap.size, 0, none⟩) 6 6) [0, 2] (.slice (some ⟨P3.heap.size, 0, none⟩) 2 2) C3 ((show FL W2 (.slice none 0 0) [] from ⟨fun x hx => by (cases hx), nilOk_nil, arr_nil _ _⟩).below hbb3) (fun x hx => by cases hx) (hp3.below hbc3) (nilOk_some _ _ _) hc3 (by simp))
  rw [hzp3] at HS
  have HBc3 := hid (HB2.out.trans (hbb3.mono HB2.out.size))
  have HAc3 := hid ((hbb3.block _ (box_lt HA2.out)).trans HA2.out)
  have HBB3 := hid hbb3
  have HP3 := hid hP3
  have HC3 := hid hC3
  unfold vLk at HS
  clear hC3 hbc3 hp3 hc3 hbp3 hbb3 hP3 hzp3
  go_wp2_with fail
  rw [HP3.out, HC3.out]
  refine HS.out.mono ?_
  rintro e w3 h3
  obtain ⟨fv, cv, vs, rfl, ho3, hc3, hp3, hq3, hb3⟩ := send_ok h3 (by first | exact ex1 | (rw [HV]; exact ex1))
  obtain ⟨cA3, cc3, rfl⟩ := own_formE hq3
  have HV3 := hid hc3
  obtain ⟨x3a, rfl, hx3a⟩ := cores1 hc3
  obtain ⟨fA3, fc3, rfl⟩ := own_form69 ho3
  unfold vLk
  dsimp only
  rw [show ([x3a] : List Fl).length = 1 from rfl, show ([] : List Int).length = 0 from rfl]
  clear x0 x1 x2 x3 x4 x5 x6
  have ha3 := (hb3.block _ (box_lt HAc3.out)).trans HAc3.out
  obtain ⟨Z3, hZ⟩ : ∃ X, (((((((w3.setCell ⟨a, 0, none⟩ (.int .i64 1)).setCell ⟨a, 1, none⟩ (.int .i64 3)).setCell ⟨a, 2, none⟩ (.int .i64 4)).setCell ⟨a, 3, none⟩ (.bool false)).setCell ⟨a, 4, none⟩ (.int .i64 12)).setCell ⟨a, 5, none⟩ (.int .i64 1)).setCell ⟨a, 6, none⟩ (.slice fA3 1 fc3)) = X := ⟨_, rfl⟩
  have HAZ3 : Hid (Z3.heap[a]? = some (.cells #[.int .i64 1, .int .i64 3, .int .i64 4, .bool false, .int .i64 12, .int .i64 1, (.slice fA3 1 fc3)] 26)) := hid (by rw [← hZ]; exact set7h _ _ _ _ _ _ _ ha3)
  have HFL3 : Hid (FL Z3 (.slice fA3 1 fc3) [x3a]) := hid (by rw [← hZ]; exact fl_of_own (own_keep ho3 (set7k ha3 (by decide) _ _ _ _ _ _ _)) rfl (fun x hx => (hp3 x hx).keep (set7k ha3 (by decide) _ _ _ _ _ _ _)))
  have HBZ3 : Hid (Below w.heap.size w Z3) := hid (by rw [← hZ]; exact set7b _ _ _ _ _ _ _ (HBc3.out.trans (hb3.mono HBc3.out.size)) (by rw [HG.out]; exact hga))
  have HCV3 : Hid (Z3.ownsRow C3.heap.size 3 1 (.slice cA3 0 cc3) 0 ([].map intV)) := hid (by rw [← hZ]; exact own_keep hq3 (set7k ha3 (by decide) _ _ _ _ _ _ _))
  have HZ3 := hid hZ
  have x0 := cell_of_row _ _ 0 _ _ _ ha3
  have fx0 := box_fr ha3 0
  have x1 := cell_of_row _ _ 1 _ _ _ ha3
  have fx1 := box_fr ha3 1
  have x2 := cell_of_row _ _ 2 _ _ _ ha3
  have fx2 := box_fr ha3 2
  have x3 := cell_of_row _ _ 3 _ _ _ ha3
  have fx3 := box_fr ha3 3
  have x4 := cell_of_row _ _ 4 _ _ _ ha3
  have fx4 := box_fr ha3 4
  have x5 := cell_of_row _ _ 5 _ _ _ ha3
  have fx5 := box_fr ha3 5
  have x6 := cell_of_row _ _ 6 _ _ _ ha3
  have fx6 := box_fr ha3 6
  clear hZ ha3 hb3 ho3 hp3 hq3 hc3 h3 HS
  go_upto_region 3 with fail
  rw [HZ3.out]
  clear x0 x1 x2 x3 x4 x5 x6 fx0 fx1 fx2 fx3 fx4 fx5 fx6
  have x0 := cell_of_row _ _ 0 _ _ _ HAZ3.out
  have x1 := cell_of_row _ _ 1 _ _ _ HAZ3.out
  have x2 := cell_of_row _ _ 2 _ _ _ HAZ3.out
  have x3 := cell_of_row _ _ 3 _ _ _ HAZ3.out
  have x4 := cell_of_row _ _ 4 _ _ _ HAZ3.out
  have x5 := cell_of_row _ _ 5 _ _ _ HAZ3.out
  have x6 := cell_of_row _ _ 6 _ _ _ HAZ3.out
  obtain ⟨b3, o3, rfl, _, hcell⟩ := fl_cells HFL3.out (by simp)
  have q0 : Z3.cell? ⟨b3, o3, none⟩ = some (.int .i64 15) := by
    have h := (hcell 0 x3a rfl).1
    have e : Fl.t x3a = 15 := congrArg (fun y : Fc => y.1) hx3a
    rw [e] at h
    simpa using h
  clear hcell
  have hr3 : ∀ y ∈ [x3a], R64 y.n := fun y hy => by
    rw [List.mem_singleton] at hy
    subst hy
    rw [show y.n = 0 from congrArg (fun z : Fc => z.2.1) hx3a]
    unfold R64; omega
  have HR3 := hid hr3
  clear hr3
  go_upto_region 5 with fail
  clear q0
  obtain ⟨P5, hP5⟩ : ∃ X, Z3.alloc (.cells #[.int .u8 7] 5) = X := ⟨_, rfl⟩
  have hbp5 : Below Z3.heap.size Z3 P5 := by rw [← hP5]; exact al1 _ _
  have hzp5 : P5.heap.size = Z3.heap.size + 1 := by rw [← hP5]; simp
  have hp5 : Byt P5 (.slice (some ⟨Z3.heap.size, 0, none⟩) 1 1) [7] := by rw [← hP5]; exact byt_of_own (own_new Z3 ([7].map byteV) 5 1 1 rfl (by unfold maxLen; omega)) (b8_small rfl)
  obtain ⟨C5, hC5⟩ : ∃ X, P5.alloc (.cells #[.int .i64 2, .int .i64 0, .int .i64 1] 3) = X := ⟨_, rfl⟩
  have hbc5 : Below P5.heap.size P5 C5 := by rw [← hC5]; exact al1 _ _
  have hc5 : Ints C5 (.slice (some ⟨P5.heap.size, 0, none⟩) 3 3) [2, 0, 1] := by rw [← hC5]; exact ints_of_own (own_new P5 ([2, 0, 1].map intV) 3 1 3 rfl (by unfold maxLen; omega)) (fun x hx => by simp at hx; unfold R64; omega)
  have hbb5 : Below Z3.heap.size Z3 C5 := hbp5.trans (hbc5.mono hbp5.size)
  have HS := hid (send_any ⟨1, 3, 4, false, 12, 1⟩ [x3a] (.slice (some ⟨b3, o3, none⟩) 1 fc3) 10 [7] (.slice (some ⟨Z3.heap.size, 0, none⟩) 1 1) [2, 0, 1] (.slice (some ⟨P5.heap.size, 0, none⟩) 3 3) C5 ((HFL3.out).below hbb5) HR3.out (hp5.below hbc5) (nilOk_some _ _ _) hc5 (by simp))
  rw [hzp5] at HS
  have HBc5 := hid (HBZ3.out.trans (hbb5.mono HBZ3.out.size))
  have HAc5 := hid ((hbb5.block _ (box_lt HAZ3.out)).trans HAZ3.out)
  have HBB5 := hid hbb5
  have HP5 := hid hP5
  have HC5 := hid hC5
  unfold vLk at HS
  clear hC5 hbc5 hp5 hc5 hbp5 hbb5 hP5 hzp5
  go_wp2_with fail
  rw [HP5.out, HC5.out]
  refine HS.out.mono ?_
  rintro e w5 h5
  obtain ⟨fv, cv, vs, rfl, ho5, hc5, hp5, hq5, hb5⟩ := send_ok h5 (by rw [HV3.out]; exact ex2)
  obtain ⟨cA5, cc5, rfl⟩ := own_formE hq5
  have HV5 := hid hc5
  obtain ⟨x5a, x5b, x5c, rfl, hx5a, hx5b, hx5c⟩ := cores3 hc5
  obtain ⟨fA5, fc5, rfl⟩ := own_form69 ho5
  unfold vLk
  dsimp only
  rw [show ([x5a, x5b, x5c] : List Fl).length = 3 from rfl, show ([] : List Int).length = 0 from rfl]
  clear x0 x1 x2 x3 x4 x5 x6
  have ha5 := (hb5.block _ (box_lt HAc5.out)).trans HAc5.out
  obtain ⟨Z5, hZ⟩ : ∃ X, (((((((w5.setCell ⟨a, 0, none⟩ (.int .i64 1)).setCell ⟨a, 1, none⟩ (.int .i64 3)).setCell ⟨a, 2, none⟩ (.int .i64 4)).setCell ⟨a, 3, none⟩ (.bool false)).setCell ⟨a, 4, none⟩ (.int .i64 13)).setCell ⟨a, 5, none⟩ (.int .i64 3)).setCell ⟨a, 6, none⟩ (.slice fA5 3 fc5)) = X := ⟨_, rfl⟩
  have HAZ5 : Hid (Z5.heap[a]? = some (.cells #[.int .i64 1, .int .i64 3, .int .i64 4, .bool false, .int .i64 13, .int .i64 3, (.slice fA5 3 fc5)] 26)) := hid (by rw [← hZ]; exact set7h _ _ _ _ _ _ _ ha5)
  have HFL5 : Hid (FL Z5 (.slice fA5 3 fc5) [x5a, x5b, x5c]) := hid (by rw [← hZ]; exact fl_of_own (own_keep ho5 (set7k ha5 (by decide) _ _ _ _ _ _ _)) rfl (fun x hx => (hp5 x hx).keep (set7k ha5 (by decide) _ _ _ _ _ _ _)))
  have HBZ5 : Hid (Below w.heap.size w Z5) := hid (by rw [← hZ]; exact set7b _ _ _ _ _ _ _ (HBc5.out.trans (hb5.mono HBc5.out.size)) (by rw [HG.out]; exact hga))
  have HCV5 : Hid (Z5.ownsRow C5.heap.size 3 1 (.slice cA5 0 cc5) 0 ([].map intV)) := hid (by rw [← hZ]; exact own_keep hq5 (set7k ha5 (by decide) _ _ _ _ _ _ _))
  have HZ5 := hid hZ
  have x0 := cell_of_row _ _ 0 _ _ _ ha5
  have fx0 := box_fr ha5 0
  have x1 := cell_of_row _ _ 1 _ _ _ ha5
  have fx1 := box_fr ha5 1
  have x2 := cell_of_row _ _ 2 _ _ _ ha5
  have fx2 := box_fr ha5 2
  have x3 := cell_of_row _ _ 3 _ _ _ ha5
  have fx3 := box_fr ha5 3
  have x4 := cell_of_row _ _ 4 _ _ _ ha5
  have fx4 := box_fr ha5 4
  have x5 := cell_of_row _ _ 5 _ _ _ ha5
  have fx5 := box_fr ha5 5
  have x6 := cell_of_row _ _ 6 _ _ _ ha5
  have fx6 := box_fr ha5 6
  clear hZ ha5 hb5 ho5 hp5 hq5 hc5 h5 HS
  go_upto_region 6 with fail
  rw [HZ5.out]
  clear x0 x1 x2 x3 x4 x5 x6 fx0 fx1 fx2 fx3 fx4 fx5 fx6
  have x0 := cell_of_row _ _ 0 _ _ _ HAZ5.out
  have x1 := cell_of_row _ _ 1 _ _ _ HAZ5.out
  have x2 := cell_of_row _ _ 2 _ _ _ HAZ5.out
  have x3 := cell_of_row _ _ 3 _ _ _ HAZ5.out
  have x4 := cell_of_row _ _ 4 _ _ _ HAZ5.out
  have x5 := cell_of_row _ _ 5 _ _ _ HAZ5.out
  have x6 := cell_of_row _ _ 6 _ _ _ HAZ5.out
  obtain ⟨b5, o5, rfl, _, hcell⟩ := fl_cells HFL5.out (by simp)
  have q0 : Z5.cell? ⟨b5, o5, none⟩ = some (.int .i64 14) := by
    have h := (hcell 0 x5a rfl).1
    have e : Fl.t x5a = 14 := congrArg (fun y : Fc => y.1) hx5a
    rw [e] at h
    simpa using h
  have q1 : Z5.cell? ⟨b5, o5 + 7, none⟩ = some (.int .i64 2) := by
    have h := (hcell 2 x5c rfl).2.1
    have e : Fl.n x5c = 2 := congrArg (fun y : Fc => y.2.1) hx5c
    rw [e] at h
    simpa using h
  clear hcell
  have hr5 : ∀ y ∈ [x5a, x5b, x5c], R64 y.n := fun y hy => by
    have e1 : x5a.n = 1 := congrArg (fun z : Fc => z.2.1) hx5a
    have e2 : x5b.n = 0 := congrArg (fun z : Fc => z.2.1) hx5b
    have e3 : x5c.n = 2 := congrArg (fun z : Fc => z.2.1) hx5c
    simp at hy
    rcases hy with rfl | rfl | rfl
    · rw [e1]; unfold R64; omega
    · rw [e2]; unfold R64; omega
    · rw [e3]; unfold R64; omega
  have HR5 := hid hr5
  clear hr5
  go_upto_region 8 with fail
  clear q0 q1
  have hbp7 : Below Z5.heap.size Z5 Z5 := Below.refl _ _
  have hp7 : Byt Z5 (.slice none 0 0) [] := byt_of_own (World.ownsRow_nil _ 0 5 1) (b8_small rfl)
  obtain ⟨C7, hC7⟩ : ∃ X, Z5.alloc (.cells #[.int .i64 1, .int .i64 7] 3) = X := ⟨_, rfl⟩
  have hbc7 : Below Z5.heap.size Z5 C7 := by rw [← hC7]; exact al1 _ _
  have hc7 : Ints C7 (.slice (some ⟨Z5.heap.size, 0, none⟩) 2 2) [1, 7] := by rw [← hC7]; exact ints_of_own (own_new Z5 ([1, 7].map intV) 3 1 2 rfl (by unfold maxLen; omega)) (fun x hx => by simp at hx; unfold R64; omega)
  have hbb7 : Below Z5.heap.size Z5 C7 := hbp7.trans (hbc7.mono hbp7.size)
  have HS := hid (send_any ⟨1, 3, 4, false, 13, 3⟩ [x5a, x5b, x5c] (.slice (some ⟨b5, o5, none⟩) 3 fc5) 10 [] (.slice none 0 0) [1, 7] (.slice (some ⟨Z5.heap.size, 0, none⟩) 2 2) C7 ((HFL5.out).below hbb7) HR5.out (hp7.below hbc7) nilOk_nil hc7 (by simp))
  have HBc7 := hid (HBZ5.out.trans (hbb7.mono HBZ5.out.size))
  have HAc7 := hid ((hbb7.block _ (box_lt HAZ5.out)).trans HAZ5.out)
  have HBB7 := hid hbb7
  have HC7 := hid hC7
  unfold vLk at HS
  clear hC7 hbc7 hp7 hc7 hbp7 hbb7 
  go_wp2_with fail
  rw [HC7.out]
  refine HS.out.mono ?_
  rintro e w7 h7
  obtain ⟨fv, cv, vs, rfl, ho7, hc7, hp7, hq7, hb7⟩ := send_ok h7 (by rw [HV5.out]; exact ex3)
  obtain ⟨cA7, cc7, rfl⟩ := own_formE hq7
  have HV7 := hid hc7
  obtain ⟨x7a, x7b, x7c, rfl, hx7a, hx7b, hx7c⟩ := cores3 hc7
  obtain ⟨fA7, fc7, rfl⟩ := own_form69 ho7
  unfold vLk
  dsimp only
  rw [show ([x7a, x7b, x7c] : List Fl).length = 3 from rfl, show ([7] : List Int).length = 1 from rfl]
  clear x0 x1 x2 x3 x4 x5 x6
  have ha7 := (hb7.block _ (box_lt HAc7.out)).trans HAc7.out
  obtain ⟨Z7, hZ⟩ : ∃ X, w7.alloc (.cells #[.int .i64 1, .int .i64 3, .int .i64 4, .bool false, .int .i64 13, .int .i64 3, (.slice fA7 3 fc7)] 26) = X := ⟨_, rfl⟩
  have hbz : Below w7.heap.size w7 Z7 := by rw [← hZ]; exact al1 _ _
  have HMZ7 : Hid (Z7.heap[w7.heap.size]? = some (.cells #[.int .i64 1, .int .i64 3, .int .i64 4, .bool false, .int .i64 13, .int .i64 3, (.slice fA7 3 fc7)] 26)) := hid (by rw [← hZ]; exact heap_alloc_new _ _)
  have HAZ7 := hid ((hbz.block _ (box_lt ha7)).trans ha7)
  have HFL7 : Hid (FL Z7 (.slice fA7 3 fc7) [x7a, x7b, x7c]) := hid ((fl_of_own ho7 rfl hp7).below hbz)
  have HBZ7 : Hid (Below w.heap.size w Z7) := hid ((HBc7.out.trans (hb7.mono HBc7.out.size)).trans (hbz.mono (HBc7.out.trans (hb7.mono HBc7.out.size)).size))
  have HCV7 := hid (own_keep hq7 (keep_below hbz))
  have HBX7 := hid (hb7.trans (hbz.mono hb7.size))
  have HZ7 := hid hZ
  clear hZ hbz ha7 hb7 ho7 hp7 hq7 hc7 h7 HS
  have HFL5' := hid (HFL5.out.below (HBB7.out.trans (HBX7.out.mono HBB7.out.size)))
  go_upto_region 9 with fail
  rw [HZ7.out]
  obtain ⟨m7, hm7⟩ : ∃ m, w7.heap.size = m := ⟨_, rfl⟩
  have HMZ : Hid (Z7.heap[m7]? = some (.cells #[.int .i64 1, .int .i64 3, .int .i64 4, .bool false, .int .i64 13, .int .i64 3, .slice fA7 3 fc7] 26)) := hid (by rw [← hm7]; exact HMZ7.out)
  rw [hm7]
  obtain ⟨S7, hS7⟩ : ∃ X, Z7.alloc (.cells #[.int .i64 7] 3) = X := ⟨_, rfl⟩
  have hbs : Below Z7.heap.size Z7 S7 := by rw [← hS7]; exact al1 _ _
  have hi7 : Ints S7 (.slice (some ⟨Z7.heap.size, 0, none⟩) 1 1) [7] := by rw [← hS7]; exact ints_of_own (own_new Z7 ([7].map intV) 3 1 1 rfl (by unfold maxLen; omega)) (fun x hx => by simp at hx; unfold R64; omega)
  have hj7 : Ints S7 (.slice cA7 1 cc7) [7] := (ints_of_own HCV7.out (fun x hx => by simp at hx; unfold R64; omega)).below hbs
  have HSI := hid (sameInts_any [7] _ _ S7 hj7 hi7 (by simp))
  have HAS := hid ((hbs.block _ (box_lt HAZ7.out)).trans HAZ7.out)
  have HMS := hid ((hbs.block _ (box_lt HMZ.out)).trans HMZ.out)
  have HBS := hid (HBZ7.out.trans (hbs.mono HBZ7.out.size))
  have HFS := hid (HFL5'.out.below hbs)
  have HS7 := hid hS7
  clear hm7 hS7 hbs hi7 hj7
  go_wp2_with fail
  rw [HS7.out]
  refine HSI.out.mono ?_
  rintro e w8 ⟨rfl, hb8⟩
  have HA8 := hid ((hb8.block _ (box_lt HAS.out)).trans HAS.out)
  have HM8 := hid ((hb8.block _ (box_lt HMS.out)).trans HMS.out)
  have HB8 := hid (HBS.out.trans (hb8.mono HBS.out.size))
  have HF8 := hid (HFS.out.below hb8)
  clear hb8 HSI
  have y6 := cell_of_row _ _ 6 _ _ _ HM8.out
  go_upto_region 11 with fail
  clear y6
  have x0 := cell_of_row _ _ 0 _ _ _ HA8.out
  have x1 := cell_of_row _ _ 1 _ _ _ HA8.out
  have x2 := cell_of_row _ _ 2 _ _ _ HA8.out
  have x3 := cell_of_row _ _ 3 _ _ _ HA8.out
  have x4 := cell_of_row _ _ 4 _ _ _ HA8.out
  have x5 := cell_of_row _ _ 5 _ _ _ HA8.out
  have x6 := cell_of_row _ _ 6 _ _ _ HA8.out
  have HDV := hid (deliver_any ⟨1, 3, 4, false, 13, 3⟩ [x5a, x5b, x5c] _ 15 w8 HF8.out HR5.out (by simp) (fun y hy => by
    have e1 : x5a.p = [7] := congrArg (fun z : Fc => z.2.2) hx5a
    have e2 : x5b.p = [1, 2, 3, 4, 5, 6] := congrArg (fun z : Fc => z.2.2) hx5b
    have e3 : x5c.p = [7] := congrArg (fun z : Fc => z.2.2) hx5c
    simp at hy
    rcases hy with rfl | rfl | rfl
    · rw [e1]; simp
    · rw [e2]; simp
    · rw [e3]; simp))
  rw [HV5.out, ex4] at HDV
  unfold vLk at HDV
  go_wp2_with fail
  refine HDV.out.mono ?_
  rintro e w9 ⟨v9, pv9, ps, rfl, ⟨fv9, vs9, rfl, ho9, hc9, hp9⟩, hq9, hk9, hl9, hb9⟩
  obtain rfl : vs9 = [] := by
    have : vs9.map core = [] := hc9
    simpa using this
  obtain ⟨p1, p2, p3, rfl, hp1, hp2, hp3⟩ := cores3 hk9
  obtain ⟨fA9, fc9, rfl⟩ := own_form69 ho9
  obtain ⟨qA9, qc9, rfl⟩ := own_formE hq9
  unfold vLk
  dsimp only
  rw [show ([p1, p2, p3] : List Fl).length = 3 from rfl, show ([] : List Fl).length = 0 from rfl]
  have ha9 := (hb9.block _ (box_lt HA8.out)).trans HA8.out
  obtain ⟨Z9, hZ⟩ : ∃ X, (((((((w9.setCell ⟨a, 0, none⟩ (.int .i64 1)).setCell ⟨a, 1, none⟩ (.int .i64 3)).setCell ⟨a, 2, none⟩ (.int .i64 4)).setCell ⟨a, 3, none⟩ (.bool false)).setCell ⟨a, 4, none⟩ (.int .i64 13)).setCell ⟨a, 5, none⟩ (.int .i64 3)).setCell ⟨a, 6, none⟩ (.slice fA9 0 fc9)) = X := ⟨_, rfl⟩
  have HAZ9 : Hid (Z9.heap[a]? = some (.cells #[.int .i64 1, .int .i64 3, .int .i64 4, .bool false, .int .i64 13, .int .i64 3, .slice fA9 0 fc9] 26)) := hid (by rw [← hZ]; exact set7h _ _ _ _ _ _ _ ha9)
  have HBZ9 : Hid (Below w.heap.size w Z9) := hid (by rw [← hZ]; exact set7b _ _ _ _ _ _ _ (HB8.out.trans (hb9.mono HB8.out.size)) (by rw [HG.out]; exact hga))
  have HPY : Hid (PyL Z9 (.slice qA9 3 qc9) [p1, p2, p3]) := hid (by rw [← hZ]; exact py_of_own (own_keep hq9 (set7k ha9 (by decide) _ _ _ _ _ _ _)) (fun x hx => (hl9 x hx).keep (set7k ha9 (by decide) _ _ _ _ _ _ _)))
  have HZ9 := hid hZ
  clear x0 x1 x2 x3 x4 x5 x6
  have x0 := cell_of_row _ _ 0 _ _ _ ha9
  have fx0 := box_fr ha9 0
  have x1 := cell_of_row _ _ 1 _ _ _ ha9
  have fx1 := box_fr ha9 1
  have x2 := cell_of_row _ _ 2 _ _ _ ha9
  have fx2 := box_fr ha9 2
  have x3 := cell_of_row _ _ 3 _ _ _ ha9
  have fx3 := box_fr ha9 3
  have x4 := cell_of_row _ _ 4 _ _ _ ha9
  have fx4 := box_fr ha9 4
  have x5 := cell_of_row _ _ 5 _ _ _ ha9
  have fx5 := box_fr ha9 5
  have x6 := cell_of_row _ _ 6 _ _ _ ha9
  have fx6 := box_fr ha9 6
  clear hZ ha9 hb9 ho9 hc9 hp9 hq9 hl9 HDV
  go_upto_region 12 with fail
  rw [HZ9.out]
  clear x0 x1 x2 x3 x4 x5 x6 fx0 fx1 fx2 fx3 fx4 fx5 fx6
  obtain ⟨q, hq⟩ : ∃ q, Z9.heap.size = q := ⟨_, rfl⟩
  obtain ⟨T1, hT1⟩ : ∃ X, Z9.alloc (.cells #[.int .u8 7] 5) = X := ⟨_, rfl⟩
  obtain ⟨T2, hT2⟩ : ∃ X, T1.alloc (.cells #[.int .u8 1, .int .u8 2, .int .u8 3, .int .u8 4, .int .u8 5, .int .u8 6] 5) = X := ⟨_, rfl⟩
  obtain ⟨T3, hT3⟩ : ∃ X, T2.alloc (.cells #[.int .u8 7] 5) = X := ⟨_, rfl⟩
  obtain ⟨T4, hT4⟩ : ∃ X, T3.alloc (.cells #[.slice (some ⟨q, 0, none⟩) 1 1, .slice (some ⟨q + 1, 0, none⟩) 6 6, .slice (some ⟨q + 2, 0, none⟩) 1 1] 37) = X := ⟨_, rfl⟩
  have hz1 : T1.heap.size = q + 1 := by rw [← hT1, ← hq]; simp
  have hz2 : T2.heap.size = q + 2 := by rw [← hT2]; simp [hz1]
  have hz3 : T3.heap.size = q + 3 := by rw [← hT3]; simp [hz2]
  have hb1 : Below Z9.heap.size Z9 T1 := by rw [← hT1]; exact al1 _ _
  have hb2 : Below T1.heap.size T1 T2 := by rw [← hT2]; exact al1 _ _
  have hb3 : Below T2.heap.size T2 T3 := by rw [← hT3]; exact al1 _ _
  have hb4 : Below T3.heap.size T3 T4 := by rw [← hT4]; exact al1 _ _
  have ho1 : T4.ownsRow 0 5 1 (.slice (some ⟨q, 0, none⟩) 1 1) 1 ([7].map byteV) := by
    have h := own_new Z9 ([7].map byteV) 5 1 1 rfl (by unfold maxLen; omega)
    rw [hq] at h
    have h' : T1.ownsRow q 5 1 (.slice (some ⟨q, 0, none⟩) 1 1) 1 ([7].map byteV) := by rw [← hT1]; exact h
    exact own_base (own_keep (own_keep (own_keep h' (keep_below hb2)) (keep_below hb3)) (keep_below hb4)) (Nat.zero_le _)
  have ho2 : T4.ownsRow 0 5 1 (.slice (some ⟨q + 1, 0, none⟩) 6 6) 6 ([1, 2, 3, 4, 5, 6].map byteV) := by
    have h := own_new T1 ([1, 2, 3, 4, 5, 6].map byteV) 5 1 6 rfl (by unfold maxLen; omega)
    rw [hz1] at h
    have h' : T2.ownsRow (q + 1) 5 1 (.slice (some ⟨q + 1, 0, none⟩) 6 6) 6 ([1, 2, 3, 4, 5, 6].map byteV) := by rw [← hT2]; exact h
    exact own_base (own_keep (own_keep h' (keep_below hb3)) (keep_below hb4)) (Nat.zero_le _)
  have ho3 : T4.ownsRow 0 5 1 (.slice (some ⟨q + 2, 0, none⟩) 1 1) 1 ([7].map byteV) := by
    have h := own_new T2 ([7].map byteV) 5 1 1 rfl (by unfold maxLen; omega)
    rw [hz2] at h
    have h' : T3.ownsRow (q + 2) 5 1 (.slice (some ⟨q + 2, 0, none⟩) 1 1) 1 ([7].map byteV) := by rw [← hT3]; exact h
    exact own_base (own_keep h' (keep_below hb4)) (Nat.zero_le _)
  have hpl : PyL T4 (.slice (some ⟨q + 3, 0, none⟩) 3 3) [⟨0, 0, .slice (some ⟨q, 0, none⟩) 1 1, [7]⟩, ⟨0, 0, .slice (some ⟨q + 1, 0, none⟩) 6 6, [1, 2, 3, 4, 5, 6]⟩, ⟨0, 0, .slice (some ⟨q + 2, 0, none⟩) 1 1, [7]⟩] := by
    have h := own_new T3 [.slice (some ⟨q, 0, none⟩) 1 1, .slice (some ⟨q + 1, 0, none⟩) 6 6, .slice (some ⟨q + 2, 0, none⟩) 1 1] 37 1 3 rfl (by unfold maxLen; omega)
    rw [hz3] at h
    refine py_of_own (B := q + 3) (n := 3) (by rw [← hT4]; exact h) (fun x hx => ?_)
    simp at hx
    rcases hx with rfl | rfl | rfl
    · exact ⟨⟨0, ho1⟩, b8_small rfl⟩
    · exact ⟨⟨0, ho2⟩, b8_small rfl⟩
    · exact ⟨⟨0, ho3⟩, b8_small rfl⟩
  have hbT : Below Z9.heap.size Z9 T4 := ((hb1.trans (hb2.mono hb1.size)).trans (hb3.mono (hb1.trans (hb2.mono hb1.size)).size)).trans (hb4.mono ((hb1.trans (hb2.mono hb1.size)).trans (hb3.mono (hb1.trans (hb2.mono hb1.size)).size)).size)
  have HSP := hid (samePays_any [p1, p2, p3] _ (.slice qA9 3 qc9) (.slice (some ⟨q + 3, 0, none⟩) 3 3) T4 (HPY.out.below hbT) hpl (by simp) (by
    have e1 : p1.p = [7] := congrArg (fun z : Fc => z.2.2) hp1
    have e2 : p2.p = [1, 2, 3, 4, 5, 6] := congrArg (fun z : Fc => z.2.2) hp2
    have e3 : p3.p = [7] := congrArg (fun z : Fc => z.2.2) hp3
    simp [e1, e2, e3]))
  have HAT := hid ((hbT.block _ (box_lt HAZ9.out)).trans HAZ9.out)
  have HBT := hid (HBZ9.out.trans (hbT.mono HBZ9.out.size))
  have HT1 := hid hT1
  have HT2 := hid hT2
  have HT3 := hid hT3
  have HT4 := hid hT4
  have HQ := hid hq
  clear hT1 hT2 hT3 hT4 hz1 hz2 hz3 hb1 hb2 hb3 hb4 ho1 ho2 ho3 hpl hbT hq
  go_wp2_with fail
  rw [HQ.out, HT1.out, HT2.out, HT3.out, HT4.out]
  refine HSP.out.mono ?_
  rintro e w10 ⟨rfl, hb10⟩
  have HA10 := hid ((hb10.block _ (box_lt HAT.out)).trans HAT.out)
  have HB10 := hid (HBT.out.trans (hb10.mono HBT.out.size))
  clear hb10 HSP
  have x6 := cell_of_row _ _ 6 _ _ _ HA10.out
  go_wp2_with fail
  go_ret
  exact ⟨rfl, HB10.out⟩
end Go.Proofs.Ytacpejoablcffaa
