/- New and Accepts of both sides. -/
import Derived.Test.YtkdladacmjkdoaaC
import Derived.Test.YtkdladacmjkdoaaD
namespace Go.Proofs.Ytkdladacmjkdoaa
open Go.RowKit Go.Lib
def z6 : Ses := ⟨0, 0, 0, 0, 0, 0⟩
/-- Six stores into a box. -/
abbrev set6 (w : World) (g : Nat) (s : Ses) : World := (((((w.setCell ⟨g, 0, none⟩ (.int .i64 s.l)).setCell ⟨g, 1, none⟩ (.int .i64 s.r)).setCell ⟨g, 2, none⟩ (.int .i64 s.e)).setCell ⟨g, 3, none⟩ (.int .i64 s.n)).setCell ⟨g, 4, none⟩ (.int .i64 s.p)).setCell ⟨g, 5, none⟩ (.int .i64 s.d)
theorem set6h {w : World} {g : Nat} {T : TypeId} {z : Ses} (s : Ses) (h : w.heap[g]? = some (.cells (cS z) T)) : (set6 w g s).heap[g]? = some (.cells (cS s) T) :=
  box_set (cs := [.int .i64 s.l, .int .i64 s.r, .int .i64 s.e, .int .i64 s.n, .int .i64 s.p, .int .i64 z.d]) (box_set (cs := [.int .i64 s.l, .int .i64 s.r, .int .i64 s.e, .int .i64 s.n, .int .i64 z.p, .int .i64 z.d]) (box_set (cs := [.int .i64 s.l, .int .i64 s.r, .int .i64 s.e, .int .i64 z.n, .int .i64 z.p, .int .i64 z.d]) (box_set (cs := [.int .i64 s.l, .int .i64 s.r, .int .i64 z.e, .int .i64 z.n, .int .i64 z.p, .int .i64 z.d]) (box_set (cs := [.int .i64 s.l, .int .i64 z.r, .int .i64 z.e, .int .i64 z.n, .int .i64 z.p, .int .i64 z.d]) (box_set (cs := [.int .i64 z.l, .int .i64 z.r, .int .i64 z.e, .int .i64 z.n, .int .i64 z.p, .int .i64 z.d]) h 0 _) 1 _) 2 _) 3 _) 4 _) 5 _
theorem set6u {g : Nat} {a b : World} (s : Ses) (h : Upd g a b) : Upd g a (set6 b g s) := (((((h.set 0 _).set 1 _).set 2 _).set 3 _).set 4 _).set 5 _
theorem set6b {B : Nat} {w0 w : World} {g : Nat} (s : Ses) (h : Below B w0 w) (hg : B ≤ g) : Below B w0 (set6 w g s) :=
  (((((h.setCell hg _).setCell hg _).setCell hg _).setCell hg _).setCell hg _).setCell hg _
theorem load6 {w : World} {g : Nat} {s : Ses} {T : TypeId} (h : w.heap[g]? = some (.cells (cS s) T)) : w.cell? ⟨g, 0, none⟩ = some (.int .i64 s.l) ∧ w.cell? ⟨g, 1, none⟩ = some (.int .i64 s.r) ∧ w.cell? ⟨g, 2, none⟩ = some (.int .i64 s.e) ∧ w.cell? ⟨g, 3, none⟩ = some (.int .i64 s.n) ∧ w.cell? ⟨g, 4, none⟩ = some (.int .i64 s.p) ∧ w.cell? ⟨g, 5, none⟩ = some (.int .i64 s.d) :=
  ⟨cell_of_row _ _ 0 _ _ _ h, cell_of_row _ _ 1 _ _ _ h, cell_of_row _ _ 2 _ _ _ h, cell_of_row _ _ 3 _ _ _ h, cell_of_row _ _ 4 _ _ _ h, cell_of_row _ _ 5 _ _ _ h⟩
theorem run_lv23 {w : World} {g : Nat} {T : TypeId} {s : Ses} (h : w.heap[g]? = some (.cells (cS s) T)) : (loadVar 23 ⟨g, 0, none⟩).run Try.prog w = .ok (sv s) w :=
  run_loadVar_row w g T 23 (cS s) (0, 0) _ h Try.underlying23 rfl rfl
theorem results_s1 {fn : Func} {p u : Tmp} (h : fn.results = #[.cell p 23, .tmp u]) (tmps : Array Value) (w : World) (g : Nat) (T : TypeId) (s : Ses)
    (hp : tmps.getD p undef = .pointer (some ⟨g, 0, none⟩)) (hh : w.heap[g]? = some (.cells (cS s) T)) (z : Value) (hz : tmps.getD u undef = z) :
    (results fn tmps).run Try.prog w = .ok (.tuple #[sv s, z]) w := by
  have hp' : tmps[p]?.getD undef = .pointer (some ⟨g, 0, none⟩) := by simpa using hp
  have hz' : tmps[u]?.getD undef = z := by simpa using hz
  simp [results, h, hp', hz', asAddr, run_lv23 hh]
theorem results_s2 {fn : Func} {p u t : Tmp} (h : fn.results = #[.cell p 23, .tmp u, .tmp t]) (tmps : Array Value) (w : World) (g : Nat) (T : TypeId) (s : Ses)
    (hp : tmps.getD p undef = .pointer (some ⟨g, 0, none⟩)) (hh : w.heap[g]? = some (.cells (cS s) T)) (z : Value) (hz : tmps.getD u undef = z) (y : Value) (hy : tmps.getD t undef = y) :
    (results fn tmps).run Try.prog w = .ok (.tuple #[sv s, z, y]) w := by
  have hp' : tmps[p]?.getD undef = .pointer (some ⟨g, 0, none⟩) := by simpa using hp
  have hz' : tmps[u]?.getD undef = z := by simpa using hz
  have hy' : tmps[t]?.getD undef = y := by simpa using hy
  simp [results, h, hp', hz', hy', asAddr, run_lv23 hh]
/-- What New returns. -/
def newR (s : Ses) : Ses := if chk s = 0 then s else z6
set_option maxHeartbeats 4000000 in
set_option maxRecDepth 100000 in
theorem new_any (l r e n : Int) (w : World) : Calls Try.prog 10 #[.int .i64 l, .int .i64 r, .int .i64 e, .int .i64 n] w fun f w' => f = .returned (.tuple #[sv (newR ⟨l, r, e, n, 0, 0⟩), .int .i64 (chk ⟨l, r, e, n, 0, 0⟩)]) ∧ Below w.heap.size w w' := by
  obtain ⟨g, hg⟩ : ∃ g, w.heap.size = g := ⟨_, rfl⟩
  obtain ⟨s, hs⟩ : ∃ s, (⟨l, r, e, n, 0, 0⟩ : Ses) = s := ⟨_, rfl⟩
  obtain ⟨W2, hW2⟩ : ∃ X, (w.alloc (.cells (cS z6) 23)).alloc (.cells (cS ⟨l, r, e, n, 0, 0⟩) 23) = X := ⟨_, rfl⟩
  have HB2 : Hid (Below g w W2) := hid (by rw [← hW2, ← hg]; exact below_both (al1 w _) (al1 _ _))
  have H8 : Hid (W2.heap[g]? = some (.cells (cS z6) 23)) := hid (by rw [← hW2, ← hg]; exact (Below.heap_alloc _ _ _ (by rw [World.size_alloc]; omega)).trans (heap_alloc_new w _))
  have H10 : Hid (W2.heap[g + 1]? = some (.cells (cS ⟨l, r, e, n, 0, 0⟩) 23)) := hid (by rw [← hW2, ← hg]; exact new_two w _ _)
  obtain ⟨c, hc⟩ : ∃ c, chk ⟨l, r, e, n, 0, 0⟩ = c := ⟨_, rfl⟩
  have HCK := hid (check_any ⟨l, r, e, n, 0, 0⟩ W2)
  unfold newR
  rw [hc] at HCK ⊢
  have y := load6 H10.out
  obtain ⟨y0, y1, y2, y3, y4, y5⟩ := y
  have HW2 := hid hW2
  have HG := hid hg
  clear hW2 hg hs hc
  by_cases c0 : c = 0
  · subst c0
    rw [if_pos rfl]
    go_enter Try.func10, Try.ntmps10
    go_upto_region 2 with fail
    rw [HG.out]
    simp only [cS, z6] at HW2
    rw [HW2.out]
    go_wp2_with (refine HCK.out.mono ?_; rintro e w3 ⟨rfl, hb⟩; have HB3 := hid (HB2.out.trans (hb.mono (Nat.le_of_lt (box_lt H8.out)))); have h8 := (hb.block _ (box_lt H8.out)).trans H8.out; have h10 := (hb.block _ (box_lt H10.out)).trans H10.out; have H8' := hid h8; obtain ⟨u0, u1, u2, u3, u4, u5⟩ := load6 h8; obtain ⟨v0, v1, v2, v3, v4, v5⟩ := load6 h10; have f8 := box_fr h8; clear hb h8 h10)
    refine bodyPost_ret (results_s1 rfl _ _ g 23 ⟨l, r, e, n, 0, 0⟩ rfl (set6h _ H8'.out) _ rfl) rfl ?_
    exact ⟨rfl, by rw [HG.out]; exact set6b ⟨l, r, e, n, 0, 0⟩ HB3.out (Nat.le_refl _)⟩
  · have d0 : (c != 0) = true := by simp [c0]
    rw [if_neg c0]
    go_enter Try.func10, Try.ntmps10
    go_upto_region 2 with fail
    rw [HG.out]
    simp only [cS, z6] at HW2
    rw [HW2.out]
    go_wp2_with (refine HCK.out.mono ?_; rintro e w3 ⟨rfl, hb⟩; have HB3 := hid (HB2.out.trans (hb.mono (Nat.le_of_lt (box_lt H8.out)))); have h8 := (hb.block _ (box_lt H8.out)).trans H8.out; have h10 := (hb.block _ (box_lt H10.out)).trans H10.out; have H8' := hid h8; obtain ⟨u0, u1, u2, u3, u4, u5⟩ := load6 h8; obtain ⟨v0, v1, v2, v3, v4, v5⟩ := load6 h10; have f8 := box_fr h8; clear hb h8 h10)
    refine bodyPost_ret (results_s1 rfl _ _ g 23 z6 rfl (set6h _ H8'.out) _ rfl) rfl ?_
    exact ⟨rfl, by rw [HG.out]; exact set6b z6 HB3.out (Nat.le_refl _)⟩
set_option maxHeartbeats 4000000 in
set_option maxRecDepth 100000 in
theorem rnew_any (l r e n : Int) (w : World) : Calls Try.prog 11 #[.int .i64 l, .int .i64 r, .int .i64 e, .int .i64 n] w fun f w' => f = .returned (.tuple #[sv (newR ⟨l, r, e, n, 0, 0⟩), .int .i64 (chk ⟨l, r, e, n, 0, 0⟩)]) ∧ Below w.heap.size w w' := by
  obtain ⟨g, hg⟩ : ∃ g, w.heap.size = g := ⟨_, rfl⟩
  obtain ⟨s, hs⟩ : ∃ s, (⟨l, r, e, n, 0, 0⟩ : Ses) = s := ⟨_, rfl⟩
  obtain ⟨W2, hW2⟩ : ∃ X, (w.alloc (.cells (cS z6) 23)).alloc (.cells (cS ⟨l, r, e, n, 0, 0⟩) 23) = X := ⟨_, rfl⟩
  have HB2 : Hid (Below g w W2) := hid (by rw [← hW2, ← hg]; exact below_both (al1 w _) (al1 _ _))
  have H8 : Hid (W2.heap[g]? = some (.cells (cS z6) 23)) := hid (by rw [← hW2, ← hg]; exact (Below.heap_alloc _ _ _ (by rw [World.size_alloc]; omega)).trans (heap_alloc_new w _))
  have H10 : Hid (W2.heap[g + 1]? = some (.cells (cS ⟨l, r, e, n, 0, 0⟩) 23)) := hid (by rw [← hW2, ← hg]; exact new_two w _ _)
  obtain ⟨c, hc⟩ : ∃ c, chk ⟨l, r, e, n, 0, 0⟩ = c := ⟨_, rfl⟩
  have HCK := hid (rcheck_any ⟨l, r, e, n, 0, 0⟩ W2)
  unfold newR
  rw [hc] at HCK ⊢
  have y := load6 H10.out
  obtain ⟨y0, y1, y2, y3, y4, y5⟩ := y
  have HW2 := hid hW2
  have HG := hid hg
  clear hW2 hg hs hc
  by_cases c0 : c = 0
  · subst c0
    rw [if_pos rfl]
    go_enter Try.func11, Try.ntmps11
    go_upto_region 2 with fail
    rw [HG.out]
    simp only [cS, z6] at HW2
    rw [HW2.out]
    go_wp2_with (refine HCK.out.mono ?_; rintro e w3 ⟨rfl, hb⟩; have HB3 := hid (HB2.out.trans (hb.mono (Nat.le_of_lt (box_lt H8.out)))); have h8 := (hb.block _ (box_lt H8.out)).trans H8.out; have h10 := (hb.block _ (box_lt H10.out)).trans H10.out; have H8' := hid h8; obtain ⟨u0, u1, u2, u3, u4, u5⟩ := load6 h8; obtain ⟨v0, v1, v2, v3, v4, v5⟩ := load6 h10; have f8 := box_fr h8; clear hb h8 h10)
    refine bodyPost_ret (results_s1 rfl _ _ g 23 ⟨l, r, e, n, 0, 0⟩ rfl (set6h _ H8'.out) _ rfl) rfl ?_
    exact ⟨rfl, by rw [HG.out]; exact set6b ⟨l, r, e, n, 0, 0⟩ HB3.out (Nat.le_refl _)⟩
  · have d0 : (c != 0) = true := by simp [c0]
    rw [if_neg c0]
    go_enter Try.func11, Try.ntmps11
    go_upto_region 2 with fail
    rw [HG.out]
    simp only [cS, z6] at HW2
    rw [HW2.out]
    go_wp2_with (refine HCK.out.mono ?_; rintro e w3 ⟨rfl, hb⟩; have HB3 := hid (HB2.out.trans (hb.mono (Nat.le_of_lt (box_lt H8.out)))); have h8 := (hb.block _ (box_lt H8.out)).trans H8.out; have h10 := (hb.block _ (box_lt H10.out)).trans H10.out; have H8' := hid h8; obtain ⟨u0, u1, u2, u3, u4, u5⟩ := load6 h8; obtain ⟨v0, v1, v2, v3, v4, v5⟩ := load6 h10; have f8 := box_fr h8; clear hb h8 h10)
    refine bodyPost_ret (results_s1 rfl _ _ g 23 z6 rfl (set6h _ H8'.out) _ rfl) rfl ?_
    exact ⟨rfl, by rw [HG.out]; exact set6b z6 HB3.out (Nat.le_refl _)⟩
/-- What Accepts returns. -/
def accR (s : Ses) (n e : Int) : Int := if chk s = 0 then (if s.p ≠ 2 then 12 else if e < s.e ∨ n < s.n then 13 else if s.e < e ∨ s.n < n then 1 else 0) else chk s
set_option maxHeartbeats 4000000 in
set_option maxRecDepth 100000 in
theorem accepts_any (s : Ses) (n e : Int) (w : World) : Calls Try.prog 15 #[sv s, .int .i64 n, .int .i64 e] w fun f w' => f = .returned (.int .i64 (accR s n e)) ∧ Below w.heap.size w w' := by
  obtain ⟨g, hg⟩ : ∃ g, w.heap.size = g := ⟨_, rfl⟩
  obtain ⟨W2, hW2⟩ : ∃ X, w.alloc (.cells (cS s) 23) = X := ⟨_, rfl⟩
  have HB2 : Hid (Below g w W2) := hid (by rw [← hW2, ← hg]; exact al1 w _)
  have H8 : Hid (W2.heap[g]? = some (.cells (cS s) 23)) := hid (by rw [← hW2, ← hg]; exact heap_alloc_new w _)
  obtain ⟨c, hc⟩ : ∃ c, chk s = c := ⟨_, rfl⟩
  have HCK := hid (check_any s W2)
  unfold accR
  rw [hc] at HCK ⊢
  obtain ⟨y0, y1, y2, y3, y4, y5⟩ := load6 H8.out
  have HW2 := hid hW2
  have HG := hid hg
  clear hW2 hg hc
  obtain ⟨l, r, se, sn, sp, sd⟩ := s
  unfold sv
  simp only at y0 y1 y2 y3 y4 y5 ⊢
  simp only [cS] at HW2
  by_cases c0 : c = 0
  rotate_left
  · have d0 : (c != 0) = true := by simp [c0]
    go_enter Try.func15, Try.ntmps15
    go_upto_region 1 with fail
    rw [HG.out, HW2.out]
    go_wp2_with (refine HCK.out.mono ?_; rintro e' w3 ⟨rfl, hb⟩; have HB3 := hid (HB2.out.trans (hb.mono (Nat.le_of_lt (box_lt H8.out)))); have h8 := (hb.block _ (box_lt H8.out)).trans H8.out; obtain ⟨u0, u1, u2, u3, u4, u5⟩ := load6 h8; clear hb h8)
    go_ret
    exact ⟨ret_i (by simp [*]), by rw [HG.out]; exact HB3.out⟩
  subst c0
  by_cases p2 : sp = 2
  rotate_left
  · have d2 : (sp != 2) = true := by simp [p2]
    go_enter Try.func15, Try.ntmps15
    go_upto_region 1 with fail
    rw [HG.out, HW2.out]
    go_wp2_with (refine HCK.out.mono ?_; rintro e' w3 ⟨rfl, hb⟩; have HB3 := hid (HB2.out.trans (hb.mono (Nat.le_of_lt (box_lt H8.out)))); have h8 := (hb.block _ (box_lt H8.out)).trans H8.out; obtain ⟨u0, u1, u2, u3, u4, u5⟩ := load6 h8; clear hb h8)
    go_ret
    exact ⟨ret_i (by simp [*]), by rw [HG.out]; exact HB3.out⟩
  subst p2
  by_cases a1 : e < se
  · have b1 : decide (e < se) = true := decide_eq_true a1
    go_enter Try.func15, Try.ntmps15
    go_upto_region 1 with fail
    rw [HG.out, HW2.out]
    go_wp2_with (refine HCK.out.mono ?_; rintro e' w3 ⟨rfl, hb⟩; have HB3 := hid (HB2.out.trans (hb.mono (Nat.le_of_lt (box_lt H8.out)))); have h8 := (hb.block _ (box_lt H8.out)).trans H8.out; obtain ⟨u0, u1, u2, u3, u4, u5⟩ := load6 h8; clear hb h8)
    go_ret
    exact ⟨ret_i (by simp [*]), by rw [HG.out]; exact HB3.out⟩
  have b1 : decide (e < se) = false := decide_eq_false a1
  by_cases a2 : n < sn
  · have b2 : decide (n < sn) = true := decide_eq_true a2
    go_enter Try.func15, Try.ntmps15
    go_upto_region 1 with fail
    rw [HG.out, HW2.out]
    go_wp2_with (refine HCK.out.mono ?_; rintro e' w3 ⟨rfl, hb⟩; have HB3 := hid (HB2.out.trans (hb.mono (Nat.le_of_lt (box_lt H8.out)))); have h8 := (hb.block _ (box_lt H8.out)).trans H8.out; obtain ⟨u0, u1, u2, u3, u4, u5⟩ := load6 h8; clear hb h8)
    go_ret
    exact ⟨ret_i (by simp [*]), by rw [HG.out]; exact HB3.out⟩
  have b2 : decide (n < sn) = false := decide_eq_false a2
  by_cases a3 : se < e
  · have b3 : decide (se < e) = true := decide_eq_true a3
    go_enter Try.func15, Try.ntmps15
    go_upto_region 1 with fail
    rw [HG.out, HW2.out]
    go_wp2_with (refine HCK.out.mono ?_; rintro e' w3 ⟨rfl, hb⟩; have HB3 := hid (HB2.out.trans (hb.mono (Nat.le_of_lt (box_lt H8.out)))); have h8 := (hb.block _ (box_lt H8.out)).trans H8.out; obtain ⟨u0, u1, u2, u3, u4, u5⟩ := load6 h8; clear hb h8)
    go_ret
    exact ⟨ret_i (by simp [*]), by rw [HG.out]; exact HB3.out⟩
  have b3 : decide (se < e) = false := decide_eq_false a3
  by_cases a4 : sn < n
  · have b4 : decide (sn < n) = true := decide_eq_true a4
    go_enter Try.func15, Try.ntmps15
    go_upto_region 1 with fail
    rw [HG.out, HW2.out]
    go_wp2_with (refine HCK.out.mono ?_; rintro e' w3 ⟨rfl, hb⟩; have HB3 := hid (HB2.out.trans (hb.mono (Nat.le_of_lt (box_lt H8.out)))); have h8 := (hb.block _ (box_lt H8.out)).trans H8.out; obtain ⟨u0, u1, u2, u3, u4, u5⟩ := load6 h8; clear hb h8)
    go_ret
    exact ⟨ret_i (by simp [*]), by rw [HG.out]; exact HB3.out⟩
  have b4 : decide (sn < n) = false := decide_eq_false a4
  go_enter Try.func15, Try.ntmps15
  go_upto_region 1 with fail
  rw [HG.out, HW2.out]
  go_wp2_with (refine HCK.out.mono ?_; rintro e' w3 ⟨rfl, hb⟩; have HB3 := hid (HB2.out.trans (hb.mono (Nat.le_of_lt (box_lt H8.out)))); have h8 := (hb.block _ (box_lt H8.out)).trans H8.out; obtain ⟨u0, u1, u2, u3, u4, u5⟩ := load6 h8; clear hb h8)
  go_ret
  exact ⟨ret_i (by simp [*]), by rw [HG.out]; exact HB3.out⟩
set_option maxHeartbeats 4000000 in
set_option maxRecDepth 100000 in
theorem raccepts_any (s : Ses) (n e : Int) (w : World) : Calls Try.prog 16 #[sv s, .int .i64 n, .int .i64 e] w fun f w' => f = .returned (.int .i64 (accR s n e)) ∧ Below w.heap.size w w' := by
  obtain ⟨g, hg⟩ : ∃ g, w.heap.size = g := ⟨_, rfl⟩
  obtain ⟨W2, hW2⟩ : ∃ X, w.alloc (.cells (cS s) 23) = X := ⟨_, rfl⟩
  have HB2 : Hid (Below g w W2) := hid (by rw [← hW2, ← hg]; exact al1 w _)
  have H8 : Hid (W2.heap[g]? = some (.cells (cS s) 23)) := hid (by rw [← hW2, ← hg]; exact heap_alloc_new w _)
  obtain ⟨c, hc⟩ : ∃ c, chk s = c := ⟨_, rfl⟩
  have HCK := hid (rcheck_any s W2)
  unfold accR
  rw [hc] at HCK ⊢
  obtain ⟨y0, y1, y2, y3, y4, y5⟩ := load6 H8.out
  have HW2 := hid hW2
  have HG := hid hg
  clear hW2 hg hc
  obtain ⟨l, r, se, sn, sp, sd⟩ := s
  unfold sv
  simp only at y0 y1 y2 y3 y4 y5 ⊢
  simp only [cS] at HW2
  by_cases c0 : c = 0
  rotate_left
  · have d0 : (c != 0) = true := by simp [c0]
    go_enter Try.func16, Try.ntmps16
    go_upto_region 1 with fail
    rw [HG.out, HW2.out]
    go_wp2_with (refine HCK.out.mono ?_; rintro e' w3 ⟨rfl, hb⟩; have HB3 := hid (HB2.out.trans (hb.mono (Nat.le_of_lt (box_lt H8.out)))); have h8 := (hb.block _ (box_lt H8.out)).trans H8.out; obtain ⟨u0, u1, u2, u3, u4, u5⟩ := load6 h8; clear hb h8)
    go_ret
    exact ⟨ret_i (by simp [*]), by rw [HG.out]; exact HB3.out⟩
  subst c0
  by_cases p2 : sp = 2
  rotate_left
  · have d2 : (sp != 2) = true := by simp [p2]
    go_enter Try.func16, Try.ntmps16
    go_upto_region 1 with fail
    rw [HG.out, HW2.out]
    go_wp2_with (refine HCK.out.mono ?_; rintro e' w3 ⟨rfl, hb⟩; have HB3 := hid (HB2.out.trans (hb.mono (Nat.le_of_lt (box_lt H8.out)))); have h8 := (hb.block _ (box_lt H8.out)).trans H8.out; obtain ⟨u0, u1, u2, u3, u4, u5⟩ := load6 h8; clear hb h8)
    go_ret
    exact ⟨ret_i (by simp [*]), by rw [HG.out]; exact HB3.out⟩
  subst p2
  by_cases a1 : e < se
  · have b1 : decide (e < se) = true := decide_eq_true a1
    go_enter Try.func16, Try.ntmps16
    go_upto_region 1 with fail
    rw [HG.out, HW2.out]
    go_wp2_with (refine HCK.out.mono ?_; rintro e' w3 ⟨rfl, hb⟩; have HB3 := hid (HB2.out.trans (hb.mono (Nat.le_of_lt (box_lt H8.out)))); have h8 := (hb.block _ (box_lt H8.out)).trans H8.out; obtain ⟨u0, u1, u2, u3, u4, u5⟩ := load6 h8; clear hb h8)
    go_ret
    exact ⟨ret_i (by simp [*]), by rw [HG.out]; exact HB3.out⟩
  have b1 : decide (e < se) = false := decide_eq_false a1
  by_cases a2 : n < sn
  · have b2 : decide (n < sn) = true := decide_eq_true a2
    go_enter Try.func16, Try.ntmps16
    go_upto_region 1 with fail
    rw [HG.out, HW2.out]
    go_wp2_with (refine HCK.out.mono ?_; rintro e' w3 ⟨rfl, hb⟩; have HB3 := hid (HB2.out.trans (hb.mono (Nat.le_of_lt (box_lt H8.out)))); have h8 := (hb.block _ (box_lt H8.out)).trans H8.out; obtain ⟨u0, u1, u2, u3, u4, u5⟩ := load6 h8; clear hb h8)
    go_ret
    exact ⟨ret_i (by simp [*]), by rw [HG.out]; exact HB3.out⟩
  have b2 : decide (n < sn) = false := decide_eq_false a2
  by_cases a3 : se < e
  · have b3 : decide (se < e) = true := decide_eq_true a3
    go_enter Try.func16, Try.ntmps16
    go_upto_region 1 with fail
    rw [HG.out, HW2.out]
    go_wp2_with (refine HCK.out.mono ?_; rintro e' w3 ⟨rfl, hb⟩; have HB3 := hid (HB2.out.trans (hb.mono (Nat.le_of_lt (box_lt H8.out)))); have h8 := (hb.block _ (box_lt H8.out)).trans H8.out; obtain ⟨u0, u1, u2, u3, u4, u5⟩ := load6 h8; clear hb h8)
    go_ret
    exact ⟨ret_i (by simp [*]), by rw [HG.out]; exact HB3.out⟩
  have b3 : decide (se < e) = false := decide_eq_false a3
  by_cases a4 : sn < n
  · have b4 : decide (sn < n) = true := decide_eq_true a4
    go_enter Try.func16, Try.ntmps16
    go_upto_region 1 with fail
    rw [HG.out, HW2.out]
    go_wp2_with (refine HCK.out.mono ?_; rintro e' w3 ⟨rfl, hb⟩; have HB3 := hid (HB2.out.trans (hb.mono (Nat.le_of_lt (box_lt H8.out)))); have h8 := (hb.block _ (box_lt H8.out)).trans H8.out; obtain ⟨u0, u1, u2, u3, u4, u5⟩ := load6 h8; clear hb h8)
    go_ret
    exact ⟨ret_i (by simp [*]), by rw [HG.out]; exact HB3.out⟩
  have b4 : decide (sn < n) = false := decide_eq_false a4
  go_enter Try.func16, Try.ntmps16
  go_upto_region 1 with fail
  rw [HG.out, HW2.out]
  go_wp2_with (refine HCK.out.mono ?_; rintro e' w3 ⟨rfl, hb⟩; have HB3 := hid (HB2.out.trans (hb.mono (Nat.le_of_lt (box_lt H8.out)))); have h8 := (hb.block _ (box_lt H8.out)).trans H8.out; obtain ⟨u0, u1, u2, u3, u4, u5⟩ := load6 h8; clear hb h8)
  go_ret
  exact ⟨ret_i (by simp [*]), by rw [HG.out]; exact HB3.out⟩
end Go.Proofs.Ytkdladacmjkdoaa
