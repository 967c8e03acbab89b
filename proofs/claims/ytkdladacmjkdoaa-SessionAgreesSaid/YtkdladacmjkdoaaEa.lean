/- Two ends in an array; ends. -/
import Derived.Test.YtkdladacmjkdoaaMa
import Derived.Test.YtkdladacmjkdoaaLb
namespace Go.Proofs.Ytkdladacmjkdoaa
open Go.RowKit Go.Lib
/-- Two ends. -/
def cT (a b : Ses) : Array Value := #[.int .i64 a.l, .int .i64 a.r, .int .i64 a.e, .int .i64 a.n, .int .i64 a.p, .int .i64 a.d, .int .i64 b.l, .int .i64 b.r, .int .i64 b.e, .int .i64 b.n, .int .i64 b.p, .int .i64 b.d]
def tv (a b : Ses) : Value := .agg #[.int .i64 a.l, .int .i64 a.r, .int .i64 a.e, .int .i64 a.n, .int .i64 a.p, .int .i64 a.d, .int .i64 b.l, .int .i64 b.r, .int .i64 b.e, .int .i64 b.n, .int .i64 b.p, .int .i64 b.d]
abbrev set12 (w : World) (g : Nat) (a b : Ses) : World := ((((((set6 w g a).setCell ⟨g, 6, none⟩ (.int .i64 b.l)).setCell ⟨g, 7, none⟩ (.int .i64 b.r)).setCell ⟨g, 8, none⟩ (.int .i64 b.e)).setCell ⟨g, 9, none⟩ (.int .i64 b.n)).setCell ⟨g, 10, none⟩ (.int .i64 b.p)).setCell ⟨g, 11, none⟩ (.int .i64 b.d)
theorem bs {w : World} {g : Nat} {t : TypeId} (cs : List Value) (h : w.heap[g]? = some (.cells cs.toArray t)) (i : Nat) (v : Value) : (w.setCell ⟨g, i, none⟩ v).heap[g]? = some (.cells (cs.set i v).toArray t) := box_set h i v
theorem set12h {w : World} {g : Nat} {T : TypeId} {x y : Ses} (a b : Ses) (h : w.heap[g]? = some (.cells (cT x y) T)) : (set12 w g a b).heap[g]? = some (.cells (cT a b) T) := by
  have h0 := bs [.int .i64 x.l, .int .i64 x.r, .int .i64 x.e, .int .i64 x.n, .int .i64 x.p, .int .i64 x.d, .int .i64 y.l, .int .i64 y.r, .int .i64 y.e, .int .i64 y.n, .int .i64 y.p, .int .i64 y.d] h 0 (.int .i64 a.l)
  have h1 := bs _ h0 1 (.int .i64 a.r)
  have h2 := bs _ h1 2 (.int .i64 a.e)
  have h3 := bs _ h2 3 (.int .i64 a.n)
  have h4 := bs _ h3 4 (.int .i64 a.p)
  have h5 := bs _ h4 5 (.int .i64 a.d)
  have h6 := bs _ h5 6 (.int .i64 b.l)
  have h7 := bs _ h6 7 (.int .i64 b.r)
  have h8 := bs _ h7 8 (.int .i64 b.e)
  have h9 := bs _ h8 9 (.int .i64 b.n)
  have h10 := bs _ h9 10 (.int .i64 b.p)
  exact bs _ h10 11 (.int .i64 b.d)
theorem set12b {B : Nat} {w0 w : World} {g : Nat} (a b : Ses) (h : Below B w0 w) (hg : B ≤ g) : Below B w0 (set12 w g a b) :=
  (((((((set6b a h hg).setCell hg _).setCell hg _).setCell hg _).setCell hg _).setCell hg _).setCell hg _)
theorem load12 {w : World} {g : Nat} {a b : Ses} {T : TypeId} (h : w.heap[g]? = some (.cells (cT a b) T)) : (w.cell? ⟨g, 0, none⟩ = some (.int .i64 a.l) ∧ w.cell? ⟨g, 1, none⟩ = some (.int .i64 a.r) ∧ w.cell? ⟨g, 2, none⟩ = some (.int .i64 a.e) ∧ w.cell? ⟨g, 3, none⟩ = some (.int .i64 a.n) ∧ w.cell? ⟨g, 4, none⟩ = some (.int .i64 a.p) ∧ w.cell? ⟨g, 5, none⟩ = some (.int .i64 a.d)) ∧
    (w.cell? ⟨g, 6, none⟩ = some (.int .i64 b.l) ∧ w.cell? ⟨g, 7, none⟩ = some (.int .i64 b.r) ∧ w.cell? ⟨g, 8, none⟩ = some (.int .i64 b.e) ∧ w.cell? ⟨g, 9, none⟩ = some (.int .i64 b.n) ∧ w.cell? ⟨g, 10, none⟩ = some (.int .i64 b.p) ∧ w.cell? ⟨g, 11, none⟩ = some (.int .i64 b.d)) :=
  ⟨⟨cell_of_row _ _ 0 _ _ _ h, cell_of_row _ _ 1 _ _ _ h, cell_of_row _ _ 2 _ _ _ h, cell_of_row _ _ 3 _ _ _ h, cell_of_row _ _ 4 _ _ _ h, cell_of_row _ _ 5 _ _ _ h⟩, cell_of_row _ _ 6 _ _ _ h, cell_of_row _ _ 7 _ _ _ h, cell_of_row _ _ 8 _ _ _ h, cell_of_row _ _ 9 _ _ _ h, cell_of_row _ _ 10 _ _ _ h, cell_of_row _ _ 11 _ _ _ h⟩
theorem run_lv54 {w : World} {g : Nat} {T : TypeId} {a b : Ses} (h : w.heap[g]? = some (.cells (cT a b) T)) : (loadVar 54 ⟨g, 0, none⟩).run Try.prog w = .ok (tv a b) w :=
  run_loadVar_row w g T 54 (cT a b) (0, 0) _ h Try.underlying54 rfl rfl
theorem results_t1 {fn : Func} {p u : Tmp} (h : fn.results = #[.cell p 54, .tmp u]) (tmps : Array Value) (w : World) (g : Nat) (T : TypeId) (a b : Ses)
    (hp : tmps.getD p undef = .pointer (some ⟨g, 0, none⟩)) (hh : w.heap[g]? = some (.cells (cT a b) T)) (z : Value) (hz : tmps.getD u undef = z) :
    (results fn tmps).run Try.prog w = .ok (.tuple #[tv a b, z]) w := by
  have hp' : tmps[p]?.getD undef = .pointer (some ⟨g, 0, none⟩) := by simpa using hp
  have hz' : tmps[u]?.getD undef = z := by simpa using hz
  simp [results, h, hp', hz', asAddr, run_lv54 hh]
theorem newR_ok {s : Ses} (h : chk s = 0) : newR s = s := by unfold newR; rw [if_pos h]
theorem chk_end (a b e n : Int) (ha : 0 ≤ a ∧ a < 4) (hb : 0 ≤ b ∧ b < 4) (hab : a ≠ b) (he : 0 ≤ e ∧ e ≤ 255) (hn : 0 ≤ n ∧ n ≤ 255) : chk ⟨a, b, e, n, 0, 0⟩ = 0 := by
  unfold chk siteB timeB
  simp only [Bool.and_eq_false_iff, decide_eq_false_iff_not]
  rw [if_neg (by omega), if_neg hab, if_neg (by omega), if_neg (by omega), if_neg (by omega)]
set_option maxHeartbeats 8000000 in
set_option maxRecDepth 100000 in
theorem ends_any (e0 e1 n0 n1 : Int) (w : World) (he0 : 0 ≤ e0 ∧ e0 ≤ 255) (he1 : 0 ≤ e1 ∧ e1 ≤ 255) (hn0 : 0 ≤ n0 ∧ n0 ≤ 255) (hn1 : 0 ≤ n1 ∧ n1 ≤ 255) :
    Calls Try.prog 26 #[.agg #[.int .u8 e0, .int .u8 e1, .int .u8 n0, .int .u8 n1]] w fun f w' => f = .returned (.tuple #[tv ⟨0, 1, e0 % 4, n0 % 6, 0, 0⟩ ⟨1, 0, e1 % 4, n1 % 6, 0, 0⟩, .bool true]) ∧ Below w.heap.size w w' := by
  have c1 := chk_end 0 1 (e0 % 4) (n0 % 6) (by decide) (by decide) (by decide) (by omega) (by omega)
  have c2 := chk_end 1 0 (e1 % 4) (n1 % 6) (by decide) (by decide) (by decide) (by omega) (by omega)
  have h1 := fun W => new_any 0 1 (e0 % 4) (n0 % 6) W
  have h2 := fun W => new_any 1 0 (e1 % 4) (n1 % 6) W
  rw [newR_ok c1, c1] at h1
  rw [newR_ok c2, c2] at h2
  have w0 : wrap64 (e0 % 4) = e0 % 4 := w64 (by omega) (by omega)
  have w1 : wrap64 (e1 % 4) = e1 % 4 := w64 (by omega) (by omega)
  have w2 : wrap64 (n0 % 6) = n0 % 6 := w64 (by omega) (by omega)
  have w3 : wrap64 (n1 % 6) = n1 % 6 := w64 (by omega) (by omega)
  have t0 : e0.tmod 4 = e0 % 4 := Int.tmod_eq_emod_of_nonneg he0.1
  have t1 : e1.tmod 4 = e1 % 4 := Int.tmod_eq_emod_of_nonneg he1.1
  have t2 : n0.tmod 6 = n0 % 6 := Int.tmod_eq_emod_of_nonneg hn0.1
  have t3 : n1.tmod 6 = n1 % 6 := Int.tmod_eq_emod_of_nonneg hn1.1
  obtain ⟨E0, hE0⟩ : ∃ x, e0 % 4 = x := ⟨_, rfl⟩
  obtain ⟨E1, hE1⟩ : ∃ x, e1 % 4 = x := ⟨_, rfl⟩
  obtain ⟨N0, hN0⟩ : ∃ x, n0 % 6 = x := ⟨_, rfl⟩
  obtain ⟨N1, hN1⟩ : ∃ x, n1 % 6 = x := ⟨_, rfl⟩
  rw [hE0, hN0] at h1
  rw [hE1, hN1] at h2
  rw [hE0] at w0 t0 ⊢
  rw [hE1] at w1 t1 ⊢
  rw [hN0] at w2 t2 ⊢
  rw [hN1] at w3 t3 ⊢
  have H1 : Hid (∀ W, Calls Try.prog 10 #[.int .i64 0, .int .i64 1, .int .i64 E0, .int .i64 N0] W fun f w' => f = .returned (.tuple #[.agg #[.int .i64 0, .int .i64 1, .int .i64 E0, .int .i64 N0, .int .i64 0, .int .i64 0], .int .i64 0]) ∧ Below W.heap.size W w') := hid h1
  have H2 : Hid (∀ W, Calls Try.prog 10 #[.int .i64 1, .int .i64 0, .int .i64 E1, .int .i64 N1] W fun f w' => f = .returned (.tuple #[.agg #[.int .i64 1, .int .i64 0, .int .i64 E1, .int .i64 N1, .int .i64 0, .int .i64 0], .int .i64 0]) ∧ Below W.heap.size W w') := hid h2
  clear h1 h2 c1 c2
  obtain ⟨g, hg⟩ : ∃ g, w.heap.size = g := ⟨_, rfl⟩
  obtain ⟨W0, hW⟩ : ∃ X, (w.alloc (.cells #[.int .u8 e0, .int .u8 e1, .int .u8 n0, .int .u8 n1] 52)).alloc (.cells (cT z6 z6) 54) = X := ⟨_, rfl⟩
  have km : W0.heap[g]? = some (.cells #[.int .u8 e0, .int .u8 e1, .int .u8 n0, .int .u8 n1] 52) := by rw [← hW, ← hg]; exact (Below.heap_alloc _ _ _ (by rw [World.size_alloc]; omega)).trans (heap_alloc_new w _)
  have kt : W0.heap[g + 1]? = some (.cells (cT z6 z6) 54) := by rw [← hW, ← hg]; exact new_two w _ _
  have HB : Hid (Below g w W0) := hid (by rw [← hW, ← hg]; exact below_both (al1 w _) (al1 _ _))
  have HSN : Hid (g ≤ W0.heap.size) := hid (Nat.le_of_lt (box_lt km))
  have HG := hid hg
  have HKm := hid km
  have HKt := hid kt
  have m0 : W0.cell? ⟨g, 0, none⟩ = some (.int .u8 e0) := cell_of_row _ _ 0 _ _ _ km
  have m1 : W0.cell? ⟨g, 1, none⟩ = some (.int .u8 e1) := cell_of_row _ _ 1 _ _ _ km
  have m2 : W0.cell? ⟨g, 2, none⟩ = some (.int .u8 n0) := cell_of_row _ _ 2 _ _ _ km
  have m3 : W0.cell? ⟨g, 3, none⟩ = some (.int .u8 n1) := cell_of_row _ _ 3 _ _ _ km
  simp only [cT, z6] at hW
  have HWW := hid hW
  clear hg hW km kt
  go_enter Try.func26, Try.ntmps26
  go_upto_region 1 with fail
  rw [HWW.out, HG.out]
  clear HWW
  go_upto_region 2 with (go_at_call 10; (with_reducible refine (H1.out _).mono ?_); rintro _ wn ⟨rfl, hb⟩; have km := (hb.block _ (box_lt HKm.out)).trans HKm.out; have kt := (hb.block _ (box_lt HKt.out)).trans HKt.out; have HKm := hid km; have HKt := hid kt; have HB := hid (HB.out.trans (hb.mono HSN.out)); have HSN := hid (Nat.le_trans HSN.out hb.size); clear hb km kt)
  obtain ⟨ga, hga⟩ : ∃ h, wn.heap.size = h := ⟨_, rfl⟩
  obtain ⟨W1, hW⟩ : ∃ X, wn.alloc (.cells (cS ⟨0, 1, E0, N0, 0, 0⟩) 23) = X := ⟨_, rfl⟩
  have ka : W1.heap[ga]? = some (.cells (cS ⟨0, 1, E0, N0, 0, 0⟩) 23) := by rw [← hW, ← hga]; exact heap_alloc_new _ _
  have km : W1.heap[g]? = some (.cells #[.int .u8 e0, .int .u8 e1, .int .u8 n0, .int .u8 n1] 52) := by rw [← hW]; exact (Below.heap_alloc _ _ _ (box_lt HKm.out)).trans HKm.out
  have kt : W1.heap[g + 1]? = some (.cells (cT z6 z6) 54) := by rw [← hW]; exact (Below.heap_alloc _ _ _ (box_lt HKt.out)).trans HKt.out
  have HB := hid (show Below g w W1 by rw [← hW]; exact HB.out.alloc HSN.out _)
  have HSN : Hid (g ≤ W1.heap.size) := hid (Nat.le_of_lt (box_lt km))
  have HKm := hid km
  have HKt := hid kt
  have m0 : W1.cell? ⟨g, 0, none⟩ = some (.int .u8 e0) := cell_of_row _ _ 0 _ _ _ km
  have m1 : W1.cell? ⟨g, 1, none⟩ = some (.int .u8 e1) := cell_of_row _ _ 1 _ _ _ km
  have m2 : W1.cell? ⟨g, 2, none⟩ = some (.int .u8 n0) := cell_of_row _ _ 2 _ _ _ km
  have m3 : W1.cell? ⟨g, 3, none⟩ = some (.int .u8 n1) := cell_of_row _ _ 3 _ _ _ km
  clear km kt
  have HKa := hid ka
  have HGA := hid hga
  simp only [cS] at hW
  have HWW := hid hW
  clear hga hW ka
  rw [HGA.out, HWW.out]
  go_upto_region 3 with (go_at_call 10; (with_reducible refine (H2.out _).mono ?_); rintro _ wn ⟨rfl, hb⟩; have ka := (hb.block _ (box_lt HKa.out)).trans HKa.out; have HKa := hid ka; clear ka; have km := (hb.block _ (box_lt HKm.out)).trans HKm.out; have kt := (hb.block _ (box_lt HKt.out)).trans HKt.out; have HKm := hid km; have HKt := hid kt; have HB := hid (HB.out.trans (hb.mono HSN.out)); have HSN := hid (Nat.le_trans HSN.out hb.size); clear hb km kt)
  obtain ⟨gb, hgb⟩ : ∃ h, wn.heap.size = h := ⟨_, rfl⟩
  obtain ⟨W1, hW⟩ : ∃ X, wn.alloc (.cells (cS ⟨1, 0, E1, N1, 0, 0⟩) 23) = X := ⟨_, rfl⟩
  have kb : W1.heap[gb]? = some (.cells (cS ⟨1, 0, E1, N1, 0, 0⟩) 23) := by rw [← hW, ← hgb]; exact heap_alloc_new _ _
  have ka : W1.heap[ga]? = some (.cells (cS ⟨0, 1, E0, N0, 0, 0⟩) 23) := by rw [← hW]; exact (Below.heap_alloc _ _ _ (box_lt HKa.out)).trans HKa.out
  have km : W1.heap[g]? = some (.cells #[.int .u8 e0, .int .u8 e1, .int .u8 n0, .int .u8 n1] 52) := by rw [← hW]; exact (Below.heap_alloc _ _ _ (box_lt HKm.out)).trans HKm.out
  have kt : W1.heap[g + 1]? = some (.cells (cT z6 z6) 54) := by rw [← hW]; exact (Below.heap_alloc _ _ _ (box_lt HKt.out)).trans HKt.out
  have HB := hid (show Below g w W1 by rw [← hW]; exact HB.out.alloc HSN.out _)
  have HSN : Hid (g ≤ W1.heap.size) := hid (Nat.le_of_lt (box_lt km))
  have HKm := hid km
  have HKt := hid kt
  have m0 : W1.cell? ⟨g, 0, none⟩ = some (.int .u8 e0) := cell_of_row _ _ 0 _ _ _ km
  have m1 : W1.cell? ⟨g, 1, none⟩ = some (.int .u8 e1) := cell_of_row _ _ 1 _ _ _ km
  have m2 : W1.cell? ⟨g, 2, none⟩ = some (.int .u8 n0) := cell_of_row _ _ 2 _ _ _ km
  have m3 : W1.cell? ⟨g, 3, none⟩ = some (.int .u8 n1) := cell_of_row _ _ 3 _ _ _ km
  clear km kt
  obtain ⟨a0, a1, a2, a3, a4, a5⟩ := load6 ka
  obtain ⟨b0, b1, b2, b3, b4, b5⟩ := load6 kb
  obtain ⟨⟨s0, s1, s2, s3, s4, s5⟩, s6, s7, s8, s9, s10, s11⟩ := load12 HKt.out
  have ft := box_fr HKt.out
  simp only at a0 a1 a2 a3 a4 a5 b0 b1 b2 b3 b4 b5
  simp only [z6] at s0 s1 s2 s3 s4 s5 s6 s7 s8 s9 s10 s11
  have HGB := hid hgb
  simp only [cS] at hW
  have HWW := hid hW
  clear hgb hW ka kb
  rw [HGB.out, HWW.out]
  go_wp2_with fail
  refine bodyPost_ret (results_t1 rfl _ _ (g + 1) 54 ⟨0, 1, E0, N0, 0, 0⟩ ⟨1, 0, E1, N1, 0, 0⟩ rfl (set12h ⟨0, 1, E0, N0, 0, 0⟩ ⟨1, 0, E1, N1, 0, 0⟩ HKt.out) _ rfl) rfl ?_
  exact ⟨rfl, by rw [HG.out]; exact set12b ⟨0, 1, E0, N0, 0, 0⟩ ⟨1, 0, E1, N1, 0, 0⟩ HB.out (Nat.le_succ _)⟩
end Go.Proofs.Ytkdladacmjkdoaa
