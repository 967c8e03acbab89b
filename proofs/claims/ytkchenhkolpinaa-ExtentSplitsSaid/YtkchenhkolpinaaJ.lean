/- Count of package extent. -/
import Derived.Test.YtkchenhkolpinaaH
namespace Go.Proofs.Ytkchenhkolpinaa
open Go.RowKit Go.Shelf
attribute [local go_sem] Oper.semAt_some

def cnt : List (Int × Int) → Int
  | [] => 0
  | e :: r => e.2 + cnt r
theorem cnt_append (a b : List (Int × Int)) : cnt (a ++ b) = cnt a + cnt b := by
  induction a with
  | nil => simp [cnt]
  | cons e r ih => simp only [List.cons_append, cnt, ih]; omega
theorem cnt_bound {l : List (Int × Int)} : ∀ {lo : Int}, Canon lo l → 0 ≤ cnt l ∧ (cnt l ≤ 4096 - lo ∨ l = []) := by
  induction l with
  | nil => intro lo _; exact ⟨Int.le_refl _, .inr rfl⟩
  | cons e r ih =>
    intro lo h
    have h1 := h.1
    have h2 := h.2.1
    have h3 := h.2.2.1
    obtain ⟨a, b⟩ := ih h.2.2.2
    refine ⟨by simp only [cnt]; omega, .inl ?_⟩
    rcases b with b | b
    · simp only [cnt]; omega
    · subst b; simp only [cnt]; omega
theorem cnt_range {l : List (Int × Int)} (h : Canon 0 l) : 0 ≤ cnt l ∧ cnt l ≤ 4096 := by
  obtain ⟨a, b⟩ := cnt_bound h
  rcases b with b | b
  · omega
  · subst b; simp [cnt]

set_option maxHeartbeats 2000000 in
set_option maxRecDepth 100000 in
theorem count_in (a : List (Int × Int)) (va : Value) (w : World) (ha : Ext w va a) (la : a.length ≤ 10000) :
    CallsIn Fence.wide 5 Try.prog 25 #[va] w fun e w' => ∃ l, e = .returned (.int .i64 (cnt l)) ∧ Canon 0 l ∧ (∀ x, mem l x = mem a x) ∧ Below w.heap.size w w' := by
  have hB : Below w.heap.size w (w.alloc (.cells #[.int .i64 0] 3)) := (Below.refl _ w).alloc (Nat.le_refl _) _
  have HC := hid (canonical_any a va _ (ha.below hB) la)
  obtain ⟨A, ca, hva⟩ : ∃ A ca, va = .slice A a.length ca := by obtain ⟨_, A, ca, h, _⟩ := ha; exact ⟨A, ca, h⟩
  subst hva
  clear ha
  refine callsIn_of_wp_marks Try.func25 rfl trivial ?_ rfl
  simp only [Try.ntmps25, List.size_toArray, List.length_cons, List.length_nil, Nat.reduceAdd, Nat.reduceSub, Array.replicate_succ, Array.replicate_zero, List.push_toArray, List.append_toArray, List.nil_append, List.cons_append]
  gi_wp2_with (refine And.intro trivial ?_; gi_at_call 43; refine (callsIn_wide.2 HC.out).mono ?_; rintro e w2 ⟨fv, rfl, ⟨lb, hfv, hit⟩, hb2⟩; subst hfv)
  have HI := hid (hit 4 (by omega))
  clear hit HC
  have hz2 := hb2.size
  simp at hz2
  have hn2 : w2.heap[w.heap.size]? = some (.cells #[.int .i64 0] 3 (0, 0)) := (hb2.block _ (by simp)).trans (heap_alloc_new w _)
  have hbw : Below w.heap.size w w2 := hB.trans (hb2.mono (by simp))
  refine wpIn_range rfl (by omega) (gf := 49) (lb := lb) rfl trivial (enters_of Try.func49 (by kernel_rfl) rfl) HI.out (Below.refl _ _) (Nat.le_refl _) (fun _ => rfl)
    (fun hi pre W => hi ≤ W.heap.size ∧ w2.heap.size < hi ∧ W.heap[w.heap.size]? = some (.cells #[.int .i64 (cnt pre)] 3 (0, 0)) ∧ Below w.heap.size w W)
    (fun _ _ _ _ => False) ?h0 ?hI ?hIx ?hround ?hdone ?hstop
  case h0 =>
    intro hi' W' hb hlo hhi
    exact ⟨hhi, hlo, (hb.block _ (by omega)).trans hn2, hbw.trans (hb.mono (by omega))⟩
  case hI =>
    rintro hi' s A B row ⟨h1, h2, hv, hbel⟩ hgr hrow
    exact ⟨Nat.le_trans h1 hgr.size, h2, (hgr.block _ (Array.getElem?_eq_some_iff.1 hv).1 (fun e => by have := (hrow _ e.symm).1; omega)).trans hv, hbel.grown hgr hbel.size (fun k e => by have := (hrow k e).1; omega)⟩
  case hIx => exact fun _ _ _ _ _ _ h _ _ => h
  case hstop => exact fun _ _ _ _ _ _ _ h => h.elim
  case hround =>
    rintro l hi' pre ⟨s, n⟩ W hlo hlhi hhi ⟨_, hwhi, hv, hbel⟩ hcan
    obtain ⟨hpre, hs0, _, hn0, hsn⟩ := canon_split hcan
    obtain ⟨hc0, hc1⟩ := cnt_range hpre
    obtain ⟨_, hc2⟩ := cnt_range hcan
    have hsucc : cnt (pre ++ [(s, n)]) = cnt pre + n := by rw [cnt_append]; simp [cnt]
    rw [hsucc] at hc2
    obtain ⟨cp, hcp⟩ : ∃ c, cnt pre = c := ⟨_, rfl⟩
    rw [hcp] at hc0 hc1 hc2 hv
    have HS := hid hsucc
    have HP := hid hcp
    clear hsucc hcp
    gi_wp2
    refine ⟨Kept.grown (World.grownBy_alloc W _ none) (by omega) hhi (fun r e => by cases e), fun W2 hg2 => ?_⟩
    have hzz := hg2.size
    simp at hzz
    have hB2 : W2.heap[w.heap.size]? = some (.cells #[.int .i64 cp] 3 (0, 0)) := (hg2.block _ (by simp; omega) (fun e => by injection e with e; omega)).trans ((Below.heap_alloc _ _ _ (by omega)).trans hv)
    have hx2 : W2.heap[W.heap.size]? = some (.cells #[.int .i64 s, .int .i64 n] 44 (0, 0)) := (hg2.block _ (by simp) (fun e => by injection e with e; omega)).trans (heap_alloc_new W _)
    have hc1' : W2.cell? ⟨W.heap.size, 1, none⟩ = some (.int .i64 n) := cell_of_row _ _ _ _ _ _ hx2
    have hcs : W2.cell? ⟨w.heap.size, 0, none⟩ = some (.int .i64 cp) := cell_of_row _ _ _ _ _ _ hB2
    have hcf : W2.frozen? ⟨w.heap.size, 0, none⟩ = false := by unfold World.frozen?; rw [hB2]; simp
    have hb2' : Below w.heap.size w W2 := (hbel.alloc (by omega) _).grown hg2 (by simp; omega) (fun k e => by injection e with e; omega)
    have HB2 := hid hB2
    have hws2 : w.heap.size < W2.heap.size := by omega
    have hhi2 : hi' ≤ W2.heap.size := by omega
    clear hB2 hx2 hv
    gi_wp2
    refine ⟨⟨by simp, fun q hq => Below.heap_setCell W2 _ _ q (by simp at hq; show q ≠ w.heap.size; omega)⟩, by simpa using hhi2, hwhi, ?_, hb2'.setCell (p := ⟨w.heap.size, 0, none⟩) (Nat.le_refl _) _⟩
    rw [HS.out, HP.out]
    simp [World.setCell, Array.getElem?_modify, HB2.out]
  case hdone =>
    rintro D hi' xs W hD ⟨hcan, hmem⟩ ⟨_, hwhi, hv, hbel⟩ hdef
    have hcs : W.cell? ⟨w.heap.size, 0, none⟩ = some (.int .i64 (cnt xs)) := cell_of_row _ _ _ _ _ _ hv
    have HV := hid hv
    clear hv
    gi_wp2
    refine ⟨by simp, .inl ⟨_, _, rfl, run_takeDeferred hdef, ?_⟩⟩
    exact ⟨_, results_tmp rfl _ _ _, xs, rfl, hcan, hmem, hbel.grown (grownBy_putObj' W D _) hbel.size (fun k e => by injection e with e; omega)⟩
theorem count_any (a : List (Int × Int)) (va : Value) (w : World) (ha : Ext w va a) (la : a.length ≤ 10000) :
    Calls Try.prog 25 #[va] w fun e w' => ∃ l, e = .returned (.int .i64 (cnt l)) ∧ Canon 0 l ∧ (∀ x, mem l x = mem a x) ∧ Below w.heap.size w w' := callsIn_wide.1 (count_in a va w ha la)
end Go.Proofs.Ytkchenhkolpinaa
