/- The examples of the chapter (awake), and few. -/
import Derived.Test.YtkchenhkolpinaaK
namespace Go.Proofs.Ytkchenhkolpinaa
open Go.RowKit

theorem ext_lit {W : World} {n : Nat} {l : List (Int × Int)} (hn : n = W.heap.size) (hr : ∀ e ∈ l, R64 e.1 ∧ R64 e.2) (hl : l.length ≤ 10000) : Ext (W.alloc (.cells (xflat l).toArray 44)) (.slice (some ⟨n, 0, none⟩) l.length l.length) l := by
  subst hn
  refine ⟨hr, some ⟨W.heap.size, 0, none⟩, l.length, rfl, Nat.le_refl _, by unfold maxLen; omega, W.heap.size, 0, fun _ => ⟨rfl, by simp⟩, fun i e hi => ?_⟩
  have hlt := (List.getElem?_eq_some_iff.1 hi).1
  have x0 := xflat_get l i 0 (by omega)
  have x1 := xflat_get l i 1 (by omega)
  rw [hi] at x0 x1
  rw [Nat.add_zero] at x0
  simp only [Nat.zero_add]
  refine ⟨(cell_of_row _ _ _ _ _ _ (heap_alloc_new W _)).trans ?_, (cell_of_row _ _ _ _ _ _ (heap_alloc_new W _)).trans ?_⟩
  · simpa [enc2] using x0
  · simpa [enc2] using x1

theorem e_any (a b : Int) (W : World) : Calls Try.prog 33 #[.int .i64 a, .int .i64 b] W fun e w' => e = .returned (.agg #[.int .i64 a, .int .i64 b]) ∧ W.alloc (.cells #[.int .i64 a, .int .i64 b] 44) = w' := by
  have hb := fun X => build44 a b X
  go_enter Try.func33, Try.ntmps33
  go_wp2
  exact bodyPost_ret (v := .agg #[.int .i64 a, .int .i64 b]) (by simp [results, Try.results33, go_sem]) rfl ⟨rfl, rfl⟩

theorem r64s {l : List (Int × Int)} (h : ∀ e ∈ l, -1000 ≤ e.1 ∧ e.1 ≤ 1000 ∧ -1000 ≤ e.2 ∧ e.2 ≤ 1000) : ∀ e ∈ l, R64 e.1 ∧ R64 e.2 := fun e he => by
  have := h e he
  unfold R64
  omega

theorem aw_norm1 (v : Value) (w : World) (hv : Ext w v [(5, 3), (0, 2), (7, 4)]) :
    Calls Try.prog 16 #[v] w fun e w' => ∃ va, e = .returned (.tuple #[va, .int .i64 0]) ∧ Ext w' va [(0, 2), (5, 6)] ∧ Below w.heap.size w w' := by
  refine (normalize_any _ v w hv (by simp)).mono ?_
  rintro e w' ⟨va, l, rfl, hl, he, hb⟩
  have h0 : nrm [(5, 3), (0, 2), (7, 4)] = 0 := by decide
  rw [h0, if_pos rfl] at hl
  rw [h0]
  have : l = [(0, 2), (5, 6)] := canon_ext (Int.le_refl _) hl.1 (by simp [Canon]) (fun x => by
    rw [hl.2 x, Bool.eq_iff_iff]
    simp [mem, inE]
    omega)
  subst this
  exact ⟨va, rfl, he, hb⟩
theorem aw_norm2 (v : Value) (w : World) (hv : Ext w v [(-3, 5)]) :
    Calls Try.prog 16 #[v] w fun e w' => ∃ va, e = .returned (.tuple #[va, .int .i64 2]) ∧ Below w.heap.size w w' := by
  refine (normalize_any _ v w hv (by simp)).mono ?_
  rintro e w' ⟨va, l, rfl, hl, he, hb⟩
  have h0 : nrm [(-3, 5)] = 2 := by decide
  rw [h0]
  exact ⟨va, rfl, hb⟩
theorem aw_split (v : Value) (w : World) (hv : Ext w v [(0, 5), (10, 2)]) :
    Calls Try.prog 31 #[v, .int .i64 2] w fun e w' => ∃ va, e = .returned (.tuple #[va, .int .i64 0]) ∧ Ext w' va [(0, 2), (2, 2), (4, 1), (10, 2)] ∧ Below w.heap.size w w' := by
  refine (split_any _ v 2 w hv (by simp) (by unfold R64; omega)).mono ?_
  rintro e w' ⟨va, l, rfl, hc, hl, he, hb⟩
  have hl := hl (by omega)
  have : l = [(0, 5), (10, 2)] := canon_ext (Int.le_refl _) hc (by simp [Canon]) hl
  subst this
  exact ⟨va, rfl, he, hb⟩
theorem aw_same (l : List (Int × Int)) (v u : Value) (w : World) (hv : Ext w v l) (hu : Ext w u l) (hl : l.length ≤ 10000) :
    Calls Try.prog 18 #[v, u] w fun e w' => e = .returned (.bool true) ∧ Below w.heap.size w w' := by
  refine (same_any l l v u w hv hu hl hl).mono ?_
  rintro e w' ⟨rfl, hb⟩
  exact ⟨by simp, hb⟩
theorem aw_check (l : List (Int × Int)) (v : Value) (size r : Int) (w : World) (hv : Ext w v l) (hl : l.length ≤ 10000) (hs : R64 size) (h : checkS size l = r) :
    Calls Try.prog 14 #[v, .int .i64 size] w fun e w' => e = .returned (.int .i64 r) ∧ Below w.heap.size w w' := by
  subst h
  exact check_any l v size w hv hl hs
theorem aw_union (v u : Value) (w : World) (hv : Ext w v [(0, 2)]) (hu : Ext w u [(2, 1)]) :
    Calls Try.prog 19 #[v, u] w fun e w' => ∃ va, e = .returned va ∧ Ext w' va [(0, 3)] ∧ Below w.heap.size w w' := by
  refine (union_any _ _ v u w hv hu (by simp) (by simp)).mono ?_
  rintro e w' ⟨va, l, rfl, hc, hl, he, hb⟩
  have : l = [(0, 3)] := canon_ext (Int.le_refl _) hc (by simp [Canon]) (fun x => by
    rw [hl x, Bool.eq_iff_iff]
    simp [mem, inE]
    omega)
  subst this
  exact ⟨va, rfl, he, hb⟩
theorem aw_subtract (v u : Value) (w : World) (hv : Ext w v [(0, 10)]) (hu : Ext w u [(3, 2)]) :
    Calls Try.prog 23 #[v, u] w fun e w' => ∃ va, e = .returned va ∧ Ext w' va [(0, 3), (5, 5)] ∧ Below w.heap.size w w' := by
  refine (subtract_any _ _ v u w hv hu (by simp) (by simp)).mono ?_
  rintro e w' ⟨va, l, rfl, hc, hl, he, hb⟩
  have : l = [(0, 3), (5, 5)] := canon_ext (Int.le_refl _) hc (by simp [Canon]) (fun x => by
    rw [hl x, Bool.eq_iff_iff]
    simp [mem, inE]
    omega)
  subst this
  exact ⟨va, rfl, he, hb⟩
theorem aw_complement (v : Value) (w : World) (hv : Ext w v [(3, 2)]) :
    Calls Try.prog 27 #[v, .int .i64 8] w fun e w' => ∃ va, e = .returned va ∧ Ext w' va [(0, 3), (5, 3)] ∧ Below w.heap.size w w' := by
  refine (complement_any _ v 8 w hv (by simp) (by unfold R64; omega)).mono ?_
  rintro e w' ⟨va, l, rfl, hc, hl, he, hb⟩
  have : l = [(0, 3), (5, 3)] := canon_ext (Int.le_refl _) hc (by simp [Canon]) (fun x => by
    rw [hl x, Bool.eq_iff_iff]
    simp [mem, inE]
    omega)
  subst this
  exact ⟨va, rfl, he, hb⟩
theorem aw_count (v : Value) (w : World) (hv : Ext w v [(-3, 5)]) :
    Calls Try.prog 25 #[v] w fun e w' => e = .returned (.int .i64 2) ∧ Below w.heap.size w w' := by
  refine (count_any _ v w hv (by simp)).mono ?_
  rintro e w' ⟨l, rfl, hc, hl, hb⟩
  have : l = [(0, 2)] := canon_ext (Int.le_refl _) hc (by simp [Canon]) (fun x => by
    rw [hl x, Bool.eq_iff_iff]
    simp [mem, inE]
    omega)
  subst this
  exact ⟨rfl, hb⟩
theorem aw_contains (l : List (Int × Int)) (v : Value) (x : Int) (r : Bool) (w : World) (hv : Ext w v l) (hl : l.length ≤ 10000) (h : mem l x = r) :
    Calls Try.prog 29 #[v, .int .i64 x] w fun e w' => e = .returned (.bool r) ∧ Below w.heap.size w w' := by
  subst h
  exact contains_any l v x w hv hl

theorem few_any (a b : List (Int × Int)) (va vb : Value) (w : World) (ha : Ext w va a) (hb : Ext w vb b) (la : a.length ≤ 9223372036854775807) (lb : b.length ≤ 9223372036854775807) :
    Calls Try.prog 12 #[va, vb] w fun e w' => e = .returned (.bool (decide (a.length ≤ 20 ∧ b.length ≤ 20))) ∧ w = w' := by
  obtain ⟨A, ca, hva⟩ : ∃ A ca, va = .slice A a.length ca := by obtain ⟨_, A, ca, h, _⟩ := ha; exact ⟨A, ca, h⟩
  obtain ⟨B, cb, hvb⟩ : ∃ B cb, vb = .slice B b.length cb := by obtain ⟨_, A, ca, h, _⟩ := hb; exact ⟨A, ca, h⟩
  subst hva hvb
  clear ha hb
  by_cases h1 : a.length ≤ 20
  · by_cases h2 : b.length ≤ 20
    · have HD := hid (show decide (a.length ≤ 20 ∧ b.length ≤ 20) = true by simp [h1, h2])
      go_enter Try.func12, Try.ntmps12
      go_wp2
      go_ret
      exact ⟨ret_bool (by rw [HD.out]; simp; omega), rfl⟩
    · have HD := hid (show decide (a.length ≤ 20 ∧ b.length ≤ 20) = false by simp; omega)
      go_enter Try.func12, Try.ntmps12
      go_wp2
      go_ret
      exact ⟨ret_bool (by rw [HD.out]; simp; omega), rfl⟩
  · have h1' : 20 < a.length := by omega
    clear h1
    go_enter Try.func12, Try.ntmps12
    go_wp2
    go_ret
    exact ⟨ret_bool (by simp; omega), rfl⟩
end Go.Proofs.Ytkchenhkolpinaa
