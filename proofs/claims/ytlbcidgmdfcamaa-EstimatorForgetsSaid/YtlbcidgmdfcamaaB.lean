/- Estimators in boxes; within, Check. -/
import Derived.Test.YtlbcidgmdfcamaaA
import Derived.Test.YtlbcidgmdfcamaaM
namespace Go.Proofs.Ytlbcidgmdfcamaa
open Go.RowKit Go.Lib
theorem ret_i {a b : Int} (h : a = b) : Ending.returned (.int .i64 a) = .returned (.int .i64 b) := by rw [h]
theorem ret_b {a b : Bool} (h : a = b) : Ending.returned (.bool a) = .returned (.bool b) := by rw [h]
theorem new_two (w : World) (x y : Obj) : ((w.alloc x).alloc y).heap[w.heap.size + 1]? = some y := by
  rw [← World.size_alloc w x]
  exact heap_alloc_new _ _
theorem old_alloc {w : World} {g : Nat} {o : Obj} (h : w.heap[g]? = some o) (x : Obj) : (w.alloc x).heap[g]? = some o := (Below.heap_alloc _ _ _ (box_lt h)).trans h
def ev (e : Est) : Value := .agg #[.int .i64 e.n, .int .i64 e.s, .int .i64 e.v, .int .i64 e.b]
def cE (e : Est) : Array Value := #[.int .i64 e.n, .int .i64 e.s, .int .i64 e.v, .int .i64 e.b]
/-- Four stores into a box. -/
abbrev set4 (w : World) (g : Nat) (s : Est) : World := (((w.setCell ⟨g, 0, none⟩ (.int .i64 s.n)).setCell ⟨g, 1, none⟩ (.int .i64 s.s)).setCell ⟨g, 2, none⟩ (.int .i64 s.v)).setCell ⟨g, 3, none⟩ (.int .i64 s.b)
theorem set4h {w : World} {g : Nat} {T : TypeId} {z : Est} (s : Est) (h : w.heap[g]? = some (.cells (cE z) T)) : (set4 w g s).heap[g]? = some (.cells (cE s) T) :=
  box_set (cs := [.int .i64 s.n, .int .i64 s.s, .int .i64 s.v, .int .i64 z.b]) (box_set (cs := [.int .i64 s.n, .int .i64 s.s, .int .i64 z.v, .int .i64 z.b]) (box_set (cs := [.int .i64 s.n, .int .i64 z.s, .int .i64 z.v, .int .i64 z.b]) (box_set (cs := [.int .i64 z.n, .int .i64 z.s, .int .i64 z.v, .int .i64 z.b]) h 0 _) 1 _) 2 _) 3 _
theorem set4u {g : Nat} {a b : World} (s : Est) (h : Upd g a b) : Upd g a (set4 b g s) := (((h.set 0 _).set 1 _).set 2 _).set 3 _
theorem set4b {B : Nat} {w0 w : World} {g : Nat} (s : Est) (h : Below B w0 w) (hg : B ≤ g) : Below B w0 (set4 w g s) :=
  (((h.setCell hg _).setCell hg _).setCell hg _).setCell hg _
theorem load4 {w : World} {g : Nat} {s : Est} {T : TypeId} (h : w.heap[g]? = some (.cells (cE s) T)) : w.cell? ⟨g, 0, none⟩ = some (.int .i64 s.n) ∧ w.cell? ⟨g, 1, none⟩ = some (.int .i64 s.s) ∧ w.cell? ⟨g, 2, none⟩ = some (.int .i64 s.v) ∧ w.cell? ⟨g, 3, none⟩ = some (.int .i64 s.b) :=
  ⟨cell_of_row _ _ 0 _ _ _ h, cell_of_row _ _ 1 _ _ _ h, cell_of_row _ _ 2 _ _ _ h, cell_of_row _ _ 3 _ _ _ h⟩
theorem run_lv23 {w : World} {g : Nat} {T : TypeId} {s : Est} (h : w.heap[g]? = some (.cells (cE s) T)) : (loadVar 23 ⟨g, 0, none⟩).run Try.prog w = .ok (ev s) w :=
  run_loadVar_row w g T 23 (cE s) (0, 0) _ h Try.underlying23 rfl rfl
theorem results_e {fn : Func} {p : Tmp} (h : fn.results = #[.cell p 23]) (tmps : Array Value) (w : World) (g : Nat) (T : TypeId) (s : Est)
    (hp : tmps.getD p undef = .pointer (some ⟨g, 0, none⟩)) (hh : w.heap[g]? = some (.cells (cE s) T)) : (results fn tmps).run Try.prog w = .ok (ev s) w := by
  have hp' : tmps[p]?.getD undef = .pointer (some ⟨g, 0, none⟩) := by simpa using hp
  simp [results, h, hp', asAddr, run_lv23 hh]
theorem results_e1 {fn : Func} {p u : Tmp} (h : fn.results = #[.cell p 23, .tmp u]) (tmps : Array Value) (w : World) (g : Nat) (T : TypeId) (s : Est)
    (hp : tmps.getD p undef = .pointer (some ⟨g, 0, none⟩)) (hh : w.heap[g]? = some (.cells (cE s) T)) (z : Value) (hz : tmps.getD u undef = z) :
    (results fn tmps).run Try.prog w = .ok (.tuple #[ev s, z]) w := by
  have hp' : tmps[p]?.getD undef = .pointer (some ⟨g, 0, none⟩) := by simpa using hp
  have hz' : tmps[u]?.getD undef = z := by simpa using hz
  simp [results, h, hp', hz', asAddr, run_lv23 hh]
theorem all_none {m x : Int} : ∀ {l : List Int} {k : Nat}, l[k]? = some x → inB m x = false → l.all (inB m) = false := fun h hx => by
  rw [List.all_eq_false]
  exact ⟨_, List.mem_of_getElem? h, by rw [hx]; decide⟩
set_option maxHeartbeats 2000000 in
theorem within_any (m : Int) (l : List Int) (n c g : Nat) (w : World) (hn : l.length = n) (hl : n ≤ 4) (hc : ∀ k x, l[k]? = some x → w.cell? ⟨g, k, none⟩ = some (.int .i64 x)) :
    Calls Try.prog 23 #[.int .i64 m, .slice (some ⟨g, 0, none⟩) n c] w fun e w' => e = .returned (.bool (l.all (inB m))) ∧ w' = w := by
  have HC := hid hc
  have HN := hid hn
  clear hc hn
  go_enter Try.func23, Try.ntmps23
  go_wp2_with fail
  go_loop [9] (fun i => ∃ k : Nat, k ≤ n ∧ i = .int .i64 (k : Int) ∧ Hid (∀ j x, j < k → l[j]? = some x → inB m x = true)) (fun i => n - (RowKit.intOf i).toNat)
  case atStart => exact ⟨0, by omega, rfl, hid (fun j x h => by omega)⟩
  case round =>
    obtain ⟨k, hk, rfl, HY⟩ := hrel
    by_cases hlt : k < n
    · obtain ⟨x, hx⟩ : ∃ x, l[k]? = some x := ⟨l[k]'(by rw [HN.out]; exact hlt), List.getElem?_eq_getElem (by rw [HN.out]; exact hlt)⟩
      have hcl := HC.out _ _ hx
      have HX := hid hx
      clear hx
      by_cases a0 : x < 0
      · have d0 : decide (x < 0) = true := decide_eq_true a0
        go_wp2_with fail
        go_ret
        exact ⟨ret_b (all_none HX.out (inB_not (.inl a0))).symm, rfl⟩
      have d0 : decide (x < 0) = false := decide_eq_false a0
      by_cases a1 : m < x
      · have d1 : decide (m < x) = true := decide_eq_true a1
        go_wp2_with fail
        go_ret
        exact ⟨ret_b (all_none HX.out (inB_not (.inr a1))).symm, rfl⟩
      have d1 : decide (m < x) = false := decide_eq_false a1
      go_wp2_with fail
      go_round
      case rel =>
        refine ⟨k + 1, by omega, by go_num, hid (fun j y hj hy => ?_)⟩
        rcases Nat.lt_or_ge j k with h | h
        · exact HY.out j y h hy
        · obtain rfl : j = k := by omega
          rw [HX.out] at hy
          injection hy with hy
          subst hy
          exact inB_of (by omega) (by omega)
      case measure => simp [RowKit.intOf]; omega
    · obtain rfl : k = n := by omega
      go_wp2_with fail
      go_ret
      refine ⟨ret_b ?_, rfl⟩
      symm
      rw [List.all_eq_true]
      intro x hx
      obtain ⟨j, hj⟩ := List.mem_iff_getElem?.1 hx
      exact HY.out j x (by have := (List.getElem?_eq_some_iff.1 hj).1; rw [HN.out] at this; exact this) hj
theorem within1 (m x : Int) (g : Nat) (w : World) (h : w.heap[g]? = some (.cells #[.int .i64 x] 3)) :
    Calls Try.prog 23 #[.int .i64 m, .slice (some ⟨g, 0, none⟩) 1 1] w fun e w' => e = .returned (.bool (inB m x)) ∧ w' = w := by
  refine (within_any m [x] 1 1 g w rfl (by decide) (fun k y hk => ?_)).mono ?_
  · rcases k with _ | k
    · simp at hk
      subst hk
      exact cell_of_row _ _ 0 _ _ _ h
    · simp at hk
  · rintro e w' ⟨rfl, hw⟩
    exact ⟨ret_b (by simp), hw⟩
theorem within2 (m x y : Int) (g : Nat) (w : World) (h : w.heap[g]? = some (.cells #[.int .i64 x, .int .i64 y] 3)) :
    Calls Try.prog 23 #[.int .i64 m, .slice (some ⟨g, 0, none⟩) 2 2] w fun e w' => e = .returned (.bool (inB m x && inB m y)) ∧ w' = w := by
  refine (within_any m [x, y] 2 2 g w rfl (by decide) (fun k z hk => ?_)).mono ?_
  · rcases k with _ | _ | k
    · simp at hk
      subst hk
      exact cell_of_row _ _ 0 _ _ _ h
    · simp at hk
      subst hk
      exact cell_of_row _ _ 1 _ _ _ h
    · simp at hk
  · rintro e w' ⟨rfl, hw⟩
    exact ⟨ret_b (by simp), hw⟩
end Go.Proofs.Ytlbcidgmdfcamaa
