/- New and the reference's New; words that are written. -/
import Derived.Test.YtbifhcjkdfocaaaDoorD
import Derived.Laws.MakeOwn
import Derived.Laws.ResultCell
import Derived.Laws.Rows
namespace Go.Proofs.YtbifhcjkdfocaaaDoor
open Go.RowKit

/-- Block g holds the words ws from its first cell on. -/
def Wk (w : World) (g : Nat) (ws : List Nat) : Prop := ∃ cs, w.heap[g]? = some (.cells cs 55 (0, 0)) ∧ ws.length ≤ cs.size ∧ ∀ (i x : Nat), ws[i]? = some x → cs[i]? = some (.int .u64 x)
section
variable {w w' : World} {g : Nat} {ws : List Nat}
theorem Wk.lt (h : Wk w g ws) : g < w.heap.size := by
  obtain ⟨cs, hc, _⟩ := h
  exact (Array.getElem?_eq_some_iff.1 hc).1
theorem Wk.cell (h : Wk w g ws) {i x : Nat} (hi : ws[i]? = some x) : w.cell? ⟨g, i, none⟩ = some (.int .u64 x) := by
  obtain ⟨cs, hc, _, hm⟩ := h
  rw [cell_of_row _ _ _ _ _ _ hc]
  exact hm i x hi
theorem Wk.frozen (h : Wk w g ws) (i : Nat) : w.frozen? ⟨g, i, none⟩ = false := by
  obtain ⟨cs, hc, _, _⟩ := h
  unfold World.frozen?
  rw [hc]
  simp
theorem Wk.keep (h : Wk w g ws) (hh : w'.heap[g]? = w.heap[g]?) : Wk w' g ws := by
  obtain ⟨cs, hc, h1, h2⟩ := h
  exact ⟨cs, hh.trans hc, h1, h2⟩
theorem Wk.below (h : Wk w g ws) (hb : Below w.heap.size w w') : Wk w' g ws := h.keep (hb.block _ h.lt)
theorem Wk.set (h : Wk w g ws) {i : Nat} (hi : i < ws.length) (x : Nat) : Wk (w.setCell ⟨g, i, none⟩ (.int .u64 x)) g (ws.set i x) := by
  obtain ⟨cs, hc, h1, h2⟩ := h
  refine ⟨cs.setIfInBounds i (.int .u64 x), by simp [World.setCell, Array.getElem?_modify, hc], by simpa using h1, fun j y hj => ?_⟩
  rw [Array.getElem?_setIfInBounds]
  by_cases e : i = j
  · subst e
    rw [if_pos rfl, if_pos (by omega)]
    rw [List.getElem?_set_self hi] at hj
    injection hj with hj
    rw [hj]
  · rw [if_neg e]
    rw [List.getElem?_set_ne e] at hj
    exact h2 j y hj
theorem Wk.bm (h : Wk w g ws) (hw : Wide ws) {s : Int} (hs : R64 s) {cap : Nat} (hc : ws.length ≤ cap) (hm : cap ≤ maxLen) : Bm w (.agg #[.int .i64 s, .slice (some ⟨g, 0, none⟩) ws.length cap]) s ws :=
  ⟨hs, hw, _, cap, rfl, hc, hm, g, 0, fun _ => ⟨rfl, h.lt⟩, fun i x hi => by rw [Nat.zero_add]; exact h.cell hi⟩
end

theorem make22 (W : World) (n : Nat) (hn : n ≤ 4096) : (Instr.makeSlice 22 (.int .i64 n) (.int .i64 n)).run Tryd.prog W = .ok (.slice (some ⟨W.heap.size, 0, none⟩) n n) (W.alloc (.cells (madeCells #[.int .u64 0] n) 55)) := by
  have hinf : (Tryd.prog.info? 55).map (fun i => (i.zero, i.size, i.bytes)) = some (some (.int .u64 0), 1, 8) := by kernel_rfl
  obtain ⟨i0, hi, hz0, hz1, hz2⟩ := info_parts hinf
  have h := run_make (P := Tryd.prog) W 22 55 i0 (.int .u64 0) Tryd.underlying22 hi hz0 .i64 .i64 n n (by omega) (by omega) (by rw [hz2]; omega) (by omega)
  rw [hz1] at h
  simp only [Int.toNat_natCast, Nat.mul_one] at h
  exact h
theorem wk_made (W : World) (n : Nat) : Wk (W.alloc (.cells (madeCells #[.int .u64 0] n) 55)) W.heap.size (List.replicate n 0) := by
  refine ⟨_, heap_alloc_new W _, by simp [size_madeCells], fun i x hi => ?_⟩
  have h := toList_madeCells_one (.int .u64 0) n
  have h2 : (madeCells #[.int .u64 0] n)[i]? = (madeCells #[.int .u64 0] n).toList[i]? := by simp
  rw [h2, h]
  rw [List.getElem?_replicate] at hi ⊢
  by_cases hl : i < n
  · rw [if_pos hl] at hi ⊢
    injection hi with hi
    rw [← hi]
    rfl
  · rw [if_neg hl] at hi; cases hi
theorem wide_rep (n : Nat) : Wide (List.replicate n 0) := fun x hx => by rw [List.eq_of_mem_replicate hx]; decide
theorem bit_rep (n i : Nat) : bit (List.replicate n 0) i = false := by
  unfold bit
  simp [List.getD, List.getElem?_replicate]
  split <;> simp
theorem good_rep {s : Int} (h0 : 0 ≤ s) (h1 : s ≤ 4096) : Good s (List.replicate ((s + 63) / 64).toNat 0) :=
  ⟨h0, h1, by rw [List.length_replicate]; omega, fun i _ => bit_rep _ i⟩

/-- A result that is a bitmap and an error. -/
def MadeB (w : World) (err s : Int) (p : Nat → Bool) (e : Ending) (w' : World) : Prop :=
  ∃ v ws, e = .returned (.tuple #[v, .int .i64 err]) ∧ Bm w' v (if err = 0 then s else 0) ws ∧ (if err = 0 then Good s ws ∧ ∀ i : Nat, (i : Int) < s → bit ws i = p i else ws = []) ∧ Below w.heap.size w w'
theorem made_err {w w' : World} {err r s : Int} {p : Nat → Bool} (h : r = err) (hne : r ≠ 0) (hb : Below w.heap.size w w') : MadeB w err s p (.returned (.tuple #[.agg #[.int .i64 0, .slice none 0 0], .int .i64 r])) w' := by
  subst h
  exact ⟨_, [], rfl, by rw [if_neg hne]; exact bm_nil _, by rw [if_neg hne], hb⟩
theorem made_ok {w w' : World} {v : Value} {err s : Int} {ws : List Nat} {p : Nat → Bool} (he : 0 = err) (hv : Bm w' v s ws) (hg : Good s ws) (hp : ∀ i : Nat, (i : Int) < s → bit ws i = p i) (hb : Below w.heap.size w w') : MadeB w err s p (.returned (.tuple #[v, .int .i64 0])) w' := by
  subst he
  exact ⟨v, ws, rfl, by rw [if_pos rfl]; exact hv, by rw [if_pos rfl]; exact ⟨hg, hp⟩, hb⟩

def newErr (s : Int) : Int := if 0 ≤ s ∧ s ≤ 4096 then 0 else 2
theorem newErr_ok {s : Int} (h0 : 0 ≤ s) (h1 : s ≤ 4096) : newErr s = 0 := by unfold newErr; rw [if_pos ⟨h0, h1⟩]
theorem newErr_bad {s : Int} (h : ¬ (0 ≤ s ∧ s ≤ 4096)) : newErr s = 2 := by unfold newErr; rw [if_neg h]

theorem size24 : (Tryd.prog.info? 24).map (·.size) = some 2 := by kernel_rfl
theorem und24 : Tryd.prog.underlying 24 = some (.struct (Tryd.prog.fieldsOf 24)) := by kernel_rfl
theorem results_bm {fn : Func} {p u : Tmp} (h : fn.results = #[.cell p 24, .tmp u]) (tmps : Array Value) (w : World) (g : Nat) (t : TypeId) (x y : Value) (fr : Nat × Nat)
    (hp : tmps.getD p undef = .pointer (some ⟨g, 0, none⟩)) (hg : w.heap[g]? = some (.cells #[x, y] t fr)) : (results fn tmps).run Tryd.prog w = .ok (.tuple #[.agg #[x, y], tmps.getD u undef]) w := by
  rw [results_cell_tmp h, hp]
  have e := run_loadVar_row (P := Tryd.prog) w g t 24 #[x, y] fr _ hg und24 rfl size24
  have ea : (asAddr (.pointer (some ⟨g, 0, none⟩))).run Tryd.prog w = .ok ⟨g, 0, none⟩ w := rfl
  rw [ea, Result.andThen_ok, e, Result.andThen_ok]

theorem box2_set {W : World} {g : Nat} {x y a b : Value} {t : TypeId} {fr : Nat × Nat} (h : W.heap[g]? = some (.cells #[x, y] t fr)) : ((W.setCell ⟨g, 0, none⟩ a).setCell ⟨g, 1, none⟩ b).heap[g]? = some (.cells #[a, b] t fr) := by
  simp [World.setCell, Array.getElem?_modify, h]
theorem box2_other {W : World} {g q : Nat} {a b : Value} (h : q ≠ g) : ((W.setCell ⟨g, 0, none⟩ a).setCell ⟨g, 1, none⟩ b).heap[q]? = W.heap[q]? :=
  (Below.heap_setCell _ _ _ _ h).trans (Below.heap_setCell _ _ _ _ h)
theorem Wk.box2 {W : World} {g q : Nat} {a b : Value} {ws : List Nat} (h : Wk W g ws) (hne : g ≠ q) : Wk ((W.setCell ⟨q, 0, none⟩ a).setCell ⟨q, 1, none⟩ b) g ws := h.keep (box2_other hne)
theorem box2_below {w W : World} {g : Nat} {a b : Value} (h : Below w.heap.size w W) (hg : w.heap.size ≤ g) : Below w.heap.size w ((W.setCell ⟨g, 0, none⟩ a).setCell ⟨g, 1, none⟩ b) :=
  (h.setCell (p := ⟨g, 0, none⟩) hg _).setCell (p := ⟨g, 1, none⟩) hg _

set_option maxHeartbeats 2000000 in
set_option maxRecDepth 100000 in
theorem new_any (s : Int) (w : World) :
    Calls Tryd.prog 13 #[.int .i64 s] w (MadeB w (newErr s) s (fun _ => false)) := by
  by_cases h0 : s < 0
  · have he := hid (newErr_bad (s := s) (fun h => by omega))
    go_enter Tryd.func13, Tryd.ntmps13
    go_wp2
    refine bodyPost_ret (results_bm rfl _ _ _ _ _ _ _ rfl (heap_alloc_new _ _)) rfl ?_
    exact made_err he.out.symm (by omega) ((Below.refl _ _).alloc (Nat.le_refl _) _)
  · by_cases h1 : s > 4096
    · have he := hid (newErr_bad (s := s) (fun h => by omega))
      go_enter Tryd.func13, Tryd.ntmps13
      go_wp2
      refine bodyPost_ret (results_bm rfl _ _ _ _ _ _ _ rfl (heap_alloc_new _ _)) rfl ?_
      exact made_err he.out.symm (by omega) ((Below.refl _ _).alloc (Nat.le_refl _) _)
    · have he := hid (newErr_ok (s := s) (by omega) (by omega))
      have hg := hid (good_rep (s := s) (by omega) (by omega))
      have h0' : 0 ≤ s := by omega
      have h1' : s ≤ 4096 := by omega
      obtain ⟨n, hn⟩ : ∃ n : Nat, (s + 63) / 64 = (n : Int) := ⟨((s + 63) / 64).toNat, by omega⟩
      have hn1 : n ≤ 64 := by omega
      obtain ⟨w0, hw0⟩ : ∃ w0, w.alloc (.cells #[.int .i64 0, .slice none 0 0] 24) = w0 := ⟨_, rfl⟩
      have hmk := make22 w0 n (by omega)
      have HW := hid (wordsFor_any s w0 h0' h1')
      have hwk := wk_made w0 n
      have hz0 : w0.heap.size = w.heap.size + 1 := by rw [← hw0]; simp
      have hbx : (w0.alloc (.cells (madeCells #[.int .u64 0] n) 55)).heap[w.heap.size]? = some (.cells #[.int .i64 0, .slice none 0 0] 24 (0, 0)) := by
        rw [← hw0]; exact (Below.heap_alloc _ _ _ (by simp)).trans (heap_alloc_new w _)
      have hB : Below w.heap.size w (w0.alloc (.cells (madeCells #[.int .u64 0] n) 55)) := by
        rw [← hw0]; exact ((Below.refl _ w).alloc (Nat.le_refl _) _).alloc (by simp) _
      obtain ⟨W1, hW1⟩ : ∃ W1, W1 = w0.alloc (.cells (madeCells #[.int .u64 0] n) 55) := ⟨_, rfl⟩
      rw [← hW1] at hmk hwk hB hbx
      rw [hz0] at hmk hwk
      rw [hn] at HW
      have HK := hid hwk
      have HB := hid hB
      have HN := hid hn
      have x0 := cell_of_row _ _ 0 _ _ _ hbx
      have x1 := cell_of_row _ _ 1 _ _ _ hbx
      have hfr : ∀ i, W1.frozen? ⟨w.heap.size, i, none⟩ = false := fun i => by unfold World.frozen?; rw [hbx]; simp
      have f0 := hfr 0
      have f1 := hfr 1
      have HBX := hid hbx
      clear hW1 hwk hB hn hbx hfr hz0
      go_enter Tryd.func13, Tryd.ntmps13
      go_wp2_with (go_at_call 39; refine HW.out.mono ?_; rintro e w1 ⟨rfl, rfl⟩)
      refine bodyPost_ret (results_bm rfl _ _ _ _ _ _ _ rfl (box2_set HBX.out)) rfl ?_
      have hg2 := hg.out
      rw [HN.out, Int.toNat_natCast] at hg2
      refine made_ok he.out.symm (ws := List.replicate n 0) ?_ hg2 (fun i _ => bit_rep n i) (box2_below HB.out (Nat.le_refl _))
      have h := fun W (h : Wk W (w.heap.size + 1) (List.replicate n 0)) => h.bm (wide_rep n) (s := s) ⟨by omega, by omega⟩ (cap := n) (by simp) (by unfold maxLen; omega)
      simp only [List.length_replicate] at h
      exact h _ (HK.out.box2 (by omega))
set_option maxHeartbeats 2000000 in
set_option maxRecDepth 100000 in
theorem refNew_any (s : Int) (w : World) :
    Calls Tryd.prog 14 #[.int .i64 s] w (MadeB w (newErr s) s (fun _ => false)) := by
  by_cases h0 : s < 0
  · have he := hid (newErr_bad (s := s) (fun h => by omega))
    go_enter Tryd.func14, Tryd.ntmps14
    go_wp2
    refine bodyPost_ret (results_bm rfl _ _ _ _ _ _ _ rfl (heap_alloc_new _ _)) rfl ?_
    exact made_err he.out.symm (by omega) ((Below.refl _ _).alloc (Nat.le_refl _) _)
  · by_cases h1 : s > 4096
    · have he := hid (newErr_bad (s := s) (fun h => by omega))
      go_enter Tryd.func14, Tryd.ntmps14
      go_wp2
      refine bodyPost_ret (results_bm rfl _ _ _ _ _ _ _ rfl (heap_alloc_new _ _)) rfl ?_
      exact made_err he.out.symm (by omega) ((Below.refl _ _).alloc (Nat.le_refl _) _)
    · have he := hid (newErr_ok (s := s) (by omega) (by omega))
      have hg := hid (good_rep (s := s) (by omega) (by omega))
      have h0' : 0 ≤ s := by omega
      have h1' : s ≤ 4096 := by omega
      obtain ⟨n, hn⟩ : ∃ n : Nat, (s + 63) / 64 = (n : Int) := ⟨((s + 63) / 64).toNat, by omega⟩
      have hn1 : n ≤ 64 := by omega
      obtain ⟨w0, hw0⟩ : ∃ w0, w.alloc (.cells #[.int .i64 0, .slice none 0 0] 24) = w0 := ⟨_, rfl⟩
      have hmk := make22 w0 n (by omega)
      have hwk := wk_made w0 n
      have hz0 : w0.heap.size = w.heap.size + 1 := by rw [← hw0]; simp
      have hbx : (w0.alloc (.cells (madeCells #[.int .u64 0] n) 55)).heap[w.heap.size]? = some (.cells #[.int .i64 0, .slice none 0 0] 24 (0, 0)) := by
        rw [← hw0]; exact (Below.heap_alloc _ _ _ (by simp)).trans (heap_alloc_new w _)
      have hB : Below w.heap.size w (w0.alloc (.cells (madeCells #[.int .u64 0] n) 55)) := by
        rw [← hw0]; exact ((Below.refl _ w).alloc (Nat.le_refl _) _).alloc (by simp) _
      obtain ⟨W1, hW1⟩ : ∃ W1, W1 = w0.alloc (.cells (madeCells #[.int .u64 0] n) 55) := ⟨_, rfl⟩
      rw [← hW1] at hmk hwk hB hbx
      rw [hz0] at hmk hwk
      have HK := hid hwk
      have HB := hid hB
      have HN := hid hn
      have x0 := cell_of_row _ _ 0 _ _ _ hbx
      have x1 := cell_of_row _ _ 1 _ _ _ hbx
      have hfr : ∀ i, W1.frozen? ⟨w.heap.size, i, none⟩ = false := fun i => by unfold World.frozen?; rw [hbx]; simp
      have f0 := hfr 0
      have f1 := hfr 1
      have HBX := hid hbx
      clear hW1 hwk hB hbx hfr hz0
      have hmod : Int.tdiv (s + 63) 64 = n := by rw [Int.tdiv_eq_ediv_of_nonneg (by omega)]; exact hn
      go_enter Tryd.func14, Tryd.ntmps14
      go_wp2
      refine bodyPost_ret (results_bm rfl _ _ _ _ _ _ _ rfl (box2_set HBX.out)) rfl ?_
      have hg2 := hg.out
      rw [HN.out, Int.toNat_natCast] at hg2
      refine made_ok he.out.symm (ws := List.replicate n 0) ?_ hg2 (fun i _ => bit_rep n i) (box2_below HB.out (Nat.le_refl _))
      have h := fun W (h : Wk W (w.heap.size + 1) (List.replicate n 0)) => h.bm (wide_rep n) (s := s) ⟨by omega, by omega⟩ (cap := n) (by simp) (by unfold maxLen; omega)
      simp only [List.length_replicate] at h
      exact h _ (HK.out.box2 (by omega))
end Go.Proofs.YtbifhcjkdfocaaaDoor
