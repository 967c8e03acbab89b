/- The reference's marks: Add, Marks, List. -/
import Derived.Test.YtkchenhkolpinaaX
import Derived.Laws.MakeOwn
namespace Go.Proofs.Ytkchenhkolpinaa
open Go.RowKit

/-- Block g holds the marks m of the sectors 0 to 4095. -/
def Mk (w : World) (g : Nat) (m : Int → Bool) : Prop := ∃ cs, w.heap[g]? = some (.cells cs 4 (0, 0)) ∧ cs.size = 4096 ∧ ∀ i : Nat, i < 4096 → cs[i]? = some (.bool (m i))

section
variable {w w' : World} {g : Nat} {m m' : Int → Bool}
theorem Mk.lt (h : Mk w g m) : g < w.heap.size := by
  obtain ⟨cs, hc, _⟩ := h
  exact (Array.getElem?_eq_some_iff.1 hc).1
theorem Mk.cell (h : Mk w g m) {i : Nat} (hi : i < 4096) : w.cell? ⟨g, i, none⟩ = some (.bool (m i)) := by
  obtain ⟨cs, hc, _, hm⟩ := h
  rw [cell_of_row _ _ _ _ _ _ hc]
  exact hm i hi
theorem Mk.frozen (h : Mk w g m) (i : Nat) : w.frozen? ⟨g, i, none⟩ = false := by
  obtain ⟨cs, hc, _, _⟩ := h
  unfold World.frozen?
  rw [hc]
  simp
theorem Mk.keep (h : Mk w g m) (hh : w'.heap[g]? = w.heap[g]?) : Mk w' g m := by
  obtain ⟨cs, hc, h1, h2⟩ := h
  exact ⟨cs, hh.trans hc, h1, h2⟩
theorem Mk.below (h : Mk w g m) (hb : Below w.heap.size w w') : Mk w' g m := h.keep (hb.block _ h.lt)
theorem Mk.congr (h : Mk w g m) (hm : ∀ i : Nat, i < 4096 → m i = m' i) : Mk w g m' := by
  obtain ⟨cs, hc, h1, h2⟩ := h
  exact ⟨cs, hc, h1, fun i hi => by rw [h2 i hi, hm i hi]⟩
theorem Mk.set (h : Mk w g m) {i : Nat} (hi : i < 4096) (b : Bool) : Mk (w.setCell ⟨g, i, none⟩ (.bool b)) g (fun x => if x = i then b else m x) := by
  obtain ⟨cs, hc, h1, h2⟩ := h
  refine ⟨cs.setIfInBounds i (.bool b), by simp [World.setCell, Array.getElem?_modify, hc], by simpa using h1, fun j hj => ?_⟩
  rw [Array.getElem?_setIfInBounds]
  by_cases e : i = j
  · subst e
    rw [if_pos rfl, if_pos (by omega)]
    simp
  · rw [if_neg e, h2 j hj]
    show some (Value.bool (m j)) = some (Value.bool (if (j : Int) = i then b else m j))
    rw [if_neg (by omega)]
end

/-- 4096 marks, all false. -/
def falses : Array Value := madeCells #[.bool false] 4096
theorem falses_size : falses.size = 4096 := size_madeCells _ _
theorem falses_get (i : Nat) (hi : i < 4096) : falses[i]? = some (.bool false) := by
  have h := toList_madeCells_one (.bool false) 4096
  have : falses[i]? = falses.toList[i]? := by simp
  rw [this]
  show (madeCells #[.bool false] 4096).toList[i]? = _
  rw [h, List.getElem?_replicate, if_pos hi]
theorem make49 (W : World) : (Instr.makeSlice 49 (.int .i64 4096) (.int .i64 4096)).run Try.prog W = .ok (.slice (some ⟨W.heap.size, 0, none⟩) 4096 4096) (W.alloc (.cells falses 4)) := by
  have hinf : (Try.prog.info? 4).map (fun i => (i.zero, i.size, i.bytes)) = some (some (.bool false), 1, 1) := by kernel_rfl
  obtain ⟨i0, hi, hz0, hz1, hz2⟩ := info_parts hinf
  have h := run_make (P := Try.prog) W 49 4 i0 (.bool false) Try.underlying49 hi hz0 .i64 .i64 4096 4096 (by omega) (by omega) (by rw [hz2]; omega) (by omega)
  rw [hz1] at h
  exact h

theorem mem_add_none {s n x : Int} (h : clipE s n ≤ clipF s n) : inE (s, n) x = false := by
  rw [inE_clip]
  simp only [decide_eq_false_iff_not]
  omega

set_option maxHeartbeats 4000000 in
set_option maxRecDepth 100000 in
theorem add_any (s n : Int) (g : Nat) (m : Int → Bool) (w : World) (hm : Mk w g m) (hs : R64 s) (hn : R64 n) :
    Calls Try.prog 47 #[.slice (some ⟨g, 0, none⟩) 4096 4096, .agg #[.int .i64 s, .int .i64 n]] w fun e w' => e = .returned (.tuple #[]) ∧ Mk w' g (fun x => m x || inE (s, n) x) ∧ w.grownBy w' (some g) := by
  obtain ⟨hs1, hs2⟩ := hs
  obtain ⟨hn1, hn2⟩ := hn
  have hB : Below w.heap.size w (w.alloc (.cells #[.int .i64 s, .int .i64 n] 44)) := (Below.refl _ w).alloc (Nat.le_refl _) _
  by_cases h1 : n ≤ 0
  · go_enter Try.func47, Try.ntmps47
    go_wp2
    refine bodyPost_ret (results_none rfl _ _ _) rfl ?_
    exact ⟨rfl, (hm.below hB).congr (fun j hj => by have : inE (s, n) j = false := by simp [inE]; omega
                                                    rw [this, Bool.or_false]), World.grownBy_alloc w _ _⟩
  · by_cases h2 : 4096 ≤ s
    · go_enter Try.func47, Try.ntmps47
      go_wp2
      refine bodyPost_ret (results_none rfl _ _ _) rfl ?_
      exact ⟨rfl, (hm.below hB).congr (fun j hj => by have : inE (s, n) j = false := by simp [inE]; omega
                                                      rw [this, Bool.or_false]), World.grownBy_alloc w _ _⟩
    · by_cases h3 : s < 0
      · obtain ⟨T, hT⟩ : ∃ T, min 4096 (s + n) = T := ⟨_, rfl⟩
        have hT1 : T ≤ 4096 := by omega
        have hT2 : T ≤ s + n := by omega
        have hT3 : s + n ≤ T ∨ 4096 ≤ T := by omega
        have hT4 : -9223372036854775808 ≤ T := by omega
        go_enter Try.func47, Try.ntmps47
        go_wp2
        go_loopw [6] (fun i wr => ∃ k : Nat, 0 ≤ k ∧ ((k : Int) ≤ 0 ∨ (k : Int) ≤ T) ∧ i = .int .i64 k ∧ Mk wr g (fun x => m x || decide ((0 : Int) ≤ x ∧ x < (k : Int))) ∧ w.grownBy wr (some g)) (fun i _ => T.toNat - (intOf i).toNat)
        case atStart => exact ⟨0, Nat.le_refl _, .inl (by omega), rfl, (hm.below ((Below.refl _ w).alloc (Nat.le_refl _) _)).congr (fun i _ => by simp; omega), World.grownBy_alloc w _ _⟩
        case round =>
          obtain ⟨k, hfk, hkT, rfl, hmk, hg⟩ := hrel
          by_cases hlt : (k : Int) < T
          · have hk : k < 4096 := by omega
            have x1 := hmk.cell hk
            have x2 := hmk.frozen k
            have hset := hmk.set hk true
            have hlt2 := hg.size
            have HS := hid hset
            have HG := hid hg
            clear hset hmk
            go_wp2
            go_roundw
            case rel => exact ⟨k + 1, by omega, .inr (by omega), by go_num, HS.out.congr (fun j _ => by
              by_cases e : (j : Int) = k
              · rw [if_pos e, e]; simp; omega
              · rw [if_neg e]
                congr 1
                simp only [decide_eq_decide]
                omega), ⟨HG.out.os, HG.out.tape, HG.out.output, by simpa using hlt2, fun q hq hne => (Below.heap_setCell _ _ _ _ (fun e => hne (by rw [e]))).trans (HG.out.block q hq hne)⟩⟩
            case measure => simp [intOf]; omega
          · go_wp2
            go_end0
            exact ⟨rfl, hmk.congr (fun j hj => by
              congr 1
              rw [Bool.eq_iff_iff, inE_iff]
              simp only [decide_eq_true_eq]
              omega), hg⟩
      · obtain ⟨f, rfl⟩ := Int.eq_ofNat_of_zero_le (show 0 ≤ s by omega)
        obtain ⟨T, hT⟩ : ∃ T, min 4096 ((f : Int) + min n 4096) = T := ⟨_, rfl⟩
        have hT1 : T ≤ 4096 := by omega
        have hT2 : T ≤ (f : Int) + n := by omega
        have hT3 : (f : Int) + n ≤ T ∨ 4096 ≤ T := by omega
        go_enter Try.func47, Try.ntmps47
        go_wp2
        go_loopw [6] (fun i wr => ∃ k : Nat, f ≤ k ∧ ((k : Int) ≤ f ∨ (k : Int) ≤ T) ∧ i = .int .i64 k ∧ Mk wr g (fun x => m x || decide ((f : Int) ≤ x ∧ x < (k : Int))) ∧ w.grownBy wr (some g)) (fun i _ => T.toNat - (intOf i).toNat)
        case atStart => exact ⟨f, Nat.le_refl _, .inl (Int.le_refl _), rfl, (hm.below ((Below.refl _ w).alloc (Nat.le_refl _) _)).congr (fun i _ => by simp; omega), World.grownBy_alloc w _ _⟩
        case round =>
          obtain ⟨k, hfk, hkT, rfl, hmk, hg⟩ := hrel
          by_cases hlt : (k : Int) < T
          · have hk : k < 4096 := by omega
            have x1 := hmk.cell hk
            have x2 := hmk.frozen k
            have hset := hmk.set hk true
            have hlt2 := hg.size
            have HS := hid hset
            have HG := hid hg
            clear hset hmk
            go_wp2
            go_roundw
            case rel => exact ⟨k + 1, by omega, .inr (by omega), by go_num, HS.out.congr (fun j _ => by
              by_cases e : (j : Int) = k
              · rw [if_pos e, e]; simp; omega
              · rw [if_neg e]
                congr 1
                simp only [decide_eq_decide]
                omega), ⟨HG.out.os, HG.out.tape, HG.out.output, by simpa using hlt2, fun q hq hne => (Below.heap_setCell _ _ _ _ (fun e => hne (by rw [e]))).trans (HG.out.block q hq hne)⟩⟩
            case measure => simp [intOf]; omega
          · go_wp2
            go_end0
            exact ⟨rfl, hmk.congr (fun j hj => by
              congr 1
              rw [Bool.eq_iff_iff, inE_iff]
              simp only [decide_eq_true_eq]
              omega), hg⟩
end Go.Proofs.Ytkchenhkolpinaa
