/- The table: singles returns the array whose place j holds the register that begins with j, after eight shifts. -/
import Derived.Test.YtgkcdmbhniipdaaD
import Derived.Laws.Rows
import Derived.Laws.Tables
import Derived.Deep.WholeRow
import Derived.Outline
namespace Go.Proofs.Ytgkcdmbhniipdaa
open Go.RowKit Go.Lib

def zero256 : Array Value := Array.replicate 256 (.int .u32 0)
theorem zero_info : (Try.prog.info? 59).map (fun i => (i.zero, i.size)) = some (some (.agg zero256), 256) := by kernel_rfl
theorem zero_run (w : World) : (zeroValue 59).run Try.prog w = .ok (.agg zero256) w := (zero_of_info zero_info).1 w
theorem size59 : (Try.prog.info? 59).map (·.size) = some 256 := (zero_of_info zero_info).2
theorem zero256_size : zero256.size = 256 := by unfold zero256; simp

/-- The array of the table. -/
def IsTab (A : Array Value) : Prop := A.size = 256 ∧ ∀ j : Nat, j < 256 → A[j]? = some (.int .u32 (shn 8 j : Nat))
theorem IsTab.one {A : Array Value} (h : IsTab A) : A.all (·.oneCell') = true := by
  rw [Array.all_eq_true]
  intro i hi
  have h1 := h.2 i (by have := h.1; omega)
  obtain ⟨_, h2⟩ := Array.getElem?_eq_some_iff.1 h1
  rw [h2]
  rfl
/-- What the walk of the table keeps after k places. -/
def Part (w wr : World) (Z A : Array Value) (k : Nat) : Prop :=
  wr.heap[w.heap.size]? = some (.cells Z 59 (0, 0)) ∧ wr.heap[w.heap.size + 1]? = some (.cells A 59 (0, 0)) ∧ A.size = 256 ∧ (∀ j : Nat, j < k → A[j]? = some (.int .u32 (shn 8 j : Nat))) ∧ Below w.heap.size w wr
theorem Part.start (w : World) (Z : Array Value) (h : Z.size = 256) : Part w ((w.alloc (.cells Z 59)).alloc (.cells Z 59)) Z Z 0 :=
  ⟨heap_alloc2_old w _ _, heap_alloc2_new w _ _, h, fun j hj => absurd hj (by omega), ((Below.refl _ w).alloc (Nat.le_refl _) _).alloc (by simp) _⟩
theorem Part.cell {w wr : World} {Z A : Array Value} {k : Nat} (h : Part w wr Z A k) (hk : k < 256) : ∃ u, wr.cell? ⟨w.heap.size + 1, k, none⟩ = some u := by
  rw [cell_of_row _ _ _ _ _ _ h.2.1]
  exact ⟨_, Array.getElem?_eq_getElem (by have := h.2.2.1; omega)⟩
theorem Part.step {w wr : World} {Z A : Array Value} {k : Nat} (h : Part w wr Z A k) (hk : k < 256) : Part w (wr.setCell ⟨w.heap.size + 1, k, none⟩ (.int .u32 (shn 8 k : Nat))) Z (A.setIfInBounds k (.int .u32 (shn 8 k : Nat))) (k + 1) := by
  obtain ⟨h0, h1, h2, h3, hb⟩ := h
  refine ⟨(heap_setCell_other wr _ _ _ (by simp)).trans h0, heap_setCell_same wr _ _ _ _ _ h1, by simp [h2], fun j hj => ?_, hb.setCell (p := ⟨w.heap.size + 1, k, none⟩) (by simp) _⟩
  by_cases hjk : j = k
  · subst hjk
    rw [Array.getElem?_setIfInBounds, if_pos rfl, if_pos (by omega)]
  · rw [Array.getElem?_setIfInBounds, if_neg (fun e => hjk e.symm)]
    exact h3 j (by omega)
theorem Part.done {w wr : World} {Z A : Array Value} (h : Part w wr Z A 256) : IsTab A := ⟨h.2.2.1, h.2.2.2.1⟩

theorem below_setRow {B : Nat} {a w : World} (h : Below B a w) {g : Nat} (hg : B ≤ g) (cs : Array Value) : Below B a (w.setRow g cs) :=
  ⟨h.os, h.tape, h.output, by have := h.size; simp [World.setRow]; exact this, fun k hk => (setRow_other w g k cs (by omega)).trans (h.block k hk)⟩

set_option maxHeartbeats 2000000 in
set_option maxRecDepth 100000 in
theorem singles_any (w : World) :
    Calls Try.prog 33 #[] w fun e w' => ∃ A : Array Value, e = .returned (.agg A) ∧ IsTab A ∧ Below w.heap.size w w' := by
  obtain ⟨Z, hz⟩ : ∃ Z, zero256 = Z := ⟨_, rfl⟩
  have hzr := zero_run
  have hzs := zero256_size
  rw [hz] at hzr hzs
  have HZS := hid hzs
  clear hz hzs
  go_enter Try.func33, Try.ntmps33
  go_wp2
  go_loopw [5] (fun i wr => ∃ (k : Nat) (A : Array Value), k ≤ 256 ∧ i = .int .i64 (k : Int) ∧ Hid (Part w wr Z A k)) (fun i _ => 256 - (intOf i).toNat)
  case atStart => exact ⟨0, Z, by omega, rfl, hid (Part.start w Z HZS.out)⟩
  case round =>
    clear hzr
    obtain ⟨k, A, hk, rfl, HP⟩ := hrel
    by_cases hlt : k < 256
    · obtain ⟨u, hu⟩ := HP.out.cell hlt
      have hf := frozen_of_row _ _ k _ _ HP.out.2.1
      obtain ⟨wo, rfl⟩ : ∃ wo : World, wo = wr := ⟨_, rfl⟩
      go_wp2
      go_loop [3, 10] (fun r i => ∃ m y : Nat, m ≤ 8 ∧ i = .int .i64 (m : Int) ∧ r = .int .u32 (y : Int) ∧ Hid (y < 4294967296 ∧ shn (8 - m) y = shn 8 k)) (fun _ i => 8 - (intOf i).toNat)
      case atStart => exact ⟨0, k, by omega, rfl, rfl, hid ⟨by omega, rfl⟩⟩
      case round =>
        clear hu hf
        obtain ⟨m, y, hm, rfl, rfl, HY⟩ := hrel
        have hyl := HY.out.1
        by_cases hlm : m < 8
        · have HN : Hid (shn (8 - (m + 1)) (sh1 y) = shn 8 k) := hid (by
            have h := HY.out.2
            rw [show 8 - m = (8 - (m + 1)) + 1 by omega, shn] at h
            exact h)
          have h1l := sh1_lt hyl
          have hand : bits .and .u32 (y : Int) 1 = ((y % 2 : Nat) : Int) := by
            have h := u32_and_nat y 1 hyl (by decide)
            rw [nat_mask1] at h
            exact h
          by_cases hodd : y % 2 = 1
          · have HO := hid (sh1_odd hodd)
            rw [hodd] at hand
            have hxr : bits .xor .u32 ((y : Int) / 2) 2197175160 = ((sh1 y : Nat) : Int) := by
              have h := u32_xor_nat (y / 2) 2197175160 (by omega) (by decide)
              rw [HO.out] at h
              exact h
            clear hodd
            go_wp2
            go_round
            case rel => exact ⟨m + 1, sh1 y, by omega, by go_num, rfl, hid ⟨h1l, HN.out⟩⟩
            case measure => simp [intOf]; omega
          · have HO := hid (sh1_even hodd)
            rw [show y % 2 = 0 by omega] at hand
            clear hodd
            go_wp2
            go_round
            case rel => exact ⟨m + 1, sh1 y, by omega, by go_num, u32_eq (by rw [← HO.out]; omega), hid ⟨h1l, HN.out⟩⟩
            case measure => simp [intOf]; omega
        · obtain rfl : m = 8 := by omega
          obtain ⟨u, hu⟩ := HP.out.cell hlt
          have hf := frozen_of_row _ _ k _ _ HP.out.2.1
          go_wp2
          go_roundw
          case rel => exact ⟨k + 1, A.setIfInBounds k (.int .u32 (shn 8 k : Nat)), by omega, by go_num, hid (by
            have e : y = shn 8 k := HY.out.2
            rw [e]
            exact HP.out.step hlt)⟩
          case measure => simp [intOf]; omega
    · obtain rfl : k = 256 := by omega
      have HT := hid HP.out.done
      obtain ⟨HB0, HB1, _, _, hb⟩ := HP.out
      replace HB0 := hid HB0
      replace HB1 := hid HB1
      have HB := hid hb
      clear hb
      go_wp2_with (first | (refine wpList_load_row rfl 59 (.tmp 1) rfl (w.heap.size + 1) rfl 59 A (0, 0) _ HB1.out Try.underlying59 rfl (by rw [HT.out.1]; exact size59) ?_) | (refine wpList_store_row rfl 59 (.tmp 0) (.tmp 25) rfl w.heap.size A rfl rfl 59 Z HB0.out (by rw [HT.out.1]; exact size59) (by rw [HT.out.1]; exact HZS.out) HT.out.one ?_))
      refine bodyPost_ret (results_cell_row rfl _ _ w.heap.size 59 A (0, 0) _ rfl (setRow_heap wr _ Z A 59 (0, 0) HB0.out) Try.underlying59 rfl (by rw [HT.out.1]; exact size59)) rfl ?_
      exact ⟨A, rfl, HT.out, below_setRow HB.out (Nat.le_refl _) A⟩
end Go.Proofs.Ytgkcdmbhniipdaa
