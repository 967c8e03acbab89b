/- awake. -/
import Derived.Test.YtgkcdmbhniipdaaI
import Derived.Lib.SlBytesConst
namespace Go.Proofs.Ytgkcdmbhniipdaa
open Go.RowKit Go.Lib Go.Shelf

theorem byt_new (w : World) (l : List Nat) (fr : Nat × Nat) (h8 : B8 l) (hl : l.length ≤ maxLen) : Byt (w.alloc (.cells (l.map fun (x : Nat) => Value.int .u8 (x : Int)).toArray 5 fr)) (.slice (some ⟨w.heap.size, 0, none⟩) l.length l.length) l := by
  refine ⟨h8, some ⟨w.heap.size, 0, none⟩, l.length, rfl, Nat.le_refl _, hl, w.heap.size, 0, fun _ => ⟨rfl, by simp⟩, fun i x hx => ?_⟩
  rw [Nat.zero_add, cell_of_row _ _ _ _ _ _ (heap_alloc_new _ _)]
  simp [hx]
def digits9 : List Nat := [49, 50, 51, 52, 53, 54, 55, 56, 57]
theorem sum_digits : sum0 digits9 = 3808858755 := by decide +kernel
theorem sum_empty : sum0 [] = 0 := by decide +kernel
theorem comb_ex : combS 1383945041 0 0 = 1383945041 := by decide +kernel
theorem dig_empty : dig [] = 14695981038468906945 := by decide +kernel
theorem dig_a : dig [97] = 12638187199001669824 := by decide +kernel

set_option maxHeartbeats 2000000 in
theorem awake_any (w : World) : Calls Try.prog 12 #[] w fun e w' => e = .returned (.bool true) ∧ Below w.heap.size w w' := by
  have HB9 := fun w0 : World => byt_new w0 digits9 (9, 10) (by unfold B8; decide) (by decide)
  have HB1 := fun w0 : World => byt_new w0 [97] (1, 2) (by unfold B8; decide) (by decide)
  have HC1 := hid (fun w0 : World => sum_any digits9 _ _ (HB9 w0))
  have HC2 := hid (fun w0 : World => sum_any [] _ w0 (byt_nil w0))
  have HC3 := hid (fun w0 : World => combine_any 1383945041 0 0 w0 (by decide) (by decide) (by decide) (by decide))
  have HC4 := hid (fun w0 : World => digestB_any [] _ w0 (byt_nil w0))
  have HC5 := hid (fun w0 : World => digestB_any [97] _ _ (HB1 w0))
  rw [sum_digits] at HC1
  rw [sum_empty] at HC2
  rw [comb_ex] at HC3
  rw [dig_empty] at HC4
  rw [dig_a] at HC5
  clear HB9 HB1
  have kc := fun (w : World) (C : Array Value) (n c : Nat) => Lib.run_convert_bytes_const (P := Try.prog) w 22 5 C n c Try.underlying22 Try.underlying5
  go_enter Try.func12, Try.ntmps12
  go_wp2_with fail
  refine (HC1.out _).mono ?_
  rintro e w1 ⟨rfl, hb⟩
  have HB := hid (al_back hb)
  clear hb
  go_wp2_with fail
  refine (HC2.out _).mono ?_
  rintro e w2 ⟨rfl, hb⟩
  replace HB := hid (below_both HB.out hb)
  clear hb
  go_wp2_with fail
  refine (HC3.out _).mono ?_
  rintro e w3 ⟨rfl, hb⟩
  replace HB := hid (below_both HB.out hb)
  clear hb
  go_wp2_with fail
  refine (HC4.out _).mono ?_
  rintro e w4 ⟨rfl, hb⟩
  replace HB := hid (below_both HB.out hb)
  clear hb
  go_wp2_with fail
  refine (HC5.out _).mono ?_
  rintro e w5 ⟨rfl, hb⟩
  replace HB := hid (below_both HB.out (al_back hb))
  clear hb
  go_wp2
  go_ret
  exact ⟨rfl, HB.out⟩
end Go.Proofs.Ytgkcdmbhniipdaa
