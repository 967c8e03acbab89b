/- Superblock: few 14. -/
import Derived.Test.YtnocgfhcamnjdaaAh
namespace Go.Proofs.Ytnocgfhcamnjdaa
open Go.RowKit Go.Lib

set_option maxHeartbeats 2000000 in
set_option maxRecDepth 100000 in
theorem few_any (st : List Sect) (ca : List Ca) (sv cv : Value) (w : World) (hs : Sec w sv st) (hc : Cas w cv ca) :
    Calls Try.prog 14 #[.agg #[sv, cv]] w fun e w' => e = .returned (.bool (decide (st.length ≤ 80 ∧ ca.length ≤ 80))) ∧ Below w.heap.size w w' := by
  obtain ⟨A, c, rfl⟩ := sec_form hs
  obtain ⟨B, d, rfl⟩ := cas_form hc
  obtain ⟨n, hn⟩ : ∃ n, st.length = n := ⟨_, rfl⟩
  obtain ⟨m, hm⟩ : ∃ n, ca.length = n := ⟨_, rfl⟩
  rw [hn, hm]
  obtain ⟨bo, hbo⟩ : ∃ b, decide (n ≤ 80 ∧ m ≤ 80) = b := ⟨_, rfl⟩
  rw [hbo]
  have HBO := hid hbo
  clear hs hc hn hm hbo
  obtain ⟨g, hg⟩ : ∃ g, w.heap.size = g := ⟨_, rfl⟩
  obtain ⟨W1, hW1⟩ : ∃ X, w.alloc (.cells #[.slice A n c, .slice B m d] 35) = X := ⟨_, rfl⟩
  have hb1 : Below w.heap.size w W1 := by rw [← hW1]; exact al1 _ _
  have hx1 : W1.heap[g]? = some (.cells #[.slice A n c, .slice B m d] 35) := by rw [← hW1, ← hg]; exact heap_alloc_new _ _
  have x0 := cell_of_row _ _ 0 _ _ _ hx1
  have x1 := cell_of_row _ _ 1 _ _ _ hx1
  have HB1 := hid hb1
  have HW1 := hid hW1
  have HG := hid hg
  clear hb1 hx1 hW1 hg
  by_cases h1 : n ≤ 80
  · have d1 : decide ((n : Int) ≤ 80) = true := decide_eq_true (by omega)
    by_cases h2 : m ≤ 80
    · have d2 : decide ((m : Int) ≤ 80) = true := decide_eq_true (by omega)
      obtain rfl : bo = true := by rw [← HBO.out]; exact decide_eq_true ⟨h1, h2⟩
      go_enter Try.func14, Try.ntmps14
      go_upto_region 1 with fail
      rw [HW1.out, HG.out]
      go_wp2_with fail
      go_ret
      exact ⟨rfl, HB1.out⟩
    · have d2 : decide ((m : Int) ≤ 80) = false := decide_eq_false (by omega)
      obtain rfl : bo = false := by rw [← HBO.out]; exact decide_eq_false (fun h => h2 h.2)
      go_enter Try.func14, Try.ntmps14
      go_upto_region 1 with fail
      rw [HW1.out, HG.out]
      go_wp2_with fail
      go_ret
      exact ⟨rfl, HB1.out⟩
  · have d1 : decide ((n : Int) ≤ 80) = false := decide_eq_false (by omega)
    obtain rfl : bo = false := by rw [← HBO.out]; exact decide_eq_false (fun h => h1 h.1)
    go_enter Try.func14, Try.ntmps14
    go_upto_region 1 with fail
    rw [HW1.out, HG.out]
    go_wp2_with fail
    go_ret
    exact ⟨rfl, HB1.out⟩
end Go.Proofs.Ytnocgfhcamnjdaa
