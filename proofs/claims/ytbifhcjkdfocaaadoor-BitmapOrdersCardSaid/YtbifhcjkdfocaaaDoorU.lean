/- The reference's Fits. -/
import Derived.Test.YtbifhcjkdfocaaaDoorT
import Derived.Test.YtbifhcjkdfocaaaDoorM
import Derived.Test.YtbifhcjkdfocaaaDoorF
namespace Go.Proofs.YtbifhcjkdfocaaaDoor
open Go.RowKit

theorem fitsB_start {s n size : Int} (h : fitsB s n size = true) : s ≤ size := by
  unfold fitsB at h
  have := of_decide_eq_true h
  omega
set_option maxHeartbeats 2000000 in
theorem refFits_any (s n size : Int) (w : World) (hs : R64 s) (hn : R64 n) (h0 : 0 ≤ size) (h1 : size ≤ 4096) :
    Calls Tryd.prog 56 #[.agg #[.int .i64 s, .int .i64 n], .int .i64 size] w fun e w' => e = .returned (.bool (fitsB s n size)) ∧ Below w.heap.size w w' := by
  obtain ⟨hs1, hs2⟩ := hs
  obtain ⟨hn1, hn2⟩ := hn
  by_cases ha : 0 ≤ s
  · by_cases hb : 0 ≤ n
    · by_cases hd : s ≤ size
      · by_cases hc : n ≤ size - s
        · have hf : fitsB s n size = true := by simp [fitsB]; omega
          rw [hf]
          clear hf
          go_enter Tryd.func56, Tryd.ntmps56
          go_wp2
          refine bodyPost_ret (results_tmp rfl _ _ _) rfl ?_
          exact ⟨rfl, (Below.refl _ _).alloc (Nat.le_refl _) _⟩
        · have hf : fitsB s n size = false := by simp [fitsB]; omega
          rw [hf]
          clear hf
          go_enter Tryd.func56, Tryd.ntmps56
          go_wp2
          refine bodyPost_ret (results_tmp rfl _ _ _) rfl ?_
          exact ⟨rfl, (Below.refl _ _).alloc (Nat.le_refl _) _⟩
      · have hf : fitsB s n size = false := by simp [fitsB]; omega
        rw [hf]
        clear hf
        go_enter Tryd.func56, Tryd.ntmps56
        go_wp2
        refine bodyPost_ret (results_tmp rfl _ _ _) rfl ?_
        exact ⟨rfl, (Below.refl _ _).alloc (Nat.le_refl _) _⟩
    · have hf : fitsB s n size = false := by simp [fitsB]; omega
      rw [hf]
      clear hf
      have hb' : ¬ n ≥ 0 := hb
      go_enter Tryd.func56, Tryd.ntmps56
      go_wp2
      refine bodyPost_ret (results_tmp rfl _ _ _) rfl ?_
      exact ⟨rfl, (Below.refl _ _).alloc (Nat.le_refl _) _⟩
  · have hf : fitsB s n size = false := by simp [fitsB]; omega
    rw [hf]
    clear hf
    have ha' : ¬ s ≥ 0 := ha
    go_enter Tryd.func56, Tryd.ntmps56
    go_wp2
    refine bodyPost_ret (results_tmp rfl _ _ _) rfl ?_
    exact ⟨rfl, (Below.refl _ _).alloc (Nat.le_refl _) _⟩

end Go.Proofs.YtbifhcjkdfocaaaDoor
