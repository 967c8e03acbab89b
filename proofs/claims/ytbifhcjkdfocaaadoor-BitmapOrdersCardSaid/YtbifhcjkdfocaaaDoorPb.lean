/- few. -/
import Derived.Test.YtbifhcjkdfocaaaDoorC
import Derived.LoopTactic
namespace Go.Proofs.YtbifhcjkdfocaaaDoor
open Go.RowKit

set_option maxHeartbeats 1000000 in
theorem few_1 (g n c : Nat) (s : Int) (A : Option Addr) (w : World) (hg : w.heap[g]? = some (.cells #[.int .i64 s, .slice A n c] 24 (0, 0))) (hn : n ≤ 9223372036854775807) :
    Calls Tryd.prog 11 #[.slice (some ⟨g, 0, none⟩) 1 1] w fun e w' => e = .returned (.bool (decide (n ≤ 20))) ∧ w = w' := by
  have x1 := cell_of_row _ _ 1 _ _ _ hg
  clear hg
  by_cases h : n ≤ 20
  · go_enter Tryd.func11, Tryd.ntmps11
    go_wp2
    go_loop [3] (fun i => i = .int .i64 0 ∨ i = .int .i64 1) (fun i => 1 - (intOf i).toNat)
    case atStart => exact .inl rfl
    case round =>
      rcases hrel with rfl | rfl
      · go_wp2
        go_round
        case rel => exact .inr rfl
        case measure => simp [intOf]
      · go_wp2
        go_ret
        exact ⟨rfl, rfl⟩
  · go_enter Tryd.func11, Tryd.ntmps11
    go_wp2
    go_loop [3] (fun i => i = .int .i64 0) (fun i => 1 - (intOf i).toNat)
    case atStart => rfl
    case round =>
      subst hrel
      go_wp2
      go_ret
      exact ⟨rfl, rfl⟩

set_option maxHeartbeats 1000000 in
theorem few_2 (g n c n' c' : Nat) (s s' : Int) (A A' : Option Addr) (w : World) (hg : w.heap[g]? = some (.cells #[.int .i64 s, .slice A n c, .int .i64 s', .slice A' n' c'] 24 (0, 0))) (hn : n ≤ 9223372036854775807) (hn' : n' ≤ 9223372036854775807) :
    Calls Tryd.prog 11 #[.slice (some ⟨g, 0, none⟩) 2 2] w fun e w' => e = .returned (.bool (decide (n ≤ 20 ∧ n' ≤ 20))) ∧ w = w' := by
  have x1 := cell_of_row _ _ 1 _ _ _ hg
  have x3 := cell_of_row _ _ 3 _ _ _ hg
  clear hg
  by_cases h : n ≤ 20
  · by_cases h' : n' ≤ 20
    · go_enter Tryd.func11, Tryd.ntmps11
      go_wp2
      go_loop [3] (fun i => i = .int .i64 0 ∨ i = .int .i64 1 ∨ i = .int .i64 2) (fun i => 2 - (intOf i).toNat)
      case atStart => exact .inl rfl
      case round =>
        rcases hrel with rfl | rfl | rfl
        · go_wp2
          go_round
          case rel => exact .inr (.inl rfl)
          case measure => simp [intOf]
        · go_wp2
          go_round
          case rel => exact .inr (.inr rfl)
          case measure => simp [intOf]
        · go_wp2
          go_ret
          exact ⟨rfl, rfl⟩
    · go_enter Tryd.func11, Tryd.ntmps11
      go_wp2
      go_loop [3] (fun i => i = .int .i64 0 ∨ i = .int .i64 1) (fun i => 2 - (intOf i).toNat)
      case atStart => exact .inl rfl
      case round =>
        rcases hrel with rfl | rfl
        · go_wp2
          go_round
          case rel => exact .inr rfl
          case measure => simp [intOf]
        · go_wp2
          go_ret
          exact ⟨rfl, rfl⟩
  · go_enter Tryd.func11, Tryd.ntmps11
    go_wp2
    go_loop [3] (fun i => i = .int .i64 0) (fun i => 2 - (intOf i).toNat)
    case atStart => rfl
    case round =>
      subst hrel
      go_wp2
      go_ret
      exact ⟨rfl, rfl⟩
end Go.Proofs.YtbifhcjkdfocaaaDoor
