/- Contracts of the small functions of the seat. -/
import Derived.Test.YtoefbgkeinhibaaRows
import Derived.Test.YtoefbgkeinhibaaXN
import Derived.WalkKit
import Derived.WalkSpells
import Derived.WalkLawsBesides
import Derived.BigQuiet
import Derived.BigRegion
import Derived.Deep.QuietTactic
import Derived.Outline
namespace Go.Proofs.Ytoefbgkeinhibaa.Xt
open Go.RowKit

abbrev i64v (x : Int) : Value := .int .i64 x
abbrev extv (e : Int × Int) : Value := .agg #[.int .i64 e.1, .int .i64 e.2]
def R64 (x : Int) : Prop := -9223372036854775808 ≤ x ∧ x ≤ 9223372036854775807

def fitsB (s n size : Int) : Bool := decide (0 ≤ s ∧ n ≤ size - s)


theorem hid {p : Prop} (h : p) : Hid p := h
theorem below_box {w w' : World} (h : w' = w) : Below w.heap.size w w' := by subst h; exact Below.refl _ _

theorem ret_two {a b c d : Int} (h : a = b) (h' : c = d) : Ending.returned (.tuple #[.int .i64 a, .int .i64 c]) = .returned (.tuple #[.int .i64 b, .int .i64 d]) := by rw [h, h']

set_option maxHeartbeats 400000 in
theorem clip_any (s n : Int) (w : World) (hs : R64 s) (hn : R64 n) :
    Calls Try.prog 58 #[.agg #[.int .i64 s, .int .i64 n]] w fun e w' => e = .returned (.tuple #[.int .i64 (clipF s n), .int .i64 (clipE s n)]) ∧ Below w.heap.size w w' := by
  obtain ⟨hs1, hs2⟩ := hs
  obtain ⟨hn1, hn2⟩ := hn
  by_cases h : n ≤ 0
  · have hb : clipF s n = 0 := by simp [clipF, h]
    have hc : clipE s n = 0 := by simp [clipE, h]
    rw [hb, hc]
    clear hb hc
    go_enter Try.func58, Try.ntmps58
    go_wp2
    go_ret2
    exact ⟨rfl, (Below.refl _ _).alloc (Nat.le_refl _) _⟩
  · by_cases h2 : s ≥ 4096
    · have hb : clipF s n = 0 := by simp [clipF, h2]
      have hc : clipE s n = 0 := by simp [clipE, h2]
      rw [hb, hc]
      clear hb hc
      go_enter Try.func58, Try.ntmps58
      go_wp2
      go_ret2
      exact ⟨rfl, (Below.refl _ _).alloc (Nat.le_refl _) _⟩
    · by_cases h3 : s < 0
      · have hb : clipF s n = 0 := by simp [clipF, h3]
        have hc : clipE s n = max 0 (min (s + n) 4096) := by simp [clipE, h, h2, h3]
        rw [hb, hc]
        clear hb hc
        go_enter Try.func58, Try.ntmps58
        go_wp2
        go_region
        all_goals go_wp2
        all_goals go_ret2
        all_goals exact ⟨ret_two rfl (by simp only [Int.max_def, Int.min_def]; (repeat' split) <;> omega), ((Below.refl _ _).alloc (Nat.le_refl _) _).drew⟩
      · have hb : clipF s n = s := by simp [clipF, h, h2, h3]
        have hc : clipE s n = s + min n (4096 - s) := by simp [clipE, h, h2, h3]
        rw [hb, hc]
        clear hb hc
        go_enter Try.func58, Try.ntmps58
        go_wp2
        go_region
        all_goals go_wp2
        all_goals go_ret2
        all_goals exact ⟨ret_two rfl (by simp only [Int.min_def]; (repeat' split) <;> omega), ((Below.refl _ _).alloc (Nat.le_refl _) _).drew⟩
end Go.Proofs.Ytoefbgkeinhibaa.Xt
