/- The reference's register, Update, Sum and Combine. -/
import Derived.Test.YtgkcdmbhniipdaaB
import Derived.WalkKit
import Derived.LoopTactic
import Derived.Laws.BitsAllLaws
import Derived.Deep.QuietTactic
import Derived.BigQuiet
import Derived.RegionTactic
import Derived.Below
import Derived.Lib.Hide
import Derived.Deep.Draws
namespace Go.Proofs.Ytgkcdmbhniipdaa
open Go.RowKit Go.Lib

theorem ret_int {k : IntKind} {a b : Int} (h : a = b) : Ending.returned (.int k a) = .returned (.int k b) := by rw [h]
theorem u32_eq {a b : Int} (h : a = b) : Value.int .u32 a = .int .u32 b := by rw [h]
theorem sh1_odd {r : Nat} (h : r % 2 = 1) : (r / 2) ^^^ 2197175160 = sh1 r := by unfold sh1; rw [if_pos h]; rfl
theorem sh1_even {r : Nat} (h : ¬ r % 2 = 1) : r / 2 = sh1 r := by unfold sh1; rw [if_neg h]

set_option maxHeartbeats 2000000 in
theorem register_any (r b : Nat) (w : World) (hr : r < 4294967296) (hb : b < 256) :
    Calls Try.prog 27 #[.int .u32 (r : Int), .int .u8 (b : Int)] w fun e w' => e = .returned (.int .u32 (stepC r b : Nat)) ∧ w = w' := by
  have hx := u32_xor_nat r b hr (by omega)
  obtain ⟨x, hxx⟩ : ∃ x, r ^^^ b = x := ⟨_, rfl⟩
  have hxl : x < 4294967296 := by rw [← hxx]; exact Nat.xor_lt_two_pow (n := 32) hr (show b < 2 ^ 32 by omega)
  have HS : Hid (stepC r b = shn 8 x) := hid (by unfold stepC; rw [hxx])
  rw [hxx] at hx
  clear hxx
  go_enter Try.func27, Try.ntmps27
  go_wp2
  go_loop [0, 5] (fun r' i => ∃ k y : Nat, k ≤ 8 ∧ i = .int .i64 (k : Int) ∧ r' = .int .u32 (y : Int) ∧ Hid (y < 4294967296 ∧ shn (8 - k) y = shn 8 x)) (fun _ i => 8 - (intOf i).toNat)
  case atStart => exact ⟨0, x, by omega, rfl, rfl, hid ⟨hxl, rfl⟩⟩
  case round =>
    clear hx
    obtain ⟨k, y, hk, rfl, rfl, HY⟩ := hrel
    have hyl := HY.out.1
    by_cases hlt : k < 8
    · have HN : Hid (shn (8 - (k + 1)) (sh1 y) = shn 8 x) := hid (by
        have h := HY.out.2
        rw [show 8 - k = (8 - (k + 1)) + 1 by omega, shn] at h
        exact h)
      have h1l := sh1_lt hyl
      by_cases hodd : y % 2 = 1
      · have HO := hid (sh1_odd hodd)
        have hd : ((y : Int) % 2 == 1) = true := by simp; omega
        have hxr : bits .xor .u32 ((y : Int) / 2) 2197175160 = ((sh1 y : Nat) : Int) := by
          have h := u32_xor_nat (y / 2) 2197175160 (by omega) (by decide)
          rw [HO.out] at h
          exact h
        clear hodd
        go_wp2
        go_round
        case rel => exact ⟨k + 1, sh1 y, by omega, by go_num, rfl, hid ⟨h1l, HN.out⟩⟩
        case measure => simp [intOf]; omega
      · have HO := hid (sh1_even hodd)
        have hd : ((y : Int) % 2 == 1) = false := by simp; omega
        clear hodd
        go_wp2
        go_round
        case rel => exact ⟨k + 1, sh1 y, by omega, by go_num, u32_eq (by rw [← HO.out]; omega), hid ⟨h1l, HN.out⟩⟩
        case measure => simp [intOf]; omega
    · obtain rfl : k = 8 := by omega
      go_wp2
      go_ret
      exact ⟨by rw [HS.out, ← HY.out.2]; rfl, rfl⟩
end Go.Proofs.Ytgkcdmbhniipdaa
