/- The laws ChecksumSums, ChecksumUpdates and ChecksumCombines are walked. -/
import Derived.Test.YtgkcdmbhniipdaaJ
namespace Go.Proofs.Ytgkcdmbhniipdaa
open Go.RowKit Go.Lib

set_option maxHeartbeats 2000000 in
theorem sums_walk (l : List Nat) (v : Value) (w : World) (hv : Byt w v l) :
    Calls Try.prog 3 #[v] w fun e w' => e = .returned (.bool true) ∧ Below w.heap.size w w' := by
  have hl := byt_len hv
  have HV := hid hv
  obtain ⟨A, cap, rfl⟩ := byt_form hv
  clear hv
  by_cases hk : l.length ≤ 5000
  · go_enter Try.func3, Try.ntmps3
    go_wp2_with fail
    refine (awake_any _).mono ?_
    rintro e w1 ⟨rfl, hb⟩
    have HV1 := hid (HV.out.below hb)
    have HB := hid hb
    clear hb
    go_wp2_with fail
    refine (sum_any l _ _ HV1.out).mono ?_
    rintro e w2 ⟨rfl, hb⟩
    have HV2 := hid (HV1.out.below hb)
    replace HB := hid (below_both HB.out hb)
    clear hb
    go_wp2_with fail
    refine (rsum_any l _ _ HV2.out).mono ?_
    rintro e w3 ⟨rfl, rfl⟩
    go_wp2
    go_ret
    exact ⟨rfl, HB.out⟩
  · go_enter Try.func3, Try.ntmps3
    go_wp2_with fail
    refine (awake_any _).mono ?_
    rintro e w1 ⟨rfl, hb⟩
    have HB := hid hb
    clear hb
    go_wp2
    go_ret
    exact ⟨rfl, HB.out⟩

set_option maxHeartbeats 2000000 in
theorem updates_walk (s : Nat) (l : List Nat) (v : Value) (w : World) (hv : Byt w v l) (hs : s < 4294967296) :
    Calls Try.prog 4 #[.int .u32 (s : Int), v] w fun e w' => e = .returned (.bool true) ∧ Below w.heap.size w w' := by
  have hl := byt_len hv
  have HV := hid hv
  obtain ⟨A, cap, rfl⟩ := byt_form hv
  clear hv
  by_cases hk : l.length ≤ 5000
  · go_enter Try.func4, Try.ntmps4
    go_wp2_with fail
    refine (awake_any _).mono ?_
    rintro e w1 ⟨rfl, hb⟩
    have HV1 := hid (HV.out.below hb)
    have HB := hid hb
    clear hb
    go_wp2_with fail
    refine (update_any s l _ _ HV1.out hs).mono ?_
    rintro e w2 ⟨rfl, hb⟩
    have HV2 := hid (HV1.out.below hb)
    replace HB := hid (below_both HB.out hb)
    clear hb
    go_wp2_with fail
    refine (rupdate_any s l _ _ HV2.out hs).mono ?_
    rintro e w3 ⟨rfl, rfl⟩
    go_wp2
    go_ret
    exact ⟨rfl, HB.out⟩
  · go_enter Try.func4, Try.ntmps4
    go_wp2_with fail
    refine (awake_any _).mono ?_
    rintro e w1 ⟨rfl, hb⟩
    have HB := hid hb
    clear hb
    go_wp2
    go_ret
    exact ⟨rfl, HB.out⟩

set_option maxHeartbeats 2000000 in
theorem combines_walk (a b : Nat) (n : Int) (w : World) (ha : a < 4294967296) (hb : b < 4294967296) (hn0 : -9223372036854775808 ≤ n) (hn1 : n ≤ 9223372036854775807) :
    Calls Try.prog 5 #[.int .u32 (a : Int), .int .u32 (b : Int), .int .i64 n] w fun e w' => e = .returned (.bool true) ∧ Below w.heap.size w w' := by
  have HC := hid (fun w0 : World => combine_any a b n w0 ha hb hn0 hn1)
  have HR := hid (fun w0 : World => rcombine_any a b n w0 ha hb hn0 hn1)
  by_cases h1 : n ≤ 5000
  · go_enter Try.func5, Try.ntmps5
    go_wp2_with fail
    refine (awake_any _).mono ?_
    rintro e w1 ⟨rfl, hb⟩
    have HB := hid hb
    clear hb
    go_wp2_with fail
    refine (HC.out _).mono ?_
    rintro e w2 ⟨rfl, hb⟩
    replace HB := hid (below_both HB.out hb)
    clear hb
    go_wp2_with fail
    refine (HR.out _).mono ?_
    rintro e w3 ⟨rfl, rfl⟩
    go_wp2
    go_ret
    exact ⟨rfl, HB.out⟩
  · by_cases h2 : n ≤ 65536
    · go_enter Try.func5, Try.ntmps5
      go_wp2_with fail
      refine (awake_any _).mono ?_
      rintro e w1 ⟨rfl, hb⟩
      have HB := hid hb
      clear hb
      go_wp2
      go_ret
      exact ⟨rfl, HB.out⟩
    · go_enter Try.func5, Try.ntmps5
      go_wp2_with fail
      refine (awake_any _).mono ?_
      rintro e w1 ⟨rfl, hb⟩
      have HB := hid hb
      clear hb
      go_wp2_with fail
      refine (HC.out _).mono ?_
      rintro e w2 ⟨rfl, hb⟩
      replace HB := hid (below_both HB.out hb)
      clear hb
      go_wp2_with fail
      refine (HR.out _).mono ?_
      rintro e w3 ⟨rfl, rfl⟩
      go_wp2
      go_ret
      exact ⟨rfl, HB.out⟩
end Go.Proofs.Ytgkcdmbhniipdaa
