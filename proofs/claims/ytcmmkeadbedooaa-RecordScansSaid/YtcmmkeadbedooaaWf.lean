/- The law RecordScans. -/
import Derived.Test.YtcmmkeadbedooaaYb
import Derived.Test.YtcmmkeadbedooaaYc
namespace Go.Proofs.Ytcmmkeadbedooaa
open Go.RowKit Go.Lib

theorem i64_r64 {x : Int} (h : (Lit.int .i64 x).wf = true) : R64 x := by
  have hb := bounds_i64 h
  unfold R64
  omega

set_option maxHeartbeats 4000000 in
set_option maxRecDepth 100000 in
theorem scans_walk (l : List Sect) (q : Int) (v : Value) (w : World) (hv : Sec w v l) (hq : (Lit.int .i64 q).wf = true) :
    Calls Try.prog 6 #[v, .int .i64 q] w fun e w' => e = .returned (.bool true) ∧ Below w.heap.size w w' := by
  have hq64 := i64_r64 hq
  obtain ⟨A, c, rfl⟩ := sec_form hv
  obtain ⟨L, hL⟩ : ∃ L, l.length = L := ⟨_, rfl⟩
  have HV := hid hv
  have HLL := hid hL
  have HQ := hid hq64
  rw [hL] at HV ⊢
  clear hv hL hq64 hq
  by_cases h1 : 300 < L
  · have d1 : decide ((300 : Int) < (L : Int)) = true := decide_eq_true (by omega)
    go_enter Try.func6, Try.ntmps6
    go_wp2_with fail
    refine (awake_any w).mono ?_
    rintro e w2 ⟨rfl, hb2⟩
    go_wp2
    go_ret
    exact ⟨rfl, hb2⟩
  have d1 : decide ((300 : Int) < (L : Int)) = false := decide_eq_false (by omega)
  have HD1 := hid (scan_any l _ q w HV.out (by rw [HLL.out]; omega) HQ.out)
  obtain ⟨N, hN⟩ : ∃ N, (scan l q).2 = N := ⟨_, rfl⟩
  have HNN := hid hN
  clear hN
  go_enter Try.func6, Try.ntmps6
  go_wp2_with fail
  refine HD1.out.mono ?_
  rintro e w2 ⟨v2, vs2, rfl, ho2, hc2, hp2, hb2⟩
  rw [HNN.out]
  obtain ⟨A2, c2, rfl⟩ := own_form27 ho2
  have HR2 := hid (rl_of_own ho2 hp2)
  have HC2 := hid hc2
  have HB2 := hid hb2
  have HD2 := hid (rscan_any l _ q w2 (HV.out.below hb2) (by rw [HLL.out]; omega) HQ.out)
  obtain ⟨n2, hn2⟩ : ∃ n2, vs2.length = n2 := ⟨_, rfl⟩
  rw [hn2] at HR2 ⊢
  clear ho2 hc2 hp2 hb2 HD1 hn2
  go_wp2_with fail
  refine HD2.out.mono ?_
  rintro e w3 ⟨v3, vs3, rfl, ho3, hc3, hp3, hb3⟩
  rw [HNN.out]
  obtain ⟨A3, c3, rfl⟩ := own_form27 ho3
  have HR3 := hid (rl_of_own ho3 hp3)
  have HR2' := hid (HR2.out.below hb3)
  have HC3 := hid hc3
  have HB3 := hid (HB2.out.trans (hb3.mono HB2.out.size))
  obtain ⟨n3, hn3⟩ : ∃ n3, vs3.length = n3 := ⟨_, rfl⟩
  rw [hn3] at HR3 ⊢
  clear ho3 hc3 hp3 hb3 HD2 hn3
  go_wp2_with fail
  refine (awake_any w3).mono ?_
  rintro e w4 ⟨rfl, hb4⟩
  have hsl := sameList_any vs2 vs3 _ _ w4 (HR2'.out.below hb4) (HR3.out.below hb4)
  rw [decide_eq_true (HC2.out.trans HC3.out.symm)] at hsl
  have HSL := hid hsl
  have HB4 := hid (HB3.out.trans (hb4.mono HB3.out.size))
  have dnn : ((N : Int) == (N : Int)) = true := by simp
  clear hsl hb4
  go_wp2_with fail
  refine HSL.out.mono ?_
  rintro e w5 ⟨rfl, hb5⟩
  have HB5 := hid (HB4.out.trans (hb5.mono HB4.out.size))
  clear hb5
  go_wp2
  go_ret
  exact ⟨rfl, HB5.out⟩
end Go.Proofs.Ytcmmkeadbedooaa
