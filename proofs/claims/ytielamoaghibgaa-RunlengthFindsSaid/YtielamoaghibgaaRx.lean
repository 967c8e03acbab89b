/- The law RunlengthFinds: its walk. -/
import Derived.Test.YtielamoaghibgaaRw
namespace Go.Proofs.Ytielamoaghibgaa
open Go.RowKit Go.Lib

set_option maxHeartbeats 4000000 in
set_option maxRecDepth 100000 in
theorem finds_walk (l : List Sect) (v : Value) (w : World) (hv : Sec w v l) : Calls Try.prog 5 #[v] w (GoodB w) := by
  have HA := hid awake_any
  have HV := hid hv
  obtain ⟨A, c, rfl⟩ := sec_form hv
  obtain ⟨L, hL⟩ : ∃ L, l.length = L := ⟨_, rfl⟩
  have HL := hid hL
  rw [hL] at HV ⊢
  clear hv hL
  by_cases hbig : 300 < L
  · have d1 : decide ((300 : Int) < (L : Int)) = true := by simp; omega
    go_enter Try.func5, Try.ntmps5
    go_wp2_with fail
    refine (HA.out _).mono ?_
    rintro e w1 ⟨rfl, hb1⟩
    have HB1 := hid hb1
    clear hb1
    go_wp2
    go_ret
    exact ⟨rfl, HB1.out⟩
  · have d1 : decide ((300 : Int) < (L : Int)) = false := by simp; omega
    have HC := hid (runs_any l _ w HV.out (by have := HL.out; omega))
    go_enter Try.func5, Try.ntmps5
    go_wp2_with fail
    refine HC.out.mono ?_
    rintro e w2 ⟨v2, rfl, ho2, hb2⟩
    have HB2 := hid hb2
    have HO2 := hid ho2
    have HD := hid (refRuns_any l _ w2 (HV.out.below hb2) (by have := HL.out; omega))
    clear ho2 hb2 HC
    go_wp2_with fail
    refine HD.out.mono ?_
    rintro e w3 ⟨v3, rfl, ho3, hb3⟩
    have HB3 := hid (below_both HB2.out hb3)
    have HS := hid (same_any (rns 0 l) v2 v3 w3 ((arr_of_ext HO2.out).below hb3) (arr_of_ext ho3))
    clear ho3 hb3 HD HB2 HO2
    go_wp2_with fail
    refine HS.out.mono ?_
    rintro e w4 ⟨rfl, q, rfl⟩
    have HB4 := hid (below_drewN HB3.out q)
    clear HS HB3
    go_wp2_with fail
    refine (HA.out _).mono ?_
    rintro e w5 ⟨rfl, hb5⟩
    have HB5 := hid (below_both HB4.out hb5)
    clear hb5
    go_wp2
    go_ret
    exact ⟨rfl, HB5.out⟩
end Go.Proofs.Ytielamoaghibgaa
