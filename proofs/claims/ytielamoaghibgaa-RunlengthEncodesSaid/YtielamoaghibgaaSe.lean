/- The law RunlengthEncodes: its walk. -/
import Derived.Test.YtielamoaghibgaaSd
namespace Go.Proofs.Ytielamoaghibgaa
open Go.RowKit Go.Lib

set_option maxHeartbeats 4000000 in
set_option maxRecDepth 100000 in
theorem encodes_walk (l : List Sect) (v : Value) (w : World) (hv : Sec w v l) : Calls Try.prog 3 #[v] w (GoodB w) := by
  have HA := hid awake_any
  have HV := hid hv
  obtain ⟨A, c, rfl⟩ := sec_form hv
  obtain ⟨L, hL⟩ : ∃ L, l.length = L := ⟨_, rfl⟩
  have HL := hid hL
  rw [hL] at HV ⊢
  clear hv hL
  by_cases hbig : 300 < L
  · have d1 : decide ((300 : Int) < (L : Int)) = true := by simp; omega
    go_enter Try.func3, Try.ntmps3
    go_wp2_with fail
    refine (HA.out _).mono ?_
    rintro e w1 ⟨rfl, hb1⟩
    have HB1 := hid hb1
    clear hb1
    go_wp2
    go_ret
    exact ⟨rfl, HB1.out⟩
  · have d1 : decide ((300 : Int) < (L : Int)) = false := by simp; omega
    have HC := hid (encode_any l _ w HV.out (by have := HL.out; omega))
    have H8 := hid (b8_rl _ l (Nat.le_refl _) HV.out.1)
    go_enter Try.func3, Try.ntmps3
    go_wp2_with fail
    refine HC.out.mono ?_
    rintro e w2 ⟨v2, rfl, ho2, hb2⟩
    have HB2 := hid hb2
    have HV2 := hid (byt_of_own ho2 H8.out)
    have HD := hid (refEncode_any l _ w2 (HV.out.below hb2) (by have := HL.out; omega))
    obtain ⟨M, hM⟩ : ∃ M, (rl l).length = M := ⟨_, rfl⟩
    have HM := hid hM
    rw [hM] at ho2
    obtain ⟨A2, c2, rfl⟩ := own_form ho2
    clear ho2 hb2 HC hM
    go_wp2_with fail
    refine HD.out.mono ?_
    rintro e w3 ⟨v3, rfl, ho3, hb3⟩
    have HB3 := hid (below_both HB2.out hb3)
    have HQ := hid (equal_any (rl l) (rl l) _ v3 w3 (HV2.out.below hb3) (byt_of_own ho3 H8.out))
    rw [decide_eq_true rfl] at HQ
    have HS := hid (size_any l _ w3 (HV.out.below HB3.out) (by have := HL.out; omega))
    rw [HM.out] at HS
    clear ho3 hb3 HD HB2 HV2
    go_wp2_with fail
    refine HQ.out.mono ?_
    rintro e w4 ⟨rfl, rfl⟩
    go_wp2_with fail
    refine HS.out.mono ?_
    rintro e w5 ⟨rfl, hb5⟩
    have HB5 := hid (below_both HB3.out hb5)
    clear hb5 HS HQ HB3
    go_wp2_with fail
    refine (HA.out _).mono ?_
    rintro e w6 ⟨rfl, hb6⟩
    have HB6 := hid (below_both HB5.out hb6)
    clear hb6
    go_wp2
    go_ret
    exact ⟨rfl, HB6.out⟩
end Go.Proofs.Ytielamoaghibgaa
