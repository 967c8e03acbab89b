/- The law RunlengthReturns: its walk. -/
import Derived.Test.YtielamoaghibgaaRp
namespace Go.Proofs.Ytielamoaghibgaa
open Go.RowKit Go.Lib

def GoodB (w : World) (e : Ending) (w' : World) : Prop := e = .returned (.bool true) ∧ Below w.heap.size w w'

set_option maxHeartbeats 4000000 in
set_option maxRecDepth 100000 in
theorem returns_walk (l : List Sect) (v : Value) (w : World) (hv : Sec w v l) : Calls Try.prog 6 #[v] w (GoodB w) := by
  have HA := hid awake_any
  have HV := hid hv
  obtain ⟨A, c, rfl⟩ := sec_form hv
  obtain ⟨L, hL⟩ : ∃ L, l.length = L := ⟨_, rfl⟩
  have HL := hid hL
  have HF : Hid ((.slice A l.length c : Value) = .slice A L c) := hid (by rw [hL])
  rw [hL] at HV ⊢
  clear hv
  by_cases hbig : 300 < L
  · have d1 : decide ((300 : Int) < (L : Int)) = true := by simp; omega
    clear hL HF
    go_enter Try.func6, Try.ntmps6
    go_wp2_with fail
    refine (HA.out _).mono ?_
    rintro e w1 ⟨rfl, hb1⟩
    have HB1 := hid hb1
    clear hb1
    go_wp2
    go_ret
    exact ⟨rfl, HB1.out⟩
  · have d1 : decide ((300 : Int) < (L : Int)) = false := by simp; omega
    have HE := hid (encode_any l _ w HV.out (by omega))
    have H8 := hid (b8_rl _ l (Nat.le_refl _) HV.out.1)
    have hrl := (rl_len _ l (Nat.le_refl _) HV.out.1).1
    have HR0 := hid hrl
    have hcm : capm (L : Int) = l.length := by unfold capm; omega
    have HCM := hid hcm
    have HDB := hid (dec_back HV.out.1 (by omega))
    have HDL := hid (fun (h : 0 < L) => dec_less (l := l) HV.out.1 (by omega) (m := L - 1) (by omega))
    clear hL HF hrl hcm
    go_enter Try.func6, Try.ntmps6
    go_wp2_with fail
    refine HE.out.mono ?_
    rintro e w2 ⟨v2, rfl, ho, hb⟩
    have HB2 := hid hb
    have HV2 := hid (byt_of_own ho H8.out)
    have HN2 := hid (own_nilOk ho)
    obtain ⟨M, hM⟩ : ∃ M, (rl l).length = M := ⟨_, rfl⟩
    have HM := hid hM
    rw [hM] at ho
    obtain ⟨a2, c2, rfl⟩ := own_form ho
    have HC := hid (decode_any (rl l) _ (L : Int) w2 HV2.out HN2.out (by have := HR0.out; have := HL.out; omega))
    rw [HCM.out] at HC
    clear ho hb HE hM
    go_wp2_with fail
    refine HC.out.mono ?_
    rintro e w3 h
    obtain ⟨v3, rfl, hb, hs⟩ := dec_li h HDB.out
    have HB3 := hid (below_both HB2.out hb)
    have hv3 := HV.out.below HB3.out
    have HQ := hid (eqSame_any _ _ v3 _ w3 hs.2 hv3.2 hs.1 hv3.1)
    rw [decide_eq_true rfl] at HQ
    have HV3 := hid (HV2.out.below hb)
    obtain ⟨A3, c3, rfl⟩ := sec_form hs
    clear h hb hs hv3 HC HV2 HB2
    go_wp2_with fail
    refine HQ.out.mono ?_
    rintro e w4 h
    obtain ⟨rfl, hb⟩ := saysQ_B h
    have HB4 := hid (below_both HB3.out hb)
    have HV4 := hid (HV3.out.below hb)
    clear h hb HQ HV3 HB3
    by_cases h0 : L = 0
    · have hM0 : M = 0 := by
        have := HM.out
        have := HL.out
        subst h0
        rw [List.eq_nil_of_length_eq_zero (by assumption : l.length = 0), rl_nil] at HM
        exact HM.out.symm
      subst hM0
      have d2 : ((L : Int) == 0) = true := by simp; omega
      go_wp2_with fail
      refine (HA.out _).mono ?_
      rintro e w5 ⟨rfl, hb5⟩
      have HB5 := hid (below_both HB4.out hb5)
      clear hb5
      go_wp2
      go_ret
      exact ⟨rfl, HB5.out⟩
    · have d2 : ((L : Int) == 0) = false := by simp; omega
      have HC := hid (decode_any (rl l) _ ((L : Int) - 1) w4 HV4.out HN2.out (by have := HR0.out; have := HL.out; omega))
      rw [show capm ((L : Int) - 1) = L - 1 by unfold capm; omega] at HC
      go_wp2_with fail
      refine HC.out.mono ?_
      rintro e w5 h
      obtain ⟨rfl, hb⟩ := dec_er h (HDL.out (by omega))
      have HB5 := hid (below_both HB4.out hb)
      clear h hb HC HB4
      go_wp2_with fail
      refine (HA.out _).mono ?_
      rintro e w6 ⟨rfl, hb6⟩
      have HB6 := hid (below_both HB5.out hb6)
      clear hb6
      go_wp2
      go_ret
      exact ⟨rfl, HB6.out⟩
end Go.Proofs.Ytielamoaghibgaa
