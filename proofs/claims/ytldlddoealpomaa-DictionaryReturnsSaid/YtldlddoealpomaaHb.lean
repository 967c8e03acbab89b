/- The walk of the law Returns. -/
import Derived.Test.YtldlddoealpomaaHa
namespace Go.Proofs.Ytldlddoealpomaa
open Go.RowKit Go.Lib

set_option maxHeartbeats 4000000 in
set_option maxRecDepth 100000 in
theorem returns_walk (d b : List Nat) (v u : Value) (w : World) (hv : Byt w v d) (hn : NilOk v) (hu : Byt w u b) (hun : NilOk u) : Calls Try.prog 7 #[v, u] w (GoodB w) := by
  have hld := byt_len hv
  have hlb := byt_len hu
  have HV := hid hv
  have HU := hid hu
  have HVN := hid hn
  have HUN := hid hun
  obtain ⟨A, c, rfl⟩ := byt_form hv
  obtain ⟨B, c', rfl⟩ := byt_form hu
  have hal := al1 w (.cells #[.slice A d.length c, .slice B b.length c'] 22)
  have HAL := hid hal
  have HS := hid (small_two A B d.length c b.length c' w hld hlb)
  have H8 := hid (encL_b8 hv.1 hu.1)
  have HEL := hid (encL_len d b)
  have HDE := hid (fun M : Nat => dec_enc (d := d) (b := b) M hv.1 hu.1)
  obtain ⟨n, hnn⟩ : ∃ n, d.length = n := ⟨_, rfl⟩
  obtain ⟨m, hmm⟩ : ∃ m, b.length = m := ⟨_, rfl⟩
  have HNN := hid hnn
  have HMM := hid hmm
  rw [hnn] at HV HVN HAL HS hld ⊢
  rw [hmm] at HU HUN HAL HS HDE HEL hlb ⊢
  obtain ⟨x, hx⟩ : ∃ x, encL d b = x := ⟨_, rfl⟩
  have HX := hid hx
  rw [hx] at H8 HEL HDE
  obtain ⟨W1, hW1⟩ : ∃ W, w.alloc (.cells #[.slice A n c, .slice B m c'] 22) = W := ⟨_, rfl⟩
  rw [hW1] at HAL HS
  have HW1 := hid hW1
  clear hv hn hu hun hal hnn hmm hW1 hx
  by_cases hsm : n ≤ 400 ∧ m ≤ 400
  · rw [decide_eq_true hsm] at HS
    have HC := hid (encode_said d b _ _ W1 (HV.out.below HAL.out) HVN.out (HU.out.below HAL.out) HUN.out (by rw [HNN.out]; omega) (by rw [HMM.out]; omega))
    rw [HX.out] at HC
    have hxl : x.length ≤ 90000 := by have := HEL.out; omega
    go_enter Try.func7, Try.ntmps7
    go_wp2_with fail
    rw [HW1.out]
    refine HS.out.mono ?_
    rintro e w2 ⟨rfl, hw2⟩
    rw [hw2] at HAL HC
    clear hw2 HS HW1
    go_wp2_with fail
    refine HC.out.mono ?_
    rintro e w3 ⟨v3, rfl, ho3, hb3⟩
    have HB3 := hid (HAL.out.trans (hb3.mono HAL.out.size))
    have HV3 := hid (byt_of_own ho3 H8.out)
    have HN3 := hid (own_nilOk ho3)
    have HD := hid (decode_any d x _ v3 (m : Int) w3 (HV.out.below HB3.out) HVN.out HV3.out HN3.out (by rw [HNN.out]; omega) (by omega) (by omega))
    clear ho3 hb3 HC
    go_wp2_with fail
    refine HD.out.mono ?_
    rintro e w4 hq4
    obtain ⟨v4, rfl, hb4, hv4, _⟩ := dec_ok hq4 (by rw [HDE.out, if_pos (Nat.le_refl _)])
    have HB4 := hid (HB3.out.trans (hb4.mono HB3.out.size))
    have HV4 := hid hv4
    have HQ := hid (equal_any b b _ _ w4 HV4.out (HU.out.below HB4.out))
    rw [decide_eq_true rfl] at HQ
    clear hq4 hb4 hv4 HD
    go_wp2_with fail
    refine HQ.out.mono ?_
    rintro e w5 ⟨rfl, rfl⟩
    clear HQ
    by_cases hm0 : m = 0
    · subst hm0
      go_wp2_with fail
      refine (awake_any _).mono ?_
      rintro e w5 ⟨rfl, hb5⟩
      have HB5 := hid (HB4.out.trans (hb5.mono HB4.out.size))
      clear hb5
      go_wp2_with fail
      go_ret
      exact ⟨rfl, HB5.out⟩
    · have d0 : ¬ (m : Int) = 0 := by omega
      have d1 : ((m : Int) == 0) = false := by simpa using hm0
      have hsub : IntKind.i64.wrap ((m : Int) - 1) = ((m - 1 : Nat) : Int) := by rw [IntKind.wrap_i64]; omega
      have HC := hid (encode_said d b _ _ w4 (HV.out.below HB4.out) HVN.out (HU.out.below HB4.out) HUN.out (by rw [HNN.out]; omega) (by rw [HMM.out]; omega))
      rw [HX.out] at HC
      go_wp2_with fail
      refine HC.out.mono ?_
      rintro e w5 ⟨v5, rfl, ho5, hb5⟩
      have HB5 := hid (HB4.out.trans (hb5.mono HB4.out.size))
      have HV5 := hid (byt_of_own ho5 H8.out)
      have HN5 := hid (own_nilOk ho5)
      have HD := hid (decode_any d x _ v5 ((m - 1 : Nat) : Int) w5 (HV.out.below HB5.out) HVN.out HV5.out HN5.out (by rw [HNN.out]; omega) (by omega) (by omega))
      have HDF : Hid (decL d x ((m - 1 : Nat) : Int) = .error 5) := hid (by rw [HDE.out, if_neg (by omega)])
      clear ho5 hb5 HC
      go_wp2_with fail
      refine HD.out.mono ?_
      rintro e w6 hq6
      obtain ⟨rfl, hb6⟩ := dec_err hq6 HDF.out
      have HB6 := hid (HB5.out.trans (hb6.mono HB5.out.size))
      clear hq6 hb6 HD
      go_wp2_with fail
      refine (awake_any _).mono ?_
      rintro e w7 ⟨rfl, hb7⟩
      have HB7 := hid (HB6.out.trans (hb7.mono HB6.out.size))
      clear hb7
      go_wp2_with fail
      go_ret
      exact ⟨rfl, HB7.out⟩
  · rw [decide_eq_false hsm] at HS
    go_enter Try.func7, Try.ntmps7
    go_wp2_with fail
    rw [HW1.out]
    refine HS.out.mono ?_
    rintro e w2 ⟨rfl, hw2⟩
    rw [hw2] at HAL
    clear hw2 HS HW1
    go_wp2_with fail
    refine (awake_any _).mono ?_
    rintro e w3 ⟨rfl, hb3⟩
    have HB3 := hid (HAL.out.trans (hb3.mono HAL.out.size))
    clear hb3
    go_wp2_with fail
    go_ret
    exact ⟨rfl, HB3.out⟩
end Go.Proofs.Ytldlddoealpomaa
