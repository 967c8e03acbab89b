/- The walks of the laws Encodes and Decodes. -/
import Derived.Test.YtldlddoealpomaaGj
import Derived.Test.YtldlddoealpomaaSa
namespace Go.Proofs.Ytldlddoealpomaa
open Go.RowKit Go.Lib

theorem small_two (A B : Option Addr) (n c m c' : Nat) (w : World) (hn : n ≤ 9223372036854775807) (hm : m ≤ 9223372036854775807) :
    Calls Try.prog 11 #[.slice (some ⟨w.heap.size, 0, none⟩) 2 2] (w.alloc (.cells #[.slice A n c, .slice B m c'] 22)) (fun e w' => e = .returned (.bool (decide (n ≤ 400 ∧ m ≤ 400))) ∧ w.alloc (.cells #[.slice A n c, .slice B m c'] 22) = w') := by
  have h := small_any [(A, n, c), (B, m, c')] w.heap.size 2 (w.alloc (.cells #[.slice A n c, .slice B m c'] 22)) (heap_alloc_new _ _) (by simp) (fun x hx => by
    rcases List.mem_cons.1 hx with rfl | hx
    · exact hn
    · rw [List.mem_singleton.1 hx]; exact hm)
  have e : decide (∀ x ∈ [(A, n, c), (B, m, c')], x.2.1 ≤ 400) = decide (n ≤ 400 ∧ m ≤ 400) := by simp
  rw [e] at h
  exact h
set_option maxHeartbeats 4000000 in
set_option maxRecDepth 100000 in
theorem encodes_walk (d b : List Nat) (v u : Value) (w : World) (hv : Byt w v d) (hn : NilOk v) (hu : Byt w u b) (hun : NilOk u) : Calls Try.prog 3 #[v, u] w (GoodB w) := by
  have hld := byt_len hv
  have hlb := byt_len hu
  have HV := hid hv
  have HU := hid hu
  have HVN := hid hn
  have HUN := hid hun
  obtain ⟨A, c, rfl⟩ := byt_form hv
  obtain ⟨B, c', rfl⟩ := byt_form hu
  have hal := al1 w (.cells #[.slice A d.length c, .slice B b.length c'] 22)
  have HAL := hid hal
  have HS := hid (small_two A B d.length c b.length c' w hld hlb)
  have HV1 := hid (hv.below hal)
  have HU1 := hid (hu.below hal)
  obtain ⟨n, hnn⟩ : ∃ n, d.length = n := ⟨_, rfl⟩
  obtain ⟨m, hmm⟩ : ∃ m, b.length = m := ⟨_, rfl⟩
  have HNN := hid hnn
  have HMM := hid hmm
  have H8 := hid (encL_b8 hv.1 hu.1)
  rw [hnn] at HV HVN HAL HS HV1 hld ⊢
  rw [hmm] at HU HUN HAL HS HU1 HV1 hlb ⊢
  rw [hnn] at HU1
  obtain ⟨W1, hW1⟩ : ∃ W, w.alloc (.cells #[.slice A n c, .slice B m c'] 22) = W := ⟨_, rfl⟩
  rw [hW1] at HAL HS HV1 HU1
  have HW1 := hid hW1
  clear hv hn hu hun hal hnn hmm hW1
  by_cases hsm : n ≤ 400 ∧ m ≤ 400
  · rw [decide_eq_true hsm] at HS
    go_enter Try.func3, Try.ntmps3
    go_wp2_with fail
    rw [HW1.out]
    refine HS.out.mono ?_
    rintro e w2 ⟨rfl, hw2⟩
    rw [hw2] at HAL HV1 HU1
    clear hw2 HS HW1
    go_wp2_with fail
    refine (awake_any _).mono ?_
    rintro e w3 ⟨rfl, hb3⟩
    have HB3 := hid (HAL.out.trans (hb3.mono HAL.out.size))
    have HC := hid (encode_said d b _ _ w3 (HV1.out.below hb3) HVN.out (HU1.out.below hb3) HUN.out (by rw [HNN.out]; omega) (by rw [HMM.out]; omega))
    clear hb3
    go_wp2_with fail
    refine HC.out.mono ?_
    rintro e w4 ⟨v4, rfl, ho4, hb4⟩
    have HB4 := hid (HB3.out.trans (hb4.mono HB3.out.size))
    have HV4 := hid (byt_of_own ho4 H8.out)
    have HD := hid (refEncode_said d b _ _ w4 (HV.out.below HB4.out) HVN.out (HU.out.below HB4.out) HUN.out (by rw [HNN.out]; omega) (by rw [HMM.out]; omega))
    clear ho4 hb4 HC
    go_wp2_with fail
    refine HD.out.mono ?_
    rintro e w5 ⟨v5, rfl, ho5, hb5⟩
    have HB5 := hid (HB4.out.trans (hb5.mono HB4.out.size))
    have HQ := hid (equal_any (encL d b) (encL d b) v4 v5 w5 (HV4.out.below hb5) (byt_of_own ho5 H8.out))
    rw [decide_eq_true rfl] at HQ
    clear ho5 hb5 HD
    go_wp2_with fail
    refine HQ.out.mono ?_
    rintro e w6 ⟨rfl, rfl⟩
    go_wp2_with fail
    go_ret
    exact ⟨rfl, HB5.out⟩
  · rw [decide_eq_false hsm] at HS
    go_enter Try.func3, Try.ntmps3
    go_wp2_with fail
    rw [HW1.out]
    refine HS.out.mono ?_
    rintro e w2 ⟨rfl, hw2⟩
    rw [hw2] at HAL
    clear hw2 HS HW1
    go_wp2_with fail
    refine (awake_any _).mono ?_
    rintro e w3 ⟨rfl, hb3⟩
    have HB3 := hid (HAL.out.trans (hb3.mono HAL.out.size))
    clear hb3
    go_wp2_with fail
    go_ret
    exact ⟨rfl, HB3.out⟩
set_option maxHeartbeats 4000000 in
set_option maxRecDepth 100000 in
theorem decodes_walk (d b : List Nat) (most : Int) (v u : Value) (w : World) (hv : Byt w v d) (hn : NilOk v) (hu : Byt w u b) (hun : NilOk u) (hmo : most ≤ 9223372036854775807) : Calls Try.prog 4 #[v, u, .int .i64 most] w (GoodB w) := by
  have hld := byt_len hv
  have hlb := byt_len hu
  have HV := hid hv
  have HU := hid hu
  have HVN := hid hn
  have HUN := hid hun
  obtain ⟨A, c, rfl⟩ := byt_form hv
  obtain ⟨B, c', rfl⟩ := byt_form hu
  have hal := al1 w (.cells #[.slice A d.length c, .slice B b.length c'] 22)
  have HAL := hid hal
  have HS := hid (small_two A B d.length c b.length c' w hld hlb)
  have HV1 := hid (hv.below hal)
  have HU1 := hid (hu.below hal)
  obtain ⟨n, hnn⟩ : ∃ n, d.length = n := ⟨_, rfl⟩
  obtain ⟨m, hmm⟩ : ∃ m, b.length = m := ⟨_, rfl⟩
  have HNN := hid hnn
  have HMM := hid hmm
  rw [hnn] at HV HVN HAL HS HV1 hld ⊢
  rw [hmm] at HU HUN HAL HS HU1 HV1 hlb ⊢
  rw [hnn] at HU1
  obtain ⟨W1, hW1⟩ : ∃ W, w.alloc (.cells #[.slice A n c, .slice B m c'] 22) = W := ⟨_, rfl⟩
  rw [hW1] at HAL HS HV1 HU1
  have HW1 := hid hW1
  clear hv hn hu hun hal hnn hmm hW1
  by_cases hsm : n ≤ 400 ∧ m ≤ 400
  · rw [decide_eq_true hsm] at HS
    by_cases hbig : 3000 < most
    · go_enter Try.func4, Try.ntmps4
      go_wp2_with fail
      rw [HW1.out]
      refine HS.out.mono ?_
      rintro e w2 ⟨rfl, hw2⟩
      rw [hw2] at HAL
      clear hw2 HS HW1
      go_wp2_with fail
      refine (awake_any _).mono ?_
      rintro e w3 ⟨rfl, hb3⟩
      have HB3 := hid (HAL.out.trans (hb3.mono HAL.out.size))
      clear hb3
      go_wp2_with fail
      go_ret
      exact ⟨rfl, HB3.out⟩
    · have HC := hid (decode_any d b _ _ most W1 HV1.out HVN.out HU1.out HUN.out (by rw [HNN.out]; omega) (by rw [HMM.out]; omega) hmo)
      go_enter Try.func4, Try.ntmps4
      go_wp2_with fail
      rw [HW1.out]
      refine HS.out.mono ?_
      rintro e w2 ⟨rfl, hw2⟩
      rw [hw2] at HAL HV1 HU1 HC
      clear hw2 HS HW1
      go_wp2_with fail
      refine HC.out.mono ?_
      rintro e w3 hq3
      have hb3 := hq3.1
      have HB3 := hid (HAL.out.trans (hb3.mono HAL.out.size))
      have HD := hid (refDecode_any d b _ _ most w3 (HV1.out.below hb3) HVN.out (HU1.out.below hb3) HUN.out (by rw [HNN.out]; omega) (by rw [HMM.out]; omega) hmo)
      rcases hdr : decL d b most with er | l
      · obtain ⟨rfl, _⟩ := dec_err hq3 hdr
        have HDR := hid hdr
        clear hq3 hb3 hdr HC
        go_wp2_with fail
        refine HD.out.mono ?_
        rintro e w4 hq4
        obtain ⟨rfl, hb4⟩ := dec_err hq4 HDR.out
        have HB4 := hid (HB3.out.trans (hb4.mono HB3.out.size))
        clear hq4 hb4 HD
        go_wp2_with fail
        refine (awake_any _).mono ?_
        rintro e w5 ⟨rfl, hb5⟩
        have HB5 := hid (HB4.out.trans (hb5.mono HB4.out.size))
        have HQ := hid (equal_any [] [] _ _ w5 (byt_nil _) (byt_nil _))
        rw [decide_eq_true rfl] at HQ
        clear hb5
        go_wp2_with fail
        refine HQ.out.mono ?_
        rintro e w6 ⟨rfl, rfl⟩
        go_wp2_with fail
        go_ret
        exact ⟨rfl, HB5.out⟩
      · obtain ⟨v3, rfl, _, hv3, _⟩ := dec_ok hq3 hdr
        have HDR := hid hdr
        have HV3 := hid hv3
        clear hq3 hb3 hdr HC hv3
        go_wp2_with fail
        refine HD.out.mono ?_
        rintro e w4 hq4
        obtain ⟨v4, rfl, hb4, hv4, _⟩ := dec_ok hq4 HDR.out
        have HB4 := hid (HB3.out.trans (hb4.mono HB3.out.size))
        have HV3 := hid (HV3.out.below hb4)
        have HV4 := hid hv4
        clear hq4 hb4 hv4 HD
        go_wp2_with fail
        refine (awake_any _).mono ?_
        rintro e w5 ⟨rfl, hb5⟩
        have HB5 := hid (HB4.out.trans (hb5.mono HB4.out.size))
        have HQ := hid (equal_any l l _ _ w5 (HV3.out.below hb5) (HV4.out.below hb5))
        rw [decide_eq_true rfl] at HQ
        clear hb5
        go_wp2_with fail
        refine HQ.out.mono ?_
        rintro e w6 ⟨rfl, rfl⟩
        go_wp2_with fail
        go_ret
        exact ⟨rfl, HB5.out⟩
  · rw [decide_eq_false hsm] at HS
    go_enter Try.func4, Try.ntmps4
    go_wp2_with fail
    rw [HW1.out]
    refine HS.out.mono ?_
    rintro e w2 ⟨rfl, hw2⟩
    rw [hw2] at HAL
    clear hw2 HS HW1
    go_wp2_with fail
    refine (awake_any _).mono ?_
    rintro e w3 ⟨rfl, hb3⟩
    have HB3 := hid (HAL.out.trans (hb3.mono HAL.out.size))
    clear hb3
    go_wp2_with fail
    go_ret
    exact ⟨rfl, HB3.out⟩
end Go.Proofs.Ytldlddoealpomaa
