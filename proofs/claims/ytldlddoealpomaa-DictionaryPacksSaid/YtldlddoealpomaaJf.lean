/- The walk of the law Packs. -/
import Derived.Test.YtldlddoealpomaaJe
namespace Go.Proofs.Ytldlddoealpomaa
open Go.RowKit Go.Lib
open Rl (Sect Sec Secs sec_form flat_len rl)

theorem small_one' (A : Option Addr) (n c : Nat) (w : World) (hn : n ≤ 9223372036854775807) :
    Calls Try.prog 11 #[.slice (some ⟨w.heap.size, 0, none⟩) 1 1] (w.alloc (.cells #[.slice A n c] 22)) (fun e w' => e = .returned (.bool (decide (n ≤ 400))) ∧ w.alloc (.cells #[.slice A n c] 22) = w') := by
  have h := small_any [(A, n, c)] w.heap.size 1 (w.alloc (.cells #[.slice A n c] 22)) (heap_alloc_new _ _) (by simp) (fun x hx => by rw [List.mem_singleton.1 hx]; exact hn)
  have e : decide (∀ x ∈ [(A, n, c)], x.2.1 ≤ 400) = decide (n ≤ 400) := by simp
  rw [e] at h
  exact h
theorem packL_b8 {d : List Nat} {l : List Sect} (hd : B8 d) (hl : Secs l) : B8 (packL d l) := by
  have h : ∀ (z : Nat) (t : List Nat), z < 256 → B8 t → B8 (z :: t) := fun z t hz ht x hx => by
    rcases List.mem_cons.1 hx with rfl | hx
    · exact hz
    · exact ht x hx
  have hp : ∀ a b : List Nat, B8 a → B8 b → B8 (pk2 a b) := fun a b ha hb => by unfold pk2; split <;> assumption
  exact hp _ _ (hp _ _ (h 0 _ (by decide) (flat_b8 hl)) (h 1 _ (by decide) (Rl.b8_rl _ l (Nat.le_refl _) hl))) (h 2 _ (by decide) (encL_b8 hd (flat_b8 hl)))
set_option maxHeartbeats 4000000 in
set_option maxRecDepth 100000 in
theorem packs_walk (d : List Nat) (l : List Sect) (v u : Value) (w : World) (hv : Byt w v d) (hn : NilOk v) (hu : Sec w u l) : Calls Try.prog 5 #[v, u] w (GoodB w) := by
  have hld := byt_len hv
  have HV := hid hv
  have HU := hid hu
  have HVN := hid hn
  obtain ⟨A, c, rfl⟩ := byt_form hv
  obtain ⟨B, c', rfl⟩ := sec_form hu
  have hal := al1 w (.cells #[.slice A d.length c] 22)
  have HAL := hid hal
  have HS := hid (small_one' A d.length c w hld)
  have H8 := hid (packL_b8 hv.1 hu.1)
  obtain ⟨n, hnn⟩ : ∃ n, d.length = n := ⟨_, rfl⟩
  obtain ⟨m, hmm⟩ : ∃ m, l.length = m := ⟨_, rfl⟩
  have HNN := hid hnn
  have HMM := hid hmm
  rw [hnn] at HV HVN HAL HS hld ⊢
  rw [hmm] at HU ⊢
  obtain ⟨T, hT⟩ : ∃ T, packL d l = T := ⟨_, rfl⟩
  rw [hT] at H8
  have HT := hid hT
  obtain ⟨W1, hW1⟩ : ∃ W, w.alloc (.cells #[.slice A n c] 22) = W := ⟨_, rfl⟩
  rw [hW1] at HAL HS
  have HW1 := hid hW1
  clear hv hn hu hal hnn hmm hW1 hT
  by_cases hsm : n ≤ 400
  · rw [decide_eq_true hsm] at HS
    by_cases h4 : 40 < m
    · have d4 : (40 : Int) < (m : Int) := by omega
      go_enter Try.func5, Try.ntmps5
      go_wp2_with fail
      rw [HW1.out]
      refine HS.out.mono ?_
      rintro e w2 ⟨rfl, hw2⟩
      rw [hw2] at HAL
      clear hw2 HS HW1
      go_wp2_with fail
      refine (awake_any _).mono ?_
      rintro e w3 ⟨rfl, hb3⟩
      have HB3 := hid (HAL.out.trans (hb3.mono HAL.out.size))
      clear hb3
      go_wp2_with fail
      go_ret
      exact ⟨rfl, HB3.out⟩
    · have d4 : ¬ (40 : Int) < (m : Int) := by omega
      go_enter Try.func5, Try.ntmps5
      go_wp2_with fail
      rw [HW1.out]
      refine HS.out.mono ?_
      rintro e w2 ⟨rfl, hw2⟩
      rw [hw2] at HAL
      clear hw2 HS HW1
      go_wp2_with fail
      refine (awake_any _).mono ?_
      rintro e w3 ⟨rfl, hb3⟩
      have HB3 := hid (HAL.out.trans (hb3.mono HAL.out.size))
      have HC := hid (pack_any d l _ _ w3 (HV.out.below HB3.out) HVN.out (HU.out.below HB3.out) (by rw [HNN.out]; omega) (by rw [HMM.out]; omega))
      rw [HT.out] at HC
      clear hb3
      go_wp2_with fail
      refine HC.out.mono ?_
      rintro e w4 ⟨v4, rfl, ho4, hb4⟩
      have HB4 := hid (HB3.out.trans (hb4.mono HB3.out.size))
      have HV4 := hid (byt_of_own ho4 H8.out)
      have HD := hid (refPack_any d l _ _ w4 (HV.out.below HB4.out) HVN.out (HU.out.below HB4.out) (by rw [HNN.out]; omega) (by rw [HMM.out]; omega))
      rw [HT.out] at HD
      clear ho4 hb4 HC
      go_wp2_with fail
      refine HD.out.mono ?_
      rintro e w5 ⟨v5, rfl, ho5, hb5⟩
      have HB5 := hid (HB4.out.trans (hb5.mono HB4.out.size))
      have HQ := hid (equal_any T T v4 v5 w5 (HV4.out.below hb5) (byt_of_own ho5 H8.out))
      rw [decide_eq_true rfl] at HQ
      clear ho5 hb5 HD
      go_wp2_with fail
      refine HQ.out.mono ?_
      rintro e w6 ⟨rfl, rfl⟩
      go_wp2_with fail
      go_ret
      exact ⟨rfl, HB5.out⟩
  · rw [decide_eq_false hsm] at HS
    go_enter Try.func5, Try.ntmps5
    go_wp2_with fail
    rw [HW1.out]
    refine HS.out.mono ?_
    rintro e w2 ⟨rfl, hw2⟩
    rw [hw2] at HAL
    clear hw2 HS HW1
    go_wp2_with fail
    refine (awake_any _).mono ?_
    rintro e w3 ⟨rfl, hb3⟩
    have HB3 := hid (HAL.out.trans (hb3.mono HAL.out.size))
    clear hb3
    go_wp2_with fail
    go_ret
    exact ⟨rfl, HB3.out⟩
end Go.Proofs.Ytldlddoealpomaa
