/- The walk of the law WireSizes. -/
import Derived.Test.YtchpoddfjbopbaaRh
namespace Go.Proofs.Ytchpoddfjbopbaa
open Go.RowKit Go.Lib

def inR (n : Int) : Bool := decide (0 ≤ n) && decide (n < 9007199254740992)
set_option maxHeartbeats 2000000 in
theorem inRange_any (n : Int) (w : World) : Calls Try.prog 44 #[.int .i64 n] w (Says (inR n) w) := by
  by_cases h0 : 0 ≤ n
  · have d0 : decide (0 ≤ n) = true := decide_eq_true h0
    by_cases h1 : n < 9007199254740992
    · have d1 : decide (n < 9007199254740992) = true := decide_eq_true h1
      have e : inR n = true := by unfold inR; rw [d0, d1]; rfl
      rw [e]
      go_enter Try.func44, Try.ntmps44
      go_wp2
      go_ret
      exact ⟨rfl, rfl⟩
    · have d1 : decide (n < 9007199254740992) = false := decide_eq_false h1
      have e : inR n = false := by unfold inR; rw [d0, d1]; rfl
      rw [e]
      go_enter Try.func44, Try.ntmps44
      go_wp2
      go_ret
      exact ⟨rfl, rfl⟩
  · have d0 : decide (0 ≤ n) = false := decide_eq_false h0
    have e : inR n = false := by unfold inR; rw [d0]; rfl
    rw [e]
    go_enter Try.func44, Try.ntmps44
    go_wp2
    go_ret
    exact ⟨rfl, rfl⟩
theorem inR_true {n : Int} (h : inR n = true) : 0 ≤ n ∧ n < 9007199254740992 := by unfold inR at h; simpa using h
theorem enc_inj {n m : Nat} (hn : n ≤ top) (hm : m ≤ top) (h : enc n = enc m) : n = m := by
  have h1 := num_code.back n [] hn
  have h2 := num_code.back m [] hm
  rw [h, h2] at h1
  injection h1 with h1
  injection h1 with h1 _
  exact h1.symm
/-- What is counted of the groups of n when x is left. -/
def Grp (n x g : Nat) : Prop := (x = 0 ∧ (enc n).length = g) ∨ (0 < x ∧ (enc n).length = g + (enc x).length)
theorem grp_start (n : Nat) : Grp n (n / 128) 1 := by
  by_cases h : n < 128
  · exact .inl ⟨by omega, by rw [enc_small h]; rfl⟩
  · exact .inr ⟨by omega, by rw [enc_big h, List.length_cons]; omega⟩
theorem grp_next {n x g : Nat} (h : Grp n x g) (hx : 0 < x) : Grp n (x / 128) (g + 1) := by
  rcases h with ⟨h, _⟩ | ⟨_, h⟩
  · omega
  · by_cases hl : x < 128
    · exact .inl ⟨by omega, by rw [h, enc_small hl]; rfl⟩
    · exact .inr ⟨by omega, by rw [h, enc_big hl, List.length_cons]; omega⟩
theorem grp_end {n g : Nat} (h : Grp n 0 g) : (enc n).length = g := by
  rcases h with ⟨_, h⟩ | ⟨h, _⟩
  · exact h
  · omega
def GoodB (w : World) (e : Ending) (w' : World) : Prop := e = .returned (.bool true) ∧ Below w.heap.size w w'

set_option maxHeartbeats 4000000 in
set_option maxRecDepth 100000 in
theorem sizes_walk (n m : Int) (w : World) (hn0 : -9223372036854775808 ≤ n) (hn1 : n ≤ 9223372036854775807) (hm0 : -9223372036854775808 ≤ m) (hm1 : m ≤ 9223372036854775807) :
    Calls Try.prog 10 #[.int .i64 n, .int .i64 m] w (GoodB w) := by
  have HA := hid awake_any
  have HE := hid equal_any
  have HP := hid (fun (k : Int) (w : World) => putInt_any k [] (.slice none 0 0) w (byt_nil w) nilOk_nil (by simp))
  have HIn := hid (inRange_any n w)
  have HIm := hid (inRange_any m w)
  rcases hn : inR n with _ | _
  · rw [hn] at HIn
    clear HIm hn
    go_enter Try.func10, Try.ntmps10
    go_wp2_with fail
    refine HIn.out.mono ?_
    rintro e w' ⟨rfl, rfl⟩
    go_wp2_with fail
    refine (HP.out (-1) _).mono ?_
    rintro e w1 ⟨v1, rfl, hv1, hn1, hb1⟩
    rw [show [] ++ enc (cl (-1)) = [0] by rw [cl_neg (by omega), enc_small (by omega)]; rfl] at hv1
    have HV1 := hid hv1
    have HB1 := hid hb1
    obtain ⟨a1, c1, rfl⟩ := byt_form hv1
    clear hv1 hb1 hn1
    go_wp2_with fail
    refine (HE.out [0] [0] _ _ _ (HV1.out.below (al1 _ _)) (byt_lit w1 [0] (by unfold B8; decide) (by decide))).mono ?_
    rintro e w2 ⟨rfl, rfl⟩
    go_wp2_with fail
    refine (HA.out _).mono ?_
    rintro e w3 ⟨rfl, hb3⟩
    have HB3 := hid (below_both HB1.out (al_back hb3))
    clear hb3
    go_wp2
    go_ret
    exact ⟨rfl, HB3.out⟩
  · have hnr := inR_true hn
    rw [hn] at HIn
    rcases hm : inR m with _ | _
    · rw [hm] at HIm
      clear hn hm
      go_enter Try.func10, Try.ntmps10
      go_wp2_with fail
      refine HIn.out.mono ?_
      rintro e w' ⟨rfl, rfl⟩
      go_wp2_with fail
      refine HIm.out.mono ?_
      rintro e w' ⟨rfl, rfl⟩
      go_wp2_with fail
      refine (HP.out (-1) _).mono ?_
      rintro e w1 ⟨v1, rfl, hv1, hn1, hb1⟩
      rw [show [] ++ enc (cl (-1)) = [0] by rw [cl_neg (by omega), enc_small (by omega)]; rfl] at hv1
      have HV1 := hid hv1
      have HB1 := hid hb1
      obtain ⟨a1, c1, rfl⟩ := byt_form hv1
      clear hv1 hb1 hn1
      go_wp2_with fail
      refine (HE.out [0] [0] _ _ _ (HV1.out.below (al1 _ _)) (byt_lit w1 [0] (by unfold B8; decide) (by decide))).mono ?_
      rintro e w2 ⟨rfl, rfl⟩
      go_wp2_with fail
      refine (HA.out _).mono ?_
      rintro e w3 ⟨rfl, hb3⟩
      have HB3 := hid (below_both HB1.out (al_back hb3))
      clear hb3
      go_wp2
      go_ret
      exact ⟨rfl, HB3.out⟩
    · have hmr := inR_true hm
      rw [hm] at HIm
      clear hn hm
      obtain ⟨N, rfl⟩ : ∃ N : Nat, n = (N : Int) := ⟨n.toNat, by omega⟩
      obtain ⟨M, rfl⟩ : ∃ M : Nat, m = (M : Int) := ⟨m.toNat, by omega⟩
      have HPn := hid (HP.out (N : Int))
      have HPm := hid (HP.out (M : Int))
      rw [show [] ++ enc (cl (N : Int)) = enc N by rw [cl_nat (by omega)]; rfl] at HPn
      rw [show [] ++ enc (cl (M : Int)) = enc M by rw [cl_nat (by omega)]; rfl] at HPm
      have HMO1 := hid (fun h : N ≤ M => enc_mono h)
      have HMO2 := hid (fun h : M ≤ N => enc_mono h)
      have HINJ := hid (fun h : enc N = enc M => enc_inj (by unfold top; omega) (by unfold top; omega) h)
      have HG0 := hid (grp_start N)
      have hNl : (enc N).length ≤ 8 := enc_le8 (by unfold top; omega)
      go_enter Try.func10, Try.ntmps10
      go_wp2_with fail
      refine HIn.out.mono ?_
      rintro e w' ⟨rfl, rfl⟩
      go_wp2_with fail
      refine HIm.out.mono ?_
      rintro e w' ⟨rfl, rfl⟩
      go_wp2_with fail
      refine (HPn.out _).mono ?_
      rintro e w1 ⟨v1, rfl, hv1, hn1, hb1⟩
      have HV1 := hid hv1
      have HB1 := hid hb1
      obtain ⟨a1, c1, rfl⟩ := byt_form hv1
      clear hv1 hb1 hn1
      go_wp2_with fail
      refine (HPm.out _).mono ?_
      rintro e w2 ⟨v2, rfl, hv2, hn2, hb2⟩
      have HV2 := hid hv2
      have HV1b := hid (HV1.out.below hb2)
      have HB2 := hid (below_both HB1.out hb2)
      obtain ⟨a2, c2, rfl⟩ := byt_form hv2
      clear hv2 hb2 hn2 HV1 HB1
      go_wp2
      go_loopw [7, 8] (fun g x wr => ∃ (X G : Nat), X ≤ 9007199254740991 ∧ G ≤ 100 ∧ g = .int .i64 (G : Int) ∧ x = .int .i64 (X : Int) ∧ Hid (Grp N X G) ∧ w2 = wr) (fun _ x _ => (Go.RowKit.intOf x).toNat)
      case atStart => exact ⟨N / 128, 1, by omega, by omega, rfl, by go_num, HG0, rfl⟩
      case round =>
        obtain ⟨X, G, hX, hG, rfl, rfl, HG, rfl⟩ := hrel
        by_cases hx0 : 0 < X
        · have d1 : decide ((0 : Int) < (X : Int)) = true := by simp; omega
          go_wp2
          go_roundw
          case rel => exact ⟨X / 128, G + 1, by omega, by have h := HG.out; unfold Grp at h; omega, by go_num, by go_num, hid (grp_next HG.out hx0), trivial⟩
          case measure => simp [Go.RowKit.intOf]; omega
        · obtain rfl : X = 0 := by omega
          have HGE := hid (grp_end HG.out)
          rcases Nat.lt_trichotomy N M with hrr | hrr | hrr
          · have he : decide (enc N = enc M) = false := decide_eq_false (fun h => by have := HINJ.out h; omega)
            have g1 : decide (M < N) = false := by simp; omega
            have g2 : decide (N < M) = true := by simp; omega
            have g4 : decide ((enc M).length < (enc N).length) = false := by have := HMO1.out; have := HMO2.out; simp; omega
            have g5 : ((N : Int) == (M : Int)) = false := by rw [beq_eq_false_iff_ne]; omega
            have g6 : (((enc N).length : Int) == (G : Int)) = true := by rw [HGE.out]; simp
            have HQ := hid (HE.out (enc N) (enc M) _ _ w2 HV1b.out HV2.out)
            rw [he] at HQ
            clear hrr
            go_wp2_with fail
            refine HQ.out.mono ?_
            rintro e w3 ⟨rfl, rfl⟩
            go_wp2_with fail
            refine (HA.out _).mono ?_
            rintro e w4 ⟨rfl, hb4⟩
            have HB4 := hid (below_both HB2.out hb4)
            clear hb4
            go_wp2
            go_ret
            exact ⟨rfl, HB4.out⟩
          · have he : decide (enc N = enc M) = true := decide_eq_true (by rw [hrr])
            have g1 : decide (M < N) = false := by simp; omega
            have g2 : decide (N < M) = false := by simp; omega
            have g5 : ((N : Int) == (M : Int)) = true := by simp; omega
            have g6 : (((enc N).length : Int) == (G : Int)) = true := by rw [HGE.out]; simp
            have HQ := hid (HE.out (enc N) (enc M) _ _ w2 HV1b.out HV2.out)
            rw [he] at HQ
            clear hrr
            go_wp2_with fail
            refine HQ.out.mono ?_
            rintro e w3 ⟨rfl, rfl⟩
            go_wp2_with fail
            refine (HA.out _).mono ?_
            rintro e w4 ⟨rfl, hb4⟩
            have HB4 := hid (below_both HB2.out hb4)
            clear hb4
            go_wp2
            go_ret
            exact ⟨rfl, HB4.out⟩
          · have he : decide (enc N = enc M) = false := decide_eq_false (fun h => by have := HINJ.out h; omega)
            have g1 : decide (M < N) = true := by simp; omega
            have g2 : decide (N < M) = false := by simp; omega
            have g3 : decide ((enc N).length < (enc M).length) = false := by have := HMO1.out; have := HMO2.out; simp; omega
            have g5 : ((N : Int) == (M : Int)) = false := by rw [beq_eq_false_iff_ne]; omega
            have g6 : (((enc N).length : Int) == (G : Int)) = true := by rw [HGE.out]; simp
            have HQ := hid (HE.out (enc N) (enc M) _ _ w2 HV1b.out HV2.out)
            rw [he] at HQ
            clear hrr
            go_wp2_with fail
            refine HQ.out.mono ?_
            rintro e w3 ⟨rfl, rfl⟩
            go_wp2_with fail
            refine (HA.out _).mono ?_
            rintro e w4 ⟨rfl, hb4⟩
            have HB4 := hid (below_both HB2.out hb4)
            clear hb4
            go_wp2
            go_ret
            exact ⟨rfl, HB4.out⟩
end Go.Proofs.Ytchpoddfjbopbaa
