/- The law RunlengthRepeats: its walk. -/
import Derived.Test.YtielamoaghibgaaRq
namespace Go.Proofs.Ytielamoaghibgaa
open Go.RowKit Go.Lib

theorem dNum_ne {s : List Nat} {er : Int} (h : dNum s = .error er) : er ≠ 0 := by
  unfold dNum at h
  split at h
  · cases h
  · rename_i hn
    cases h
    exact hn
theorem dGrp_ne {room : Nat} {s : List Nat} {er : Int} (h : dGrp room s = .error er) : er ≠ 0 := by
  unfold dGrp at h
  rcases hd : dNum s with e | ⟨x, u⟩
  · rw [hd] at h; cases h; exact dNum_ne hd
  · rw [hd] at h
    simp only at h
    split at h
    · cases h; decide
    split at h
    · cases h; decide
    split at h
    · cases h
    split at h
    · split at h
      · cases h; decide
      · cases h
    split at h
    · cases h; decide
    · cases h
theorem dAll_ne (f : Nat) : ∀ (most : Nat) (acc : List Sect) (s : List Nat) (er : Int), dAll f most acc s = .error er → er ≠ 0 := by
  induction f with
  | zero => intro most acc s er h; rw [dAll] at h; cases h
  | succ f ih =>
    intro most acc s er h
    rw [dAll] at h
    by_cases h0 : s = []
    · rw [if_pos h0] at h; cases h
    · rw [if_neg h0] at h
      rcases hd : dGrp (most - acc.length) s with e | ⟨g, t⟩
      · rw [hd] at h; cases h; exact dGrp_ne hd
      · rw [hd] at h; exact ih _ _ _ _ h
theorem dec_ne {m : Nat} {b : List Nat} {er : Int} (h : dec m b = .error er) : er ≠ 0 := by
  unfold dec at h
  rcases hd : dA m [] b with e | l
  · rw [hd] at h; cases h; exact dAll_ne _ _ _ _ _ hd
  · rw [hd] at h
    simp only at h
    split at h
    · cases h
    · cases h; decide
theorem dec_two (m : Nat) (b : List Nat) : (∃ l, dec m b = .ok l ∧ rl l = b ∧ l.length ≤ m) ∨ ∃ er, dec m b = .error er ∧ er ≠ 0 := by
  rcases h : dec m b with er | l
  · exact .inr ⟨er, rfl, dec_ne h⟩
  · exact .inl ⟨l, rfl, dec_ok h⟩

set_option maxHeartbeats 4000000 in
set_option maxRecDepth 100000 in
theorem repeats_walk (s : List Nat) (m : Nat) (v : Value) (w : World) (hv : Byt w v s) (hn : NilOk v) (hm : m < 256) : Calls Try.prog 7 #[v, .int .u8 (m : Int)] w (GoodB w) := by
  have HA := hid awake_any
  have HV := hid hv
  have HN := hid hn
  have hsl := byt_len hv
  obtain ⟨A, c, rfl⟩ := byt_form hv
  have hcap := byt_cap' hv
  clear hv hn
  by_cases hbig : 2000 < s.length
  · have d1 : decide ((2000 : Int) < (s.length : Int)) = true := by simp; omega
    go_enter Try.func7, Try.ntmps7
    go_wp2_with fail
    refine (HA.out _).mono ?_
    rintro e w1 ⟨rfl, hb1⟩
    have HB1 := hid hb1
    clear hb1
    go_wp2
    go_ret
    exact ⟨rfl, HB1.out⟩
  · have d1 : decide ((2000 : Int) < (s.length : Int)) = false := by simp; omega
    have HC := hid (decode_any s _ (m : Int) w HV.out HN.out (by omega))
    rw [show capm (m : Int) = m by unfold capm; omega] at HC
    go_enter Try.func7, Try.ntmps7
    go_wp2_with fail
    refine HC.out.mono ?_
    rintro e w2 h
    clear HC
    rcases dec_two m s with ⟨l, hd, hrl, hlm⟩ | ⟨er, hd, hne⟩
    · obtain ⟨v2, rfl, hb, hs⟩ := dec_li h hd
      have HB2 := hid hb
      have HS2 := hid hs
      have HRL := hid hrl
      have HE := hid (encode_any l v2 w2 hs (by omega))
      rw [hrl] at HE
      obtain ⟨A2, c2, rfl⟩ := sec_form hs
      have d3 : decide (m < l.length) = false := by simp; omega
      clear h hb hs hd
      go_wp2_with fail
      refine HE.out.mono ?_
      rintro e w3 ⟨v3, rfl, ho, hb⟩
      have HB3 := hid (below_both HB2.out hb)
      have HQ := hid (equal_any s s v3 _ w3 (byt_of_own ho HV.out.1) (HV.out.below HB3.out))
      rw [decide_eq_true rfl] at HQ
      have HS3 := hid (HS2.out.below hb)
      clear ho hb HE HS2 HB2
      go_wp2_with fail
      refine HQ.out.mono ?_
      rintro e w4 ⟨rfl, rfl⟩
      clear HQ
      by_cases h0 : s = []
      · subst h0
        have hl0 : l = [] := by
          rcases Classical.em (l = []) with h | h
          · exact h
          · have := (rl_len _ l (Nat.le_refl _) HS3.out.1).2 h
            rw [HRL.out] at this
            simp at this
        subst hl0
        go_wp2_with fail
        refine (HA.out _).mono ?_
        rintro e w5 ⟨rfl, hb5⟩
        have HB5 := hid (below_both HB3.out hb5)
        clear hb5
        go_wp2
        go_ret
        exact ⟨rfl, HB5.out⟩
      · have hp : 0 < s.length := List.length_pos_iff.2 h0
        have d4 : ((s.length : Int) == 0) = false := by simp; omega
        clear h0
        have htl : (s.take (s.length - 1)).length = s.length - 1 := by rw [List.length_take]; omega
        have hne : s.take (s.length - 1) ≠ s := fun e => by rw [e] at htl; omega
        have hb3 := byt_upto (HV.out.below HB3.out) (s.length - 1)
        rw [htl] at hb3
        have HC := hid (decode_any (s.take (s.length - 1)) (.slice A (s.length - 1) c) (m : Int) w3 hb3 (fun n c' e => by injection e with e1 e2 e3; subst e1 e3; exact HN.out _ _ rfl) (by rw [htl]; omega))
        rw [show capm (m : Int) = m by unfold capm; omega] at HC
        have HNE := hid hne
        clear htl hne hb3
        go_wp2_with fail
        refine HC.out.mono ?_
        rintro e w5 h
        clear HC
        rcases dec_two m (s.take (s.length - 1)) with ⟨l', hd, hrl', hlm'⟩ | ⟨er, hd, hne⟩
        · obtain ⟨v5, rfl, hb, hs⟩ := dec_li h hd
          have HB5 := hid (below_both HB3.out hb)
          have hs3 := HS3.out.below hb
          have HQ := hid (eqSame_any l' l v5 _ w5 hs.2 hs3.2 hs.1 hs3.1)
          have hdl : decide (l' = l) = false := decide_eq_false (fun e => HNE.out (by rw [← hrl', e]; exact hrl))
          rw [hdl] at HQ
          obtain ⟨A5, c5, rfl⟩ := sec_form hs
          clear h hb hs hs3 hd hrl' hlm' hdl HB3 HS3
          go_wp2_with fail
          refine HQ.out.mono ?_
          rintro e w6 h
          obtain ⟨rfl, hb⟩ := saysQ_B h
          have HB6 := hid (below_both HB5.out hb)
          clear h hb HQ HB5
          go_wp2_with fail
          refine (HA.out _).mono ?_
          rintro e w7 ⟨rfl, hb7⟩
          have HB7 := hid (below_both HB6.out hb7)
          clear hb7
          go_wp2
          go_ret
          exact ⟨rfl, HB7.out⟩
        · obtain ⟨rfl, hb⟩ := dec_er h hd
          have HB5 := hid (below_both HB3.out hb)
          have d5 : (er != 0) = true := by simpa using hne
          clear h hb hd HB3 HS3
          go_wp2_with fail
          refine (HA.out _).mono ?_
          rintro e w7 ⟨rfl, hb7⟩
          have HB7 := hid (below_both HB5.out hb7)
          clear hb7
          go_wp2
          go_ret
          exact ⟨rfl, HB7.out⟩
    · obtain ⟨rfl, hb⟩ := dec_er h hd
      have HB2 := hid hb
      have d3 : (er != 0) = true := by simpa using hne
      clear h hb hd
      go_wp2_with fail
      refine (HA.out _).mono ?_
      rintro e w5 ⟨rfl, hb5⟩
      have HB5 := hid (below_both HB2.out hb5)
      clear hb5
      go_wp2
      go_ret
      exact ⟨rfl, HB5.out⟩
end Go.Proofs.Ytielamoaghibgaa
