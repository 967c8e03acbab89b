/- The law RunlengthDecodes: its walk. -/
import Derived.Test.YtielamoaghibgaaSf
import Derived.Test.YtielamoaghibgaaRr
namespace Go.Proofs.Ytielamoaghibgaa
open Go.RowKit Go.Lib

set_option maxHeartbeats 4000000 in
set_option maxRecDepth 100000 in
theorem decodes_walk (s : List Nat) (m : Int) (v : Value) (w : World) (hv : Byt w v s) (hn : NilOk v) : Calls Try.prog 4 #[v, .int .i64 m] w (GoodB w) := by
  have HA := hid awake_any
  have HV := hid hv
  have HN := hid hn
  have hsl := byt_len hv
  obtain ⟨A, c, rfl⟩ := byt_form hv
  clear hv hn
  by_cases hbig : 2000 < s.length
  · have d1 : decide ((2000 : Int) < (s.length : Int)) = true := by simp; omega
    go_enter Try.func4, Try.ntmps4
    go_wp2_with fail
    refine (HA.out _).mono ?_
    rintro e w1 ⟨rfl, hb1⟩
    have HB1 := hid hb1
    clear hb1
    go_wp2
    go_ret
    exact ⟨rfl, HB1.out⟩
  · have d1 : decide ((2000 : Int) < (s.length : Int)) = false := by simp; omega
    have HC := hid (decode_any s _ m w HV.out HN.out (by omega))
    have hl9 : s.length ≤ 90000 := by omega
    go_enter Try.func4, Try.ntmps4
    go_wp2_with fail
    refine HC.out.mono ?_
    rintro e w2 h
    clear HC
    rcases dec_two (capm m) s with ⟨l, hd, hrl, hlm⟩ | ⟨er, hd, hne⟩
    · obtain ⟨v2, rfl, hb, hs⟩ := dec_li h hd
      have HB2 := hid hb
      have HS2 := hid hs
      have HD := hid hd
      obtain ⟨A2, c2, rfl⟩ := sec_form hs
      have HC := hid (refDecode_any s _ m w2 (HV.out.below HB2.out) HN.out hl9)
      clear h hb hs hd hrl hlm
      go_wp2_with fail
      refine HC.out.mono ?_
      rintro e w3 h
      obtain ⟨v3, rfl, hb, hs⟩ := dec_li h HD.out
      have HB3 := hid (below_both HB2.out hb)
      have hs3 := HS2.out.below hb
      have HQ := hid (eqSame_any l l _ v3 w3 hs3.2 hs.2 hs3.1 hs.1)
      rw [decide_eq_true rfl] at HQ
      obtain ⟨A3, c3, rfl⟩ := sec_form hs
      clear h hb hs hs3 HC HS2 HD
      go_wp2_with fail
      refine HQ.out.mono ?_
      rintro e w6 h
      obtain ⟨rfl, hb⟩ := saysQ_B h
      have HB6 := hid (below_both HB3.out hb)
      clear h hb HQ
      go_wp2_with fail
      refine (HA.out _).mono ?_
      rintro e w7 ⟨rfl, hb7⟩
      have HB7 := hid (below_both HB6.out hb7)
      clear hb7
      go_wp2
      go_ret
      exact ⟨rfl, HB7.out⟩
    · obtain ⟨rfl, hb⟩ := dec_er h hd
      have HB2 := hid hb
      have HD := hid hd
      have HC := hid (refDecode_any s _ m w2 (HV.out.below HB2.out) HN.out hl9)
      have HNE := hid hne
      clear h hb hd hne
      go_wp2_with fail
      refine HC.out.mono ?_
      rintro e w3 h
      obtain ⟨rfl, hb⟩ := dec_er h HD.out
      have HB3 := hid (below_both HB2.out hb)
      have HQ := hid (eqSame_any [] [] (.slice none 0 0) (.slice none 0 0) w3 (arr_nil _ _) (arr_nil _ _) (fun s h => by cases h) (fun s h => by cases h))
      rw [decide_eq_true rfl] at HQ
      have dr : (er == er) = true := by simp
      clear h hb HC HD
      go_wp2_with fail
      refine HQ.out.mono ?_
      rintro e w6 h
      obtain ⟨rfl, hb⟩ := saysQ_B h
      have HB6 := hid (below_both HB3.out hb)
      clear h hb HQ
      go_wp2_with fail
      refine (HA.out _).mono ?_
      rintro e w7 ⟨rfl, hb7⟩
      have HB7 := hid (below_both HB6.out hb7)
      clear hb7
      go_wp2
      go_ret
      exact ⟨rfl, HB7.out⟩
end Go.Proofs.Ytielamoaghibgaa
