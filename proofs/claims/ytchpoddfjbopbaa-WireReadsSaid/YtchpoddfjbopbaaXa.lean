/- The reference's readers: number, rest. -/
import Derived.Test.YtchpoddfjbopbaaRh
namespace Go.Proofs.Ytchpoddfjbopbaa
open Go.RowKit Go.Lib

theorem racc_eq (x k m N : Nat) (hk : k < 8) (hm : m < 128 ^ k) (hN : m + x % 128 * 128 ^ k = N) : wrap64 ((m : Int) + wrap64 ((x : Int) % 128 * ((128 ^ k : Nat) : Int))) = (N : Int) := by
  have h1 := weigh_le x k m hm
  have h2 := pow_le8 k hk
  have e2 : ((x : Int) % 128 * ((128 ^ k : Nat) : Int)) = ((x % 128 * 128 ^ k : Nat) : Int) := by simp
  rw [e2]
  obtain ⟨P, hP⟩ : ∃ P, x % 128 * 128 ^ k = P := ⟨_, rfl⟩
  rw [hP] at h1 hN ⊢
  have e := IntWalk.wrap64_in (P : Int) (by omega)
  rw [e, IntWalk.wrap64_in _ (by omega)]
  omega
theorem wt_eq (k : Nat) (hk : k < 8) : wrap64 (((128 ^ k : Nat) : Int) * 128) = ((128 ^ (k + 1) : Nat) : Int) := by
  have h2 := pow_le8 k hk
  rw [Nat.pow_succ] at h2 ⊢
  obtain ⟨P, hP⟩ : ∃ P, 128 ^ k = P := ⟨_, rfl⟩
  rw [hP] at h2 ⊢
  rw [IntWalk.wrap64_in _ (by omega)]
  omega

set_option maxHeartbeats 2000000 in
set_option maxRecDepth 100000 in
theorem rrnum (s : List Nat) (v : Value) (w : World) (hv : Byt w v s) :
    Calls Try.prog 65 #[v] w fun e w' => w' = w ∧ ∃ n k : Nat, ∃ er : Int, rd 8 0 0 s = (n, k, er) ∧ e = .returned (.tuple #[.int .i64 (n : Int), .int .i64 (k : Int), .int .i64 er]) := by
  obtain ⟨A, c, rfl⟩ := byt_form hv
  have h8 := hid hv.1
  have hcp := byt_cap hv
  obtain ⟨_, A', c', e1, h1, h2, b, off, hA, hc⟩ := hv
  injection e1 with e1 _ e2
  subst e1 e2
  unfold maxLen at h2
  have HC := hid hc
  have HA := hid hA
  clear hc hA
  go_enter Try.func65, Try.ntmps65
  go_wp2
  go_loopw [5, 6, 7] (fun n t i wr => ∃ (k m P : Nat), k ≤ 8 ∧ k ≤ s.length ∧ m < 72057594037927936 ∧ P ≤ 72057594037927936 ∧ i = .int .i64 (k : Int) ∧ n = .int .i64 (m : Int) ∧ t = .int .i64 (P : Int) ∧ Hid (128 ^ k = P) ∧ Hid (m < 128 ^ k) ∧ Hid (rd (8 - k) k m (s.drop k) = rd 8 0 0 s) ∧ w = wr) (fun _ _ i _ => 8 - (Lib.intOf i).toNat)
  case atStart => exact ⟨0, 0, 1, by omega, by omega, by omega, by omega, rfl, rfl, rfl, hid (by simp), hid (by simp), hid rfl, rfl⟩
  case round =>
    obtain ⟨k, m, P, hk, hks, hm, hP, rfl, rfl, rfl, HP, HM, HR, rfl⟩ := hrel
    by_cases hk8 : k < 8
    · have d8 : decide ((k : Int) < 8) = true := by simp; omega
      by_cases hkl : k = s.length
      · have d1 : decide (s.length ≤ k) = true := by simp; omega
        have HE : Hid (rd 8 0 0 s = (0, 0, 10)) := hid (by
          have h := HR.out
          rw [hkl, List.drop_length, show 8 - s.length = (7 - s.length) + 1 by omega, rd_nil] at h
          exact h.symm)
        clear hkl
        go_wp2
        refine bodyPost_ret (v := .tuple #[.int .i64 0, .int .i64 0, .int .i64 10]) (by simp [results, Try.results65, go_sem]) rfl ?_
        exact ⟨rfl, 0, 0, 10, HE.out, rfl⟩
      · have d1 : decide (s.length ≤ k) = false := by simp; omega
        have hkl' : k < s.length := by omega
        obtain ⟨x, hx⟩ : ∃ x, s[k]? = some x := ⟨s[k], List.getElem?_eq_getElem hkl'⟩
        have hx8 : x < 256 := h8.out x (List.mem_of_getElem? hx)
        obtain ⟨hA1, hblt⟩ := HA.out (by omega)
        subst hA1
        have hcx := HC.out k x hx
        have HD : Hid (s.drop k = x :: s.drop (k + 1)) := hid (by
          obtain ⟨hlt, rfl⟩ := List.getElem?_eq_some_iff.1 hx
          exact List.drop_eq_getElem_cons hlt)
        have HR2 : Hid (rd 8 0 0 s = if x < 128 then (if x = 0 ∧ 0 < k ∨ top < m + x % 128 * 128 ^ k then (0, 0, 3) else (m + x % 128 * 128 ^ k, k + 1, 0)) else rd (8 - (k + 1)) (k + 1) (m + x % 128 * 128 ^ k) (s.drop (k + 1))) := hid (by
          rw [← HR.out, HD.out, show 8 - k = (8 - (k + 1)) + 1 by omega, rd_cons])
        obtain ⟨N, hN⟩ : ∃ N, m + x % 128 * 128 ^ k = N := ⟨_, rfl⟩
        have hw := racc_eq x k m N hk8 HM.out hN
        rw [HP.out] at hw
        have hNl : N < 72057594037927936 := by rw [← hN]; exact Nat.lt_of_lt_of_le (weigh_le x k m HM.out) (pow_le8 k hk8)
        have HNp : Hid (N < 128 ^ (k + 1)) := hid (by rw [← hN]; exact weigh_le x k m HM.out)
        obtain ⟨P2, hP2⟩ : ∃ P2, 128 ^ (k + 1) = P2 := ⟨_, rfl⟩
        have hwt := wt_eq k hk8
        rw [hP2, HP.out] at hwt
        have HP2 := hid hP2
        have hP2l : P2 ≤ 72057594037927936 := by rw [← hP2]; exact pow_le8 k hk8
        rw [hN] at HR2
        clear hx hkl HR hN hm hP2
        by_cases hx1 : 128 ≤ x
        · have e1 : decide ((x : Int) < 128) = false := by simp; omega
          go_wp2
          go_roundw
          case rel => exact ⟨k + 1, N, P2, by omega, by omega, hNl, hP2l, by go_num, int_eq hw, int_eq hwt, HP2, HNp, hid (by have h := HR2.out; rw [if_neg (by omega)] at h; exact h.symm), trivial⟩
          case measure => simp [Lib.intOf]; omega
        · have e1 : decide ((x : Int) < 128) = true := by simp; omega
          have hHE : ((x = 0 ∧ 0 < k) ∨ top < N) → Hid (rd 8 0 0 s = (0, 0, 3)) := fun hbad => hid (by
            have h := HR2.out
            rw [if_pos (by omega), if_pos hbad] at h
            exact h)
          by_cases hz : x = 0 ∧ 0 < k
          · have e2 : ((x : Int) == 0) = true := by simp; omega
            have HE := hHE (.inl hz)
            obtain ⟨hz1, hz2⟩ := hz
            have HZ := hid hz1
            clear hz1 hHE
            go_wp2
            refine bodyPost_ret (v := .tuple #[.int .i64 0, .int .i64 0, .int .i64 3]) (by simp [results, Try.results65, go_sem]) rfl ?_
            exact ⟨rfl, 0, 0, 3, HE.out, rfl⟩
          · by_cases hbig : 9007199254740991 < N
            · have HE := hHE (.inr hbig)
              have e3 : decide ((9007199254740991 : Int) < (N : Int)) = true := by simp; omega
              clear hHE
              have hxp : 0 < x := by
                rcases Nat.eq_zero_or_pos x with hx0 | hx0
                · obtain rfl : k = 0 := by omega
                  have := HNp.out
                  omega
                · exact hx0
              have e2 : ((x : Int) == 0) = false := by rw [beq_eq_false_iff_ne]; omega
              clear hz
              go_wp2
              refine bodyPost_ret (v := .tuple #[.int .i64 0, .int .i64 0, .int .i64 3]) (by simp [results, Try.results65, go_sem]) rfl ?_
              exact ⟨rfl, 0, 0, 3, HE.out, rfl⟩
            · have e3 : decide ((9007199254740991 : Int) < (N : Int)) = false := by simp; omega
              have HE : Hid (rd 8 0 0 s = (N, k + 1, 0)) := hid (by
                have h := HR2.out
                rw [if_pos (by omega), if_neg (by unfold top; omega)] at h
                exact h)
              clear hHE
              rcases Nat.eq_zero_or_pos k with hk0 | hk0
              · clear hz
                have HK0 := hid hk0
                have g0 : decide (0 < k) = false := by rw [hk0]; rfl
                have g1 : decide ((0 : Int) < (k : Int)) = false := by rw [hk0]; rfl
                clear hk0
                rcases Nat.eq_zero_or_pos x with hx0 | hx0
                · have e2 : ((x : Int) == 0) = true := by simp; omega
                  have HX0 := hid hx0
                  clear hx0
                  go_wp2
                  refine bodyPost_ret (v := .tuple #[.int .i64 (N : Int), .int .i64 ((k : Int) + 1), .int .i64 0]) (by simp [results, Try.results65, go_sem]) rfl ?_
                  exact ⟨rfl, N, k + 1, 0, HE.out, rfl⟩
                · have e2 : ((x : Int) == 0) = false := by rw [beq_eq_false_iff_ne]; omega
                  go_wp2
                  refine bodyPost_ret (v := .tuple #[.int .i64 (N : Int), .int .i64 ((k : Int) + 1), .int .i64 0]) (by simp [results, Try.results65, go_sem]) rfl ?_
                  exact ⟨rfl, N, k + 1, 0, HE.out, rfl⟩
              · have e2 : ((x : Int) == 0) = false := by rw [beq_eq_false_iff_ne]; omega
                clear hz
                go_wp2
                refine bodyPost_ret (v := .tuple #[.int .i64 (N : Int), .int .i64 ((k : Int) + 1), .int .i64 0]) (by simp [results, Try.results65, go_sem]) rfl ?_
                exact ⟨rfl, N, k + 1, 0, HE.out, rfl⟩
    · obtain rfl : k = 8 := by omega
      have HE : Hid (rd 8 0 0 s = (0, 0, 3)) := hid (by
        have h := HR.out
        rw [Nat.sub_self, rd_zero] at h
        exact h.symm)
      go_wp2
      refine bodyPost_ret (v := .tuple #[.int .i64 0, .int .i64 0, .int .i64 3]) (by simp [results, Try.results65, go_sem]) rfl ?_
      exact ⟨rfl, 0, 0, 3, HE.out, rfl⟩

set_option maxHeartbeats 2000000 in
set_option maxRecDepth 100000 in
theorem rrest (s : List Nat) (k : Nat) (v : Value) (w : World) (hv : Byt w v s) (hn : NilOk v) (hk : k ≤ s.length) (hl : s.length ≤ 90000) :
    Calls Try.prog 66 #[v, .int .i64 (k : Int)] w (MadeO w (s.drop k)) := by
  obtain ⟨A, c, rfl⟩ := byt_form hv
  have hcp := byt_cap hv
  have H8 : Hid (B8 (s.drop k)) := hid (fun x hx => hv.1 x (List.mem_of_mem_drop hx))
  have HV := hid (byt_from hv hk)
  have HN : Hid (NilOk (.slice (fromA A c k) (s.length - k) (c - k))) := hid (by
    rcases A with _ | a
    · have h0 := byt_none hv
      subst h0
      have hc := hn _ _ rfl
      subst hc
      intro n c h
      injection h with _ _ h3
      omega
    · intro n c h
      injection h with h1
      unfold fromA at h1
      split at h1 <;> cases h1)
  have HS := run_slice_from A s.length c k hk
  have hdl : (s.drop k).length = s.length - k := List.length_drop
  clear hv hn
  obtain ⟨FA, hFA⟩ : ∃ FA, fromA A c k = FA := ⟨_, rfl⟩
  rw [hFA] at HV HN HS
  obtain ⟨D, hD⟩ : ∃ D, s.drop k = D := ⟨_, rfl⟩
  rw [hD] at HV H8 hdl ⊢
  rw [← hdl] at HS HV HN
  have hD9 : D.length ≤ 90000 := by omega
  clear hFA hD hdl
  go_enter Try.func66, Try.ntmps66
  go_wp2_with (at_builtin; refine append_byt rfl (.tmp 6) (.tmp 9) rfl w.heap.size _ 0 [] rfl (World.ownsRow_nil _ _ _ _) D _ rfl HV.out HN.out (by omega) (Nat.le_refl _) ?_; intro v1 w1 hown1 hg1; have HB1 := hid (below_own (Below.refl _ w) (World.ownsRow_nil _ _ _ _) hg1 (Nat.le_refl _) (Nat.le_refl _)); have HO1 : Hid (w1.ownsRow w.heap.size 5 1 v1 D.length (D.map byteV)) := hid (by simpa using hown1); clear hown1 hg1)
  obtain ⟨av, cv, rfl⟩ := own_form HO1.out
  go_wp2
  go_ret
  exact ⟨_, rfl, HO1.out, HB1.out⟩
end Go.Proofs.Ytchpoddfjbopbaa
