/- The reader's number. -/
import Derived.Test.YtldlddoealpomaaP
namespace Go.Proofs.Ytldlddoealpomaa
open Go.RowKit Go.Lib

def fromA (A : Option Addr) (c k : Nat) : Option Addr := if c = k then A else A.map (fun x => x.add k)
theorem run_slice_from (A : Option Addr) (n c k : Nat) (hk : k ≤ n) (W : World) : (Instr.slice 22 (.slice A n c) (some (.int .i64 (k : Int))) none none).run Try.prog W = .ok (.slice (fromA A c k) (n - k) (c - k)) W := by
  simp [Instr.slice, run_underlying Try.underlying22, Instr.sliceBounds, Sem.run_bind, run_sliceBound_if, fromA]
  intro h
  omega
theorem byt_from {w : World} {A : Option Addr} {cap k : Nat} {x : List Nat} (h : Byt w (.slice A x.length cap) x) (hk : k ≤ x.length) : Byt w (.slice (fromA A cap k) (x.length - k) (cap - k)) (x.drop k) := by
  obtain ⟨h8, A', cap', e, h1, h2, b, off, hA, hc⟩ := h
  injection e with e1 e2 e3
  subst e1 e3
  refine ⟨fun y hy => h8 y (List.mem_of_mem_drop hy), fromA A cap k, cap - k, by rw [List.length_drop], by rw [List.length_drop]; omega, by omega, b, off + k, fun h => ?_, fun i y hy => ?_⟩
  · rw [List.length_drop] at h
    obtain ⟨hA1, hA2⟩ := hA (by omega)
    refine ⟨?_, hA2⟩
    unfold fromA
    rw [if_neg (by omega), hA1]
    simp [Addr.add]
  · rw [List.getElem?_drop] at hy
    rw [Nat.add_assoc]
    exact hc _ _ hy
theorem byt_cap {w : World} {A : Option Addr} {n c : Nat} {l : List Nat} (h : Byt w (.slice A n c) l) : l.length ≤ c := by
  obtain ⟨_, A', c', e, h1, _⟩ := h
  injection e with _ _ e3
  omega

/-- What reading at s in the state er answers. -/
def Got {α : Type} (D : Reads α) (V : World → Value → α → Prop) (Sh : Value → Prop) (w0 w : World) (g : Nat) (s : List Nat) (er : Int) (e : Ending) (w' : World) : Prop :=
  ∃ v, e = .returned v ∧ Sh v ∧ Upd g w w' ∧ ((∃ x t, er = 0 ∧ D s = .ok (x, t) ∧ V w' v x ∧ Rd w0 w' g t 0) ∨ ∃ er', er' ≠ 0 ∧ (er = 0 → D s = .error er') ∧ (er ≠ 0 → er' = er) ∧ Rd w0 w' g [] er')
def VNat (_ : World) (v : Value) (n : Nat) : Prop := v = .int .i64 (n : Int)
def ShNat (v : Value) : Prop := ∃ n : Nat, n ≤ 9007199254740991 ∧ v = .int .i64 (n : Int)
theorem rd_nil (f i n : Nat) : rd (f + 1) i n [] = (0, 0, 10) := by unfold rd; rfl
theorem rd_cons (f i n b : Nat) (t : List Nat) : rd (f + 1) i n (b :: t) = if b < 128 then (if b = 0 ∧ 0 < i ∨ top < n + b % 128 * 128 ^ i then (0, 0, 3) else (n + b % 128 * 128 ^ i, i + 1, 0)) else rd f (i + 1) (n + b % 128 * 128 ^ i) t := by rw [rd]
theorem rd_zero (i n : Nat) (t : List Nat) : rd 0 i n t = (0, 0, 3) := by unfold rd; rfl
theorem dNum_err {s : List Nat} {v k : Nat} {er : Int} (h : rd 8 0 0 s = (v, k, er)) (he : er ≠ 0) : dNum s = .error er := by
  unfold dNum; rw [h]; exact if_neg he
theorem dNum_ok {s : List Nat} {v k : Nat} (h : rd 8 0 0 s = (v, k, 0)) : dNum s = .ok (v, s.drop k) := by
  unfold dNum; rw [h]; exact if_pos rfl

theorem pow_le (k : Nat) (hk : k < 8) : 128 ^ k ≤ 562949953421312 := by
  have : 128 ^ k ≤ 128 ^ 7 := Nat.pow_le_pow_right (by omega) (by omega)
  simpa using this
theorem sh_eq (x k : Nat) : ((x : Int) % 128 * 2 ^ (7 * k)) = ((x % 128 * 128 ^ k : Nat) : Int) := by
  have e : (2 ^ (7 * k) : Nat) = 128 ^ k := Nat.pow_mul 2 7 k
  have e2 : (2 : Int) ^ (7 * k) = ((2 ^ (7 * k) : Nat) : Int) := by simp
  rw [e2, e]
  simp
theorem weigh_le (x k m : Nat) (hm : m < 128 ^ k) : m + x % 128 * 128 ^ k < 128 ^ (k + 1) := by
  rw [Nat.pow_succ]
  have h1 : x % 128 ≤ 127 := by omega
  have h2 : x % 128 * 128 ^ k ≤ 127 * 128 ^ k := Nat.mul_le_mul_right _ h1
  omega
theorem pow_le8 (k : Nat) (hk : k < 8) : 128 ^ (k + 1) ≤ 72057594037927936 := by
  have : 128 ^ (k + 1) ≤ 128 ^ 8 := Nat.pow_le_pow_right (by omega) (by omega)
  simpa using this
theorem acc_eq (x k m N : Nat) (hk : k < 8) (hm : m < 128 ^ k) (hN : m + x % 128 * 128 ^ k = N) : wrap64 ((m : Int) + wrap64 ((x : Int) % 128 * 2 ^ (7 * k))) = (N : Int) := by
  have h1 := weigh_le x k m hm
  have h2 := pow_le8 k hk
  rw [sh_eq]
  obtain ⟨P, hP⟩ : ∃ P, x % 128 * 128 ^ k = P := ⟨_, rfl⟩
  rw [hP] at h1 hN ⊢
  have e := IntWalk.wrap64_in (P : Int) (by omega)
  rw [e, IntWalk.wrap64_in _ (by omega)]
  omega

set_option maxHeartbeats 2000000 in
set_option maxRecDepth 100000 in
theorem rnum_new (s : List Nat) (g : Nat) (w0 w : World) (hb0 : Below w0.heap.size w0 w) (hr : Rd w0 w g s 0) (hl : s.length ≤ 90000) :
    Calls Try.prog 74 #[.pointer (some ⟨g, 0, none⟩)] w (Got dNum VNat ShNat w0 w g s 0) := by
  have HF := hid (fun (er : Int) => fail_new s er g w0 w hr)
  obtain ⟨v, hb, hv, hn⟩ := hr
  obtain ⟨A, c, rfl⟩ := byt_form hv
  have h8 := hid hv.1
  have hcp := byt_cap hv
  have c0 : w.cell? ⟨g, 0, none⟩ = some (.slice A s.length c) := cell_of_row _ _ 0 _ _ _ hb
  have f0 := box_fr hb 0
  have HB := hid hb
  have HV := hid hv
  obtain ⟨_, A', c', e1, h1, h2, b, off, hA, hc⟩ := hv
  injection e1 with e1 _ e2
  subst e1 e2
  unfold maxLen at h2
  have HC := hid (fun (i x : Nat) (h : s[i]? = some x) => (hb0.cell (p := ⟨b, off + i, none⟩) (hA (by have := (List.getElem?_eq_some_iff.1 h).1; omega)).2).trans (hc i x h))
  have HA := hid hA
  clear hb hc hA hb0
  go_enter Try.func74, Try.ntmps74
  go_wp2
  go_loopw [3, 6] (fun n i wr => ∃ (k m : Nat), k ≤ 8 ∧ k ≤ s.length ∧ m < 72057594037927936 ∧ i = .int .i64 (k : Int) ∧ n = .int .i64 (m : Int) ∧ Hid (m < 128 ^ k) ∧ Hid (rd (8 - k) k m (s.drop k) = rd 8 0 0 s) ∧ w = wr) (fun _ i _ => 8 - (intOf i).toNat)
  case atStart => exact ⟨0, 0, by omega, by omega, by omega, rfl, rfl, hid (by simp), hid rfl, rfl⟩
  case round =>
    obtain ⟨k, m, hk, hks, hm, rfl, rfl, HM, HR, rfl⟩ := hrel
    by_cases hk8 : k < 8
    · have d8 : decide ((k : Int) < 8) = true := by simp; omega
      by_cases hkl : k = s.length
      · have d1 : ((k : Int) == (s.length : Int)) = true := by rw [hkl]; simp
        have HE : Hid (dNum s = .error 10) := hid (by
          have h := HR.out
          rw [hkl, List.drop_length, show 8 - s.length = (7 - s.length) + 1 by omega, rd_nil] at h
          exact dNum_err h.symm (by decide))
        clear hkl
        go_wp2_with fail
        refine (HF.out 10).mono ?_
        rintro e w1 ⟨⟨v1, rfl⟩, hu, hr⟩
        have HU := hid hu
        have HRd := hid hr
        clear hu hr
        go_wp2
        go_ret
        exact ⟨_, rfl, ⟨0, by omega, rfl⟩, HU.out, .inr ⟨10, by decide, fun _ => HE.out, fun h => absurd rfl h, HRd.out⟩⟩
      · have d1 : ((k : Int) == (s.length : Int)) = false := by rw [beq_eq_false_iff_ne]; omega
        have hkl' : k < s.length := by omega
        obtain ⟨x, hx⟩ : ∃ x, s[k]? = some x := ⟨s[k], List.getElem?_eq_getElem hkl'⟩
        have hx8 : x < 256 := h8.out x (List.mem_of_getElem? hx)
        obtain ⟨hA1, hblt⟩ := HA.out (by omega)
        subst hA1
        have hcx := HC.out k x hx
        have HD : Hid (s.drop k = x :: s.drop (k + 1)) := hid (by
          obtain ⟨hlt, rfl⟩ := List.getElem?_eq_some_iff.1 hx
          exact List.drop_eq_getElem_cons hlt)
        have HR2 : Hid (rd 8 0 0 s = if x < 128 then (if x = 0 ∧ 0 < k ∨ top < m + x % 128 * 128 ^ k then (0, 0, 3) else (m + x % 128 * 128 ^ k, k + 1, 0)) else rd (8 - (k + 1)) (k + 1) (m + x % 128 * 128 ^ k) (s.drop (k + 1))) := hid (by
          rw [← HR.out, HD.out, show 8 - k = (8 - (k + 1)) + 1 by omega, rd_cons])
        obtain ⟨N, hN⟩ : ∃ N, m + x % 128 * 128 ^ k = N := ⟨_, rfl⟩
        have hw := acc_eq x k m N hk8 HM.out hN
        have hNl : N < 72057594037927936 := by
          have h1 := weigh_le x k m HM.out
          have h2 := pow_le8 k hk8
          omega
        have HNp : Hid (N < 128 ^ (k + 1)) := hid (by rw [← hN]; exact weigh_le x k m HM.out)
        rw [hN] at HR2
        clear hx hkl HR hN hm
        by_cases hx1 : 128 ≤ x
        · have e1 : decide ((128 : Int) ≤ (x : Int)) = true := by simp; omega
          go_wp2
          go_roundw
          case rel => exact ⟨k + 1, N, by omega, by omega, hNl, by go_num, int_eq hw, HNp, hid (by have h := HR2.out; rw [if_neg (by omega)] at h; exact h.symm), trivial⟩
          case measure => simp [intOf]; omega
        · have e1 : decide ((128 : Int) ≤ (x : Int)) = false := by simp; omega
          have hHE : ((x = 0 ∧ 0 < k) ∨ top < N) → Hid (dNum s = .error 3) := fun hbad => hid (by
            have h := HR2.out
            rw [if_pos (by omega), if_pos hbad] at h
            exact dNum_err h (by decide))
          by_cases hz : x = 0 ∧ 0 < k
          · have e2 : ((x : Int) == 0) = true := by simp; omega
            have HE := hHE (.inl hz)
            obtain ⟨hz1, hz2⟩ := hz
            have HZ := hid hz1
            clear hz1 hHE
            go_wp2_with fail
            refine (HF.out 3).mono ?_
            rintro e w1 ⟨⟨v1, rfl⟩, hu, hr⟩
            have HU := hid hu
            have HRd := hid hr
            clear hu hr
            go_wp2
            go_ret
            exact ⟨_, rfl, ⟨0, by omega, rfl⟩, HU.out, .inr ⟨3, by decide, fun _ => HE.out, fun h => absurd rfl h, HRd.out⟩⟩
          · by_cases hbig : 9007199254740991 < N
            · have HE := hHE (.inr hbig)
              have e3 : decide ((9007199254740991 : Int) < (N : Int)) = true := by simp; omega
              clear hHE
              have hxp : 0 < x := by
                rcases Nat.eq_zero_or_pos x with hx0 | hx0
                · obtain rfl : k = 0 := by omega
                  have := HNp.out
                  omega
                · exact hx0
              have e2 : ((x : Int) == 0) = false := by rw [beq_eq_false_iff_ne]; omega
              clear hz
              rcases Nat.eq_zero_or_pos k with hk0 | hk0
              · have HK0 := hid hk0
                have g0 : decide (0 < k) = false := by rw [hk0]; rfl
                have g1 : decide ((0 : Int) < (k : Int)) = false := by rw [hk0]; rfl
                clear hk0
                go_wp2_with fail
                refine (HF.out 3).mono ?_
                rintro e w1 ⟨⟨v1, rfl⟩, hu, hr⟩
                have HU := hid hu
                have HRd := hid hr
                clear hu hr
                go_wp2
                go_ret
                exact ⟨_, rfl, ⟨0, by omega, rfl⟩, HU.out, .inr ⟨3, by decide, fun _ => HE.out, fun h => absurd rfl h, HRd.out⟩⟩
              · go_wp2_with fail
                refine (HF.out 3).mono ?_
                rintro e w1 ⟨⟨v1, rfl⟩, hu, hr⟩
                have HU := hid hu
                have HRd := hid hr
                clear hu hr
                go_wp2
                go_ret
                exact ⟨_, rfl, ⟨0, by omega, rfl⟩, HU.out, .inr ⟨3, by decide, fun _ => HE.out, fun h => absurd rfl h, HRd.out⟩⟩
            · have e3 : decide ((9007199254740991 : Int) < (N : Int)) = false := by simp; omega
              have HE : Hid (dNum s = .ok (N, s.drop (k + 1))) := hid (by
                have h := HR2.out
                rw [if_pos (by omega), if_neg (by unfold top; omega)] at h
                exact dNum_ok h)
              have HV2 := hid (byt_from HV.out (k := k + 1) (by omega))
              clear hHE
              rcases Nat.eq_zero_or_pos k with hk0 | hk0
              · clear hz
                have HK0 := hid hk0
                have g0 : decide (0 < k) = false := by rw [hk0]; rfl
                have g1 : decide ((0 : Int) < (k : Int)) = false := by rw [hk0]; rfl
                clear hk0
                by_cases hck : c = k + 1
                · have e4 : fromA (some ⟨b, off, none⟩) c (k + 1) = some ⟨b, off, none⟩ := if_pos hck
                  rw [e4] at HV2
                  subst hck
                  clear e4
                  rw [Nat.sub_self, show s.length - (k + 1) = 0 by omega] at HV2
                  go_wp2
                  go_ret
                  exact ⟨_, rfl, ⟨N, by omega, rfl⟩, (Upd.refl g w).set 0 _, .inl ⟨N, _, rfl, HE.out, rfl, _, box_s0 HB.out _, HV2.out, nilOk_some _ _ _⟩⟩
                · have e4 : fromA (some ⟨b, off, none⟩) c (k + 1) = some ⟨b, off + (k + 1), none⟩ := by unfold fromA; rw [if_neg hck]; simp [Addr.add]
                  rw [e4] at HV2
                  clear e4
                  go_wp2
                  go_ret
                  exact ⟨_, rfl, ⟨N, by omega, rfl⟩, (Upd.refl g w).set 0 _, .inl ⟨N, _, rfl, HE.out, rfl, _, box_s0 HB.out _, HV2.out, nilOk_some _ _ _⟩⟩
              · have e2 : ((x : Int) == 0) = false := by rw [beq_eq_false_iff_ne]; omega
                clear hz
                by_cases hck : c = k + 1
                · have e4 : fromA (some ⟨b, off, none⟩) c (k + 1) = some ⟨b, off, none⟩ := if_pos hck
                  rw [e4] at HV2
                  subst hck
                  clear e4
                  rw [Nat.sub_self, show s.length - (k + 1) = 0 by omega] at HV2
                  go_wp2
                  go_ret
                  exact ⟨_, rfl, ⟨N, by omega, rfl⟩, (Upd.refl g w).set 0 _, .inl ⟨N, _, rfl, HE.out, rfl, _, box_s0 HB.out _, HV2.out, nilOk_some _ _ _⟩⟩
                · have e4 : fromA (some ⟨b, off, none⟩) c (k + 1) = some ⟨b, off + (k + 1), none⟩ := by unfold fromA; rw [if_neg hck]; simp [Addr.add]
                  rw [e4] at HV2
                  clear e4
                  go_wp2
                  go_ret
                  exact ⟨_, rfl, ⟨N, by omega, rfl⟩, (Upd.refl g w).set 0 _, .inl ⟨N, _, rfl, HE.out, rfl, _, box_s0 HB.out _, HV2.out, nilOk_some _ _ _⟩⟩
    · obtain rfl : k = 8 := by omega
      have HE : Hid (dNum s = .error 3) := hid (by
        have h := HR.out
        rw [Nat.sub_self, rd_zero] at h
        exact dNum_err h.symm (by decide))
      go_wp2_with fail
      refine (HF.out 3).mono ?_
      rintro e w1 ⟨⟨v1, rfl⟩, hu, hr⟩
      have HU := hid hu
      have HRd := hid hr
      clear hu hr
      go_wp2
      go_ret
      exact ⟨_, rfl, ⟨0, by omega, rfl⟩, HU.out, .inr ⟨3, by decide, fun _ => HE.out, fun h => absurd rfl h, HRd.out⟩⟩
end Go.Proofs.Ytldlddoealpomaa
