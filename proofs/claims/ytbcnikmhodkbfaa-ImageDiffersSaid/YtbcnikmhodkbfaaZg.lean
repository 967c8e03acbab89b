/- The walk of ImageSteps. -/
import Derived.Test.YtbcnikmhodkbfaaZe
import Derived.Test.YtbcnikmhodkbfaaZf
namespace Go.Proofs.Ytbcnikmhodkbfaa
open Go.RowKit Go.Lib

theorem diffQ_use {w w' : World} {L M : List (List Sect)} {e : Ending} (h : DiffQ w L M e w') (h0 : difErr L M = 0) : ∃ g ds, e = .returned (.tuple #[.slice (some ⟨g, 0, none⟩) ds.length ds.length, .int .i64 0]) ∧ AllDx L M ds ∧ Difs w' (.slice (some ⟨g, 0, none⟩) ds.length ds.length) ds ∧ Below w.heap.size w w' := by
  obtain ⟨hb, ⟨h1, _⟩ | ⟨_, g, ds, he, ha, hd⟩⟩ := h
  · exact absurd h0 h1
  · exact ⟨g, ds, he, ha, hd, hb⟩
theorem difErr_zero {L M : List (List Sect)} (h1 : chkS (siz L) = 0) (h2 : siz M = siz L) : difErr L M = 0 := by
  unfold difErr
  rw [h2, h1, if_neg (by decide), if_neg (by decide), if_neg (fun h => h rfl)]
/-- Apply, as the law asks it: the whole, the first part, the rest. -/
def ApQ (w : World) (r : Except (Nat × Int) (List (List Sect))) (e : Ending) (w' : World) : Prop := ∃ A n c ys, e = .returned (.tuple #[.slice A n c, .int .i64 ((resA r).2.1 : Int), .int .i64 (resA r).2.2]) ∧ n = ys.length ∧ Img w' (.slice A n c) ys ∧ con ys = (resA r).1 ∧ Below w.heap.size w w'
theorem apQ_of {w w' : World} {L : List (List Sect)} {ws : List Wri} {e : Ending} (h : AppQ w L ws e w') : ApQ w (appM L ws) e w' := by
  obtain ⟨A, n, c, ys, he, hi, hc, hb⟩ := appQ_use h
  obtain ⟨A', c', e'⟩ := img_form hi
  injection e' with _ e2 _
  exact ⟨A, n, c, ys, he, e2, hi, hc, hb⟩
set_option maxHeartbeats 8000000 in
set_option maxRecDepth 100000 in
theorem steps_any (xs : List Vol) (ws : List Wri) (cut : Int) (v u : Value) (w : World) (hv : Img w v xs) (hu : WrsA w u ws) (hcut : 0 ≤ cut ∧ cut ≤ 255) :
    Calls Try.prog 10 #[v, u, .int .u8 cut] w fun e w' => e = .returned (.bool true) ∧ Below w.heap.size w w' := by
  have HAW := hid (fun W => awake_any W)
  have HF := hid (few_any xs v w hv)
  have HFW := hid (fewW_any ws u w hu)
  have HAP : Hid (xs.length ≤ 1000 → ∀ W, Below w.heap.size w W → Calls Try.prog 23 #[v, u] W (ApQ W (appM (con xs) ws))) := hid (fun hl W hb => (apply_any xs ws v u W (hv.below hb) (hu.below hb) hl).mono (fun _ _ => apQ_of))
  have HV0 := hid hv
  have HU0 := hid hu
  obtain ⟨A, ca, rfl⟩ := img_form hv
  obtain ⟨B, cb, rfl⟩ := wrs_form hu
  obtain ⟨_, hc1, hc2⟩ := arr_cap hu.2
  obtain ⟨cn, rfl⟩ := Int.eq_ofNat_of_zero_le hcut.1
  have hcn : cn ≤ 255 := by omega
  obtain ⟨N, hN⟩ : ∃ N, ws.length = N := ⟨_, rfl⟩
  obtain ⟨t, ht⟩ : ∃ t, cn % (N + 1) = t := ⟨_, rfl⟩
  have htN : t ≤ N := by rw [← ht]; have := Nat.mod_lt cn (show 0 < N + 1 by omega); omega
  have HP1 : Hid (xs.length ≤ 1000 → ∀ W, Below w.heap.size w W → Calls Try.prog 23 #[.slice A xs.length ca, .slice B t cb] W (ApQ W (appM (con xs) (ws.take t)))) := hid (fun hl W hb => (apply_any xs (ws.take t) _ _ W (hv.below hb) ((wrs_take hu t (by omega)).below hb) hl).mono (fun _ _ => apQ_of))
  have HD1 := hid (wrs_drop hu t (by omega))
  obtain ⟨n, hn⟩ : ∃ n, xs.length = n := ⟨_, rfl⟩
  have HN := hid hN
  rw [hn] at HF HAP HV0 HP1 ⊢
  rw [hN] at HFW HAP HU0 hc1 HD1 ⊢
  obtain ⟨q, hq⟩ : ∃ q, fewV (con xs) = q := ⟨_, rfl⟩
  rw [hq] at HF
  obtain ⟨q2, hq2⟩ : ∃ q2, fewW ws = q2 := ⟨_, rfl⟩
  rw [hq2] at HFW
  have HM : Hid (q = true → n ≤ 9) := hid (fun h => by
    rw [h] at hq
    have := (fewV_len hq).1
    omega)
  have HM2 : Hid (q2 = true → N ≤ 40) := hid (fun h => by
    rw [h] at hq2
    unfold fewW at hq2
    rw [Bool.and_eq_true] at hq2
    have := of_decide_eq_true hq2.1
    omega)
  have HNX := hid hn
  have hcw : IntKind.i64.wrap (cn : Int) = (cn : Int) := by unfold IntKind.wrap; simp [IntKind.bits, IntKind.signed]; omega
  clear hv hu hn hN hq hq2 hcut
  go_enter Try.func10, Try.ntmps10
  rcases q with _ | _
  · go_wp2_with fail
    refine HF.out.mono ?_
    rintro e w1 ⟨rfl, rfl⟩
    go_wp2_with fail
    refine (HAW.out w).mono ?_
    rintro e w2 ⟨rfl, hb2⟩
    have HB2 := hid hb2
    clear hb2
    go_wp2
    go_ret
    exact ⟨rfl, HB2.out⟩
  · have hn9 := HM.out rfl
    have HAP2 := hid (HAP.out (by omega))
    have HP2 := hid (HP1.out (by omega))
    clear HAP HP1
    rcases q2 with _ | _
    · go_wp2_with fail
      refine HF.out.mono ?_
      rintro e w1 ⟨rfl, rfl⟩
      go_wp2_with fail
      refine HFW.out.mono ?_
      rintro e w1 ⟨rfl, hb1⟩
      have HB1 := hid hb1
      clear hb1
      go_wp2_with fail
      refine (HAW.out w1).mono ?_
      rintro e w2 ⟨rfl, hb2⟩
      have HB2 := hid (below_both HB1.out hb2)
      clear hb2
      go_wp2
      go_ret
      exact ⟨rfl, HB2.out⟩
    · have hN40 := HM2.out rfl
      have hw1 : IntKind.i64.wrap ((N : Int) + 1) = ((N + 1 : Nat) : Int) := by unfold IntKind.wrap; simp [IntKind.bits, IntKind.signed]; omega

      go_wp2_with fail
      refine HF.out.mono ?_
      rintro e w1 ⟨rfl, rfl⟩
      go_wp2_with fail
      refine HFW.out.mono ?_
      rintro e w1 ⟨rfl, hb1⟩
      have HB1 := hid hb1
      have HA1 := hid (HAP2.out w1 hb1)
      clear hb1 HAP2
      go_wp2_with fail
      have hmod : (cn : Int) % ((N : Int) + 1) = (t : Int) := by rw [← ht]; simp
      rw [hmod]
      clear hmod ht hw1 hcw
      have hsl := fun W => run_slice38to B N cb t (t : Int) rfl (by omega) W
      have hsd := fun W => run_slice38from B N cb t (t : Int) rfl htN W
      refine HA1.out.mono ?_
      rintro e w2 ⟨A1, n1, k1, ys1, rfl, hn1, hi1, hc1, hb2⟩
      have HB2 := hid (below_both HB1.out hb2)
      have HI1 := hid hi1
      have HC1 := hid hc1
      have HN1 := hid hn1
      have HPP := hid (HP2.out w2 HB2.out)
      clear hn1 hi1 hc1 hb2 HA1 HP2 HB1
      obtain ⟨ra, hra⟩ : ∃ ra, appM (con xs) ws = ra := ⟨_, rfl⟩
      obtain ⟨rp, hrp⟩ : ∃ rp, appM (con xs) (ws.take t) = rp := ⟨_, rfl⟩
      rw [hra] at HC1 ⊢
      rw [hrp] at HPP
      obtain ⟨ai, hai⟩ : ∃ x, (resA ra).2.1 = x := ⟨_, rfl⟩
      obtain ⟨ae, hae⟩ : ∃ x, (resA ra).2.2 = x := ⟨_, rfl⟩
      have HAE := hid hae
      rw [hai, hae]
      clear hai hae
      rcases rp with ⟨ix, er⟩ | L1
      · obtain ⟨h2, h3⟩ := appM_two_err hrp
        rw [hra] at h2
        subst h2
        obtain rfl : er = ae := HAE.out
        have h0 := appM_err hrp
        have d1 : (er != 0) = true := by simpa using h0
        have d2 : decide ((ix : Int) < max (t : Int) 1) = true := by simp; omega
        clear h0 h3 hra hrp HAE
        go_wp2_with fail
        refine HPP.out.mono ?_
        rintro e w3 ⟨A2, n2, k2, ys2, rfl, hn2, hi2, hc2', hb3⟩
        have HB3 := hid (below_both HB2.out hb3)
        dsimp only [resA]
        clear hn2 hi2 hc2' hb3 HPP
        go_wp2_with fail
        refine (HAW.out w3).mono ?_
        rintro e w4 ⟨rfl, hb4⟩
        have HB4 := hid (below_both HB3.out hb4)
        clear hb4
        go_wp2
        go_ret
        exact ⟨rfl, HB4.out⟩
      · obtain ⟨hck, hap⟩ := appM_ok hrp
        have hsz := (appW_ok hap).1
        have HCK := hid hck
        have HSZ := hid hsz
        have HTW := hid (appM_two_ok (n := t) (by rw [HN.out]; exact htN) hrp)
        clear hck hap hsz
        go_wp2_with fail
        refine HPP.out.mono ?_
        rintro e w3 ⟨A2, n2, k2, ys2, rfl, hn2, hi2, hc2', hb3⟩
        have HB3 := hid (below_both HB2.out hb3)
        have HI13 := hid (HI1.out.below hb3)
        have hl2 : ys2.length ≤ 1000 := by
          have h1 : siz (con ys2) = siz (con xs) := by rw [hc2']; exact HSZ.out
          have h2 := congrArg List.length h1
          rw [siz_len, siz_len, con_len, con_len, HNX.out] at h2
          omega
        have hl2 := (apply_any ys2 (ws.drop t) _ _ w3 hi2 (HD1.out.below HB3.out) hl2).mono (fun _ _ => apQ_of)
        rw [show con ys2 = L1 from hc2'] at hl2
        have HA2 := hid hl2
        dsimp only [resA]
        clear hn2 hi2 hc2' hb3 HPP HI1 hl2 hrp
        go_wp2_with fail
        refine HA2.out.mono ?_
        rintro e w4 ⟨A3, n3, k3, ys3, rfl, hn3, hi3, hc3, hb4⟩
        have HB4 := hid (below_both HB3.out hb4)
        have HI14 := hid (HI13.out.below hb4)
        have HC3 := hid hc3
        have HI3 := hid hi3
        clear hn3 hi3 hc3 hb4 HA2 HI13
        have htw := HTW.out
        rw [hra] at htw
        rcases htw with ⟨L2, h1, h2⟩ | ⟨k, er, h1, h2, h3⟩
        · subst h1
          obtain rfl : (0 : Int) = ae := HAE.out
          rw [h2] at HC3 ⊢
          have HS := hid (refSame_any ys1 ys3 _ _ w4 HI14.out HI3.out)
          rw [decide_eq_true (HC1.out.trans HC3.out.symm)] at HS
          have HS2 : Hid (siz L2 = siz (con xs)) := hid (appW_ok (appM_ok hra).2).1
          have HYL : Hid (ys1.length = n) := hid (by
            have h1 : con ys1 = L2 := HC1.out
            rw [← con_len, h1, ← siz_len, HS2.out, siz_len, con_len, HNX.out])
          have HC1' : Hid (con ys1 = L2) := hid HC1.out
          dsimp only [resA]
          clear h2 HC1 HC3 hra HAE
          go_wp2_with fail
          refine HS.out.mono ?_
          rintro e w5 ⟨rfl, hb5⟩
          have HB5 := hid (below_both HB4.out hb5)
          have hi1 := HI14.out.below hb5
          have HDa := hid (differ_any xs ys1 _ _ w5 (HV0.out.below HB5.out) hi1 (by rw [HNX.out]; omega) (by rw [HYL.out]; omega))
          have HDb := hid (fun W (hb : Below w5.heap.size w5 W) => differ_any ys1 xs _ _ W (hi1.below hb) (HV0.out.below (HB5.out.trans (hb.mono HB5.out.size))) (by rw [HYL.out]; omega) (by rw [HNX.out]; omega))
          rw [HC1'.out] at HDa HDb
          clear hb5 HS HI14 HI3 hi1
          go_wp2_with fail
          refine HDa.out.mono ?_
          rintro e w6 hq
          obtain ⟨ga, da, rfl, haa, hda, hb6⟩ := diffQ_use hq (difErr_zero HCK.out HS2.out)
          have HB6 := hid (below_both HB5.out hb6)
          have HDb2 := hid (HDb.out w6 hb6)
          have HAA := hid haa
          have HDD := hid hda
          clear hq haa hda hb6 HDa HDb
          go_wp2_with fail
          refine HDb2.out.mono ?_
          rintro e w7 hq
          obtain ⟨gb, db, rfl, hab, hdb, hb7⟩ := diffQ_use hq (difErr_zero (by rw [HS2.out]; exact HCK.out) HS2.out.symm)
          have HB7 := hid (below_both HB6.out hb7)
          have HE := hid (sameExts_any da db _ _ w7 (HDD.out.below hb7) hdb)
          rw [decide_eq_true (allDx_unique HAA.out hab HS2.out.symm)] at HE
          clear hq hab hdb hb7 HDb2 HDD HAA
          go_wp2_with fail
          refine HE.out.mono ?_
          rintro e w8 ⟨rfl, hb8⟩
          have HB8 := hid (below_both HB7.out hb8)
          clear hb8 HE
          go_wp2_with fail
          refine (HAW.out w8).mono ?_
          rintro e w9 ⟨rfl, hb9⟩
          have HB9 := hid (below_both HB8.out hb9)
          clear hb9
          go_wp2
          go_ret
          exact ⟨rfl, HB9.out⟩
        · subst h1
          obtain rfl : er = ae := HAE.out
          have h0 := appM_err h2
          rw [h2] at HC3 ⊢
          have HS := hid (refSame_any ys1 ys3 _ _ w4 HI14.out HI3.out)
          rw [decide_eq_true (HC1.out.trans HC3.out.symm)] at HS
          have d1 : (er != 0) = true := by simpa using h0
          rw [HN.out] at h3
          have hsb : IntKind.i64.wrap ((N : Int) - (t : Int)) = (N : Int) - (t : Int) := by unfold IntKind.wrap; simp [IntKind.bits, IntKind.signed]; omega
          have d2 : decide ((N : Int) - (t : Int) ≤ (k : Int)) = false := by simp; omega
          dsimp only [resA]
          clear h2 HC1 HC3 hra h0 h3 HAE
          go_wp2_with fail
          refine HS.out.mono ?_
          rintro e w5 ⟨rfl, hb5⟩
          have HB5 := hid (below_both HB4.out hb5)
          clear hb5 HS HI14 HI3
          go_wp2_with fail
          refine (HAW.out w5).mono ?_
          rintro e w6 ⟨rfl, hb6⟩
          have HB6 := hid (below_both HB5.out hb6)
          clear hb6
          go_wp2
          go_ret
          exact ⟨rfl, HB6.out⟩
end Go.Proofs.Ytbcnikmhodkbfaa
