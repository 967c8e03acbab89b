/- The walk of ImagePatches. -/
import Derived.Test.YtbcnikmhodkbfaaZg
import Derived.Test.YtbcnikmhodkbfaaZh
namespace Go.Proofs.Ytbcnikmhodkbfaa
open Go.RowKit Go.Lib

theorem patQ_use {w w' : World} {L M : List (List Sect)} {e : Ending} (h : PatQ w L M e w') (h0 : difErr L M = 0) : ∃ A c ws ds, e = .returned (.tuple #[.slice A ws.length c, .int .i64 0]) ∧ AllDx L M ds ∧ ws.map wv = patK M ds L.length ∧ WrsA w' (.slice A ws.length c) ws ∧ Below w.heap.size w w' := by
  obtain ⟨hb, ⟨h1, _⟩ | ⟨_, v, ws, ds, he, ha, hw, ho⟩⟩ := h
  · exact absurd h0 h1
  · obtain ⟨A, c, rfl⟩ := ownAny_form ho.1
    exact ⟨A, c, ws, ds, he, ha, hw, wrs_of_own ho, hb⟩
theorem difN_le (a b : List Sect) (k : Nat) : (difN a b k).length ≤ k := by
  unfold difN
  have h := List.length_filter_le (fun i => decide (a[i]? ≠ b[i]?)) (List.range k)
  rwa [List.length_range] at h
theorem difC_le {L M : List (List Sect)} (h : ∀ k, (L.getD k []).length ≤ 24) : ∀ k, difC L M k ≤ 24 * k := by
  intro k
  induction k with
  | zero => exact Nat.le_refl _
  | succ k ih =>
    rw [difC]
    have h1 := dif_len (L.getD k []) (M.getD k [])
    have h2 := h k
    omega
theorem fewV_getD {xs : List Vol} (h : fewV (con xs) = true) (k : Nat) : ((con xs).getD k []).length ≤ 24 := by
  rw [List.getD_eq_getElem?_getD]
  cases hk : (con xs)[k]? with
  | none => simp
  | some l =>
    unfold fewV at h
    rw [Bool.and_eq_true] at h
    exact of_decide_eq_true (List.all_eq_true.1 h.2 l (List.mem_of_getElem? hk))
theorem sumW_next {ws : List Wri} {j : Nat} {x : Wri} (h : ws[j]? = some x) : sumW (ws.take (j + 1)) = sumW (ws.take j) + x.l.length := by
  unfold sumW
  rw [take_snoc h, List.map_append, List.sum_append]
  simp
theorem sumW_take_le (ws : List Wri) (j : Nat) : sumW (ws.take j) ≤ sumW ws := by
  conv => rhs; rw [← List.take_append_drop j ws]
  unfold sumW
  rw [List.map_append, List.sum_append]
  omega
theorem sizes_arr (xs : List Vol) (v : Value) (w : World) (hv : Img w v xs) (hl : xs.length ≤ 1000) : Calls Try.prog 38 #[v] w fun e w' => ∃ A c, e = .returned (.slice A (siz (con xs)).length c) ∧ Arr w' (.slice A (siz (con xs)).length c) 1 ((siz (con xs)).map cInt) ∧ Below w.heap.size w w' := by
  refine (refSizesOf_any xs v w hv hl).mono ?_
  rintro e w1 ⟨v1, rfl, ho, hb⟩
  obtain ⟨A', c', rfl⟩ := ownAny_form ho
  refine ⟨A', c', rfl, ?_, hb⟩
  have ho' : w1.ownsRow w.heap.size 3 1 (.slice A' (siz (con xs)).length c') ((siz (con xs)).map cInt).length ((siz (con xs)).map cInt).flatten := by rw [List.length_map]; exact ho
  exact arr_of_own ho' rfl (fun r hr => by obtain ⟨x, _, rfl⟩ := List.mem_map.1 hr; rfl)
set_option maxHeartbeats 8000000 in
set_option maxRecDepth 100000 in
theorem patches_any (xs ys : List Vol) (v u : Value) (w : World) (hv : Img w v xs) (hu : Img w u ys) :
    Calls Try.prog 8 #[v, u] w fun e w' => e = .returned (.bool true) ∧ Below w.heap.size w w' := by
  have HAW := hid (fun W => awake_any W)
  have HF := hid (few_any xs v w hv)
  have HG := hid (few_any ys u w hu)
  have HV0 := hid hv
  have HU0 := hid hu
  have HCK : Hid (xs.length ≤ 1000 → Calls Try.prog 18 #[v] w fun e w' => e = .returned (.int .i64 (chkS (siz (con xs)))) ∧ Below w.heap.size w w') := hid (fun hl => check_any xs v w hv hl)
  have HSA : Hid (xs.length ≤ 1000 → ∀ W, Below w.heap.size w W → Calls Try.prog 38 #[v] W fun e w' => ∃ A c, e = .returned (.slice A (siz (con xs)).length c) ∧ Arr w' (.slice A (siz (con xs)).length c) 1 ((siz (con xs)).map cInt) ∧ Below W.heap.size W w') := hid (fun hl W hW => sizes_arr xs v W (hv.below hW) hl)
  have HSB : Hid (ys.length ≤ 1000 → ∀ W, Below w.heap.size w W → Calls Try.prog 38 #[u] W fun e w' => ∃ A c, e = .returned (.slice A (siz (con ys)).length c) ∧ Arr w' (.slice A (siz (con ys)).length c) 1 ((siz (con ys)).map cInt) ∧ Below W.heap.size W w') := hid (fun hl W hW => sizes_arr ys u W (hu.below hW) hl)
  have HPA : Hid (xs.length ≤ 1000 → ys.length ≤ 1000 → ∀ W, Below w.heap.size w W → Calls Try.prog 30 #[v, u] W (PatQ W (con xs) (con ys))) := hid (fun h1 h2 W hW => patch_any xs ys v u W (hv.below hW) (hu.below hW) h1 h2)
  obtain ⟨A, ca, rfl⟩ := img_form hv
  obtain ⟨B, cb, rfl⟩ := img_form hu
  obtain ⟨n, hn⟩ : ∃ n, xs.length = n := ⟨_, rfl⟩
  obtain ⟨m, hm⟩ : ∃ m, ys.length = m := ⟨_, rfl⟩
  have HN := hid hn
  have HMM := hid hm
  rw [hn] at HF HV0 HCK HSA HPA ⊢
  rw [hm] at HG HU0 HSB HPA ⊢
  obtain ⟨q, hq⟩ : ∃ q, fewV (con xs) = q := ⟨_, rfl⟩
  rw [hq] at HF
  obtain ⟨q2, hq2⟩ : ∃ q2, fewV (con ys) = q2 := ⟨_, rfl⟩
  rw [hq2] at HG
  have HM : Hid (q = true → n ≤ 9 ∧ ∀ k, ((con xs).getD k []).length ≤ 24) := hid (fun h => by
    rw [h] at hq
    have := (fewV_len hq).1
    exact ⟨by omega, fewV_getD hq⟩)
  have HM2 : Hid (q2 = true → m ≤ 9) := hid (fun h => by
    rw [h] at hq2
    have := (fewV_len hq2).1
    omega)
  obtain ⟨L, hL⟩ : ∃ L, con xs = L := ⟨_, rfl⟩
  obtain ⟨M, hM⟩ : ∃ M, con ys = M := ⟨_, rfl⟩
  rw [hL] at HCK HSA HPA HM
  rw [hM] at HSB HPA
  have HL := hid hL
  have HMc := hid hM
  obtain ⟨ck, hck⟩ : ∃ ck, chkS (siz L) = ck := ⟨_, rfl⟩
  rw [hck] at HCK
  obtain ⟨sa, hsa⟩ : ∃ sa, (siz L).length = sa := ⟨_, rfl⟩
  obtain ⟨sb, hsb⟩ : ∃ sb, (siz M).length = sb := ⟨_, rfl⟩
  rw [hsa] at HSA
  rw [hsb] at HSB
  clear hv hu hn hm hq hq2 hL hM hsa hsb
  go_enter Try.func8, Try.ntmps8
  rcases q with _ | _
  · go_wp2_with fail
    refine HF.out.mono ?_
    rintro e w1 ⟨rfl, rfl⟩
    go_wp2_with fail
    refine (HAW.out w).mono ?_
    rintro e w2 ⟨rfl, hb2⟩
    have HB2 := hid hb2
    clear hb2
    go_wp2
    go_ret
    exact ⟨rfl, HB2.out⟩
  · obtain ⟨hn9, h24⟩ := HM.out rfl
    have H24 := hid h24
    have HCK2 := hid (HCK.out (by omega))
    have HSA2 := hid (HSA.out (by omega))
    clear HCK HSA h24
    rcases q2 with _ | _
    · go_wp2_with fail
      refine HF.out.mono ?_
      rintro e w1 ⟨rfl, rfl⟩
      go_wp2_with fail
      refine HG.out.mono ?_
      rintro e w1 ⟨rfl, rfl⟩
      go_wp2_with fail
      refine (HAW.out w).mono ?_
      rintro e w2 ⟨rfl, hb2⟩
      have HB2 := hid hb2
      clear hb2
      go_wp2
      go_ret
      exact ⟨rfl, HB2.out⟩
    · have hm9 := HM2.out rfl
      have HSB2 := hid (HSB.out (by omega))
      have HPA2 := hid (HPA.out (by omega) (by omega))
      clear HSB HPA
      by_cases h0 : ck = 0
      · subst h0
        have HK := hid hck
        clear hck
        go_wp2_with fail
        refine HF.out.mono ?_
        rintro e w1 ⟨rfl, rfl⟩
        go_wp2_with fail
        refine HG.out.mono ?_
        rintro e w1 ⟨rfl, rfl⟩
        go_wp2_with fail
        refine HCK2.out.mono ?_
        rintro e w1 ⟨rfl, hb1⟩
        have HB1 := hid hb1
        have HSA3 := hid (HSA2.out w1 hb1)
        clear hb1 HCK2 HSA2
        go_wp2_with fail
        refine HSA3.out.mono ?_
        rintro e w2 ⟨A2, c2, rfl, ha2, hb2⟩
        have HB2 := hid (below_both HB1.out hb2)
        have HA2 := hid ha2
        have HSB3 := hid (HSB2.out w2 HB2.out)
        clear ha2 hb2 HSA3 HSB2
        go_wp2_with fail
        refine HSB3.out.mono ?_
        rintro e w3 ⟨A3, c3, rfl, ha3, hb3⟩
        have HB3 := hid (below_both HB2.out hb3)
        have HE := hid (eqInts_any _ _ _ _ w3 (HA2.out.below hb3) ha3)
        clear ha3 hb3 HSB3 HA2
        by_cases hs : siz L = siz M
        · rw [decide_eq_true hs] at HE
          have HS := hid hs
          have HDE := hid (difErr_zero HK.out hs.symm)
          clear hs
          go_wp2_with fail
          refine HE.out.mono ?_
          intro e w4 hq
          obtain ⟨rfl, hb4⟩ := saysQ_B hq
          have HB4 := hid (below_both HB3.out hb4)
          have HP := hid (HPA2.out w4 HB4.out)
          clear hq hb4 HE HPA2
          go_wp2_with fail
          refine HP.out.mono ?_
          rintro e w5 hq
          obtain ⟨A5, c5, ws, ds, rfl, hax, hwk, hwa, hb5⟩ := patQ_use hq HDE.out
          have HB5 := hid (below_both HB4.out hb5)
          have HW5 := hid hwa
          have HMK := hid (patch_makes HDE.out hax hwk)
          have HSU := hid (patch_sum HDE.out hax hwk)
          have HNI := hid (patch_nil HDE.out hax hwk)
          have hap := (apply_any xs ws _ _ w5 (HV0.out.below HB5.out) hwa (by rw [HN.out]; omega)).mono (fun _ _ => apQ_of)
          rw [HL.out, HMK.out] at hap
          have HAP := hid hap
          obtain ⟨P, hP⟩ : ∃ P, ws.length = P := ⟨_, rfl⟩
          have HPL := hid hP
          rw [hP] at HW5 HAP ⊢
          have hcap := (arr_cap HW5.out.2).2
          clear hq hax hwk hwa hb5 HP hap hP
          go_wp2_with fail
          refine HAP.out.mono ?_
          rintro e w6 ⟨A6, n6, c6, zs', rfl, hn6, hi6, hc6, hb6⟩
          dsimp only [resA] at hc6 ⊢
          have HB6 := hid (below_both HB5.out hb6)
          have HW6 := hid (HW5.out.below hb6)
          have HS1 := hid (fun W (hb : Below w6.heap.size w6 W) => sameIm_any zs' ys _ _ W (hi6.below hb) (HU0.out.below (HB6.out.trans (hb.mono HB6.out.size))))
          have HS2 := hid (fun W (hb : Below w6.heap.size w6 W) => refSame_any zs' ys _ _ W (hi6.below hb) (HU0.out.below (HB6.out.trans (hb.mono HB6.out.size))))
          have HS3 := hid (fun W (hb : Below w6.heap.size w6 W) => sameIm_any xs ys _ _ W (HV0.out.below (HB6.out.trans (hb.mono HB6.out.size))) (HU0.out.below (HB6.out.trans (hb.mono HB6.out.size))))
          rw [decide_eq_true (show con zs' = con ys by rw [hc6, HMc.out])] at HS1 HS2
          rw [HL.out, HMc.out] at HS3
          have HS1' := hid (HS1.out w6 (Below.refl _ _))
          obtain ⟨sm, hsm⟩ : ∃ sm, decide (L = M) = sm := ⟨_, rfl⟩
          rw [hsm] at HS3
          have d0 : ((P : Int) == 0) = sm := by
            rw [← hsm, Bool.eq_iff_iff, beq_iff_eq, decide_eq_true_iff, ← HNI.out, HPL.out]
            omega
          clear hn6 hi6 hc6 hb6 HAP HW5 HS1 hsm HNI
          go_wp2_with fail
          refine HS1'.out.mono ?_
          rintro e w7 ⟨rfl, hb7⟩
          have HB7 := hid hb7
          have HS2' := hid (HS2.out w7 hb7)
          clear hb7 HS1' HS2
          go_wp2_with fail
          refine HS2'.out.mono ?_
          rintro e w8 ⟨rfl, hb8⟩
          have HB8 := hid (below_both HB7.out hb8)
          have HS3' := hid (HS3.out w8 HB8.out)
          clear hb8 HS2' HS3
          go_wp2_with fail
          refine HS3'.out.mono ?_
          rintro e w9 ⟨rfl, hb9⟩
          have HB9 := hid (below_both HB8.out hb9)
          have HBA := hid (HB6.out.trans (HB9.out.mono HB6.out.size))
          have HW9 := hid (HW6.out.below HB9.out)
          have HIA := hid (HV0.out.below HBA.out)
          have HIB := hid (HU0.out.below HBA.out)
          clear hb9 HS3' HW6 HB7 HB8 HB9
          have hcapA := (arr_cap HIA.out.2).2
          go_wp2_with fail
          have hnL : Hid (L.length = n) := hid (by rw [← HL.out, con_len, HN.out])
          have hnM : Hid (M.length = n) := hid (by rw [← siz_len M, ← HS.out, siz_len, hnL.out])
          go_loopw [10, 81] (fun nn i wr => ∃ k : Nat, k ≤ n ∧ i = .int .i64 (k : Int) ∧ nn = .int .i64 ((difC L M k : Nat) : Int) ∧ Hid (Below w9.heap.size w9 wr)) (fun _ i _ => n - (Go.RowKit.intOf i).toNat)
          case atStart => exact ⟨0, Nat.zero_le _, rfl, rfl, hid (Below.refl _ _)⟩
          case round =>
            obtain ⟨k, hk, rfl, rfl, HB⟩ := hrel
            obtain ⟨wo, hwo⟩ : ∃ x, x = wr := ⟨_, rfl⟩
            subst hwo
            obtain ⟨dk, hdk⟩ : ∃ dk, difC L M k = dk := ⟨_, rfl⟩
            have hdk9 : dk ≤ 216 := by rw [← hdk]; have := difC_le (M := M) H24.out k; omega
            have HDK := hid hdk
            rw [hdk]
            clear hdk
            by_cases hkn : k < n
            · have hkc : (k : Int) < (n : Int) := by omega
              obtain ⟨x, hx⟩ : ∃ x, xs[k]? = some x := ⟨xs[k]'(by rw [HN.out]; exact hkn), List.getElem?_eq_getElem _⟩
              have hmn : m = n := by have h := hnM.out; rw [← HMc.out, con_len, HMM.out] at h; exact h
              obtain ⟨y, hy⟩ : ∃ y, ys[k]? = some y := ⟨ys[k]'(by rw [HMM.out]; omega), List.getElem?_eq_getElem _⟩
              have hxL : L.getD k [] = x.l := by rw [← HL.out, List.getD_eq_getElem?_getD]; unfold con; rw [List.getElem?_map, hx]; rfl
              have hyM : M.getD k [] = y.l := by rw [← HMc.out, List.getD_eq_getElem?_getD]; unfold con; rw [List.getElem?_map, hy]; rfl
              have hxy : x.l.length = y.l.length := by rw [← hxL, ← hyM]; exact siz_getD HS.out k
              have hx24 : x.l.length ≤ 24 := by rw [← hxL]; exact H24.out k
              have HXL := hid hxL
              have HYM := hid hyM
              obtain ⟨ba, oa, hba, hla, hca⟩ := img_at HIA.out (by rw [HN.out]; omega)
              obtain ⟨bb, ob, hbb, hlb, hcb⟩ := img_at HIB.out (by rw [HMM.out]; omega)
              subst hba hbb
              have hxS := (HIA.out.1 x (List.mem_of_getElem? hx)).1
              have hyS := (HIB.out.1 y (List.mem_of_getElem? hy)).1
              obtain ⟨xA, xc, hxd⟩ := sec_form hxS
              obtain ⟨yA, yc, hyd⟩ := sec_form hyS
              rw [hxd] at hxS
              rw [hyd] at hyS
              obtain ⟨xn, hxn⟩ : ∃ xn, x.l.length = xn := ⟨_, rfl⟩
              have hyn := hxy.symm.trans hxn
              have HC1 : Hid (∀ W, Below w9.heap.size w9 W → W.cell? ⟨ba, oa + k, none⟩ = some (.slice xA xn xc) ∧ W.cell? ⟨bb, ob + k, none⟩ = some (.slice yA xn yc)) := hid (fun W hW => ⟨(hW.cell (p := ⟨ba, oa + k, none⟩) hla).trans (by rw [hca k x hx, hxd, hxn]), (hW.cell (p := ⟨bb, ob + k, none⟩) hlb).trans (by rw [hcb k y hy, hyd, hyn])⟩)
              rw [hxn] at hxS hx24
              rw [hyn] at hyS
              have HXS := hid hxS
              have HYS := hid hyS
              have HXN := hid hxn
              have HYN := hid hyn
              obtain ⟨a1, a2⟩ := HC1.out wo HB.out
              have hkm : (k : Int) < (m : Int) := by omega
              clear hx hy hxL hyM hxy hla hca hlb hcb hxd hyd hxS hyS hxn hyn hmn
              go_wp2_with fail
              clear a1 a2
              go_loopw [10, 88] (fun nn i wr => ∃ s : Nat, s ≤ xn ∧ i = .int .i64 (s : Int) ∧ nn = .int .i64 ((dk + (difN x.l y.l s).length : Nat) : Int) ∧ Hid (Below w9.heap.size w9 wr)) (fun _ i _ => xn - (Go.RowKit.intOf i).toNat)
              case atStart => exact ⟨0, Nat.zero_le _, rfl, rfl, HB⟩
              case round =>
                clear HB
                obtain ⟨s, hs, rfl, rfl, HB⟩ := hrel
                obtain ⟨c, hc⟩ : ∃ c, dk + (difN x.l y.l s).length = c := ⟨_, rfl⟩
                have hc9 : c ≤ 240 := by rw [← hc]; have := difN_le x.l y.l s; omega
                have HC := hid hc
                rw [hc]
                clear hc
                by_cases hsx : s < xn
                · have hsc : (s : Int) < (xn : Int) := by omega
                  obtain ⟨p, hp⟩ : ∃ p, x.l[s]? = some p := ⟨x.l[s]'(by rw [HXN.out]; exact hsx), List.getElem?_eq_getElem _⟩
                  obtain ⟨r, hr⟩ : ∃ r, y.l[s]? = some r := ⟨y.l[s]'(by rw [HYN.out]; exact hsx), List.getElem?_eq_getElem _⟩
                  obtain ⟨xb, xo, hxb, hxl, hxc⟩ := sec_at HXS.out (by rw [HXN.out]; omega)
                  obtain ⟨yb, yo, hyb, hyl, hyc⟩ := sec_at HYS.out (by rw [HYN.out]; omega)
                  subst hxb hyb
                  have hp8 := HXS.out.1 p (List.mem_of_getElem? hp)
                  have hr8 := HYS.out.1 r (List.mem_of_getElem? hr)
                  have hrp : ∀ (i : Nat) (z : Value), (cSec p)[i]? = some z → wr.cell? ⟨xb, xo + s * 8 + i, none⟩ = some z := fun i z hz => (HB.out.cell (p := ⟨xb, _, none⟩) hxl).trans (hxc s p hp i z hz)
                  have hrr : ∀ (i : Nat) (z : Value), (cSec r)[i]? = some z → wr.cell? ⟨yb, yo + s * 8 + i, none⟩ = some z := fun i z hz => (HB.out.cell (p := ⟨yb, _, none⟩) hyl).trans (hyc s r hr i z hz)
                  have HSN : Hid (difN x.l y.l (s + 1) = difN x.l y.l s ++ if p ≠ r then [s] else []) := hid (by
                    rw [difN_succ, hp, hr]
                    congr 1
                    by_cases h : p = r
                    · simp [h]
                    · simp [h])
                  obtain ⟨x0, x1, x2, x3, x4, x5, x6, x7, rfl⟩ := list8 hp8.1
                  obtain ⟨y0, y1, y2, y3, y4, y5, y6, y7, rfl⟩ := list8 hr8.1
                  have q0 : wr.cell? ⟨xb, xo + s * 8, none⟩ = some (.int .u8 (x0 : Int)) := hrp 0 _ rfl
                  have q1 : wr.cell? ⟨xb, xo + s * 8 + 1, none⟩ = some (.int .u8 (x1 : Int)) := hrp 1 _ rfl
                  have q2 : wr.cell? ⟨xb, xo + s * 8 + 2, none⟩ = some (.int .u8 (x2 : Int)) := hrp 2 _ rfl
                  have q3 : wr.cell? ⟨xb, xo + s * 8 + 3, none⟩ = some (.int .u8 (x3 : Int)) := hrp 3 _ rfl
                  have q4 : wr.cell? ⟨xb, xo + s * 8 + 4, none⟩ = some (.int .u8 (x4 : Int)) := hrp 4 _ rfl
                  have q5 : wr.cell? ⟨xb, xo + s * 8 + 5, none⟩ = some (.int .u8 (x5 : Int)) := hrp 5 _ rfl
                  have q6 : wr.cell? ⟨xb, xo + s * 8 + 6, none⟩ = some (.int .u8 (x6 : Int)) := hrp 6 _ rfl
                  have q7 : wr.cell? ⟨xb, xo + s * 8 + 7, none⟩ = some (.int .u8 (x7 : Int)) := hrp 7 _ rfl
                  have p0 : wr.cell? ⟨yb, yo + s * 8, none⟩ = some (.int .u8 (y0 : Int)) := hrr 0 _ rfl
                  have p1 : wr.cell? ⟨yb, yo + s * 8 + 1, none⟩ = some (.int .u8 (y1 : Int)) := hrr 1 _ rfl
                  have p2 : wr.cell? ⟨yb, yo + s * 8 + 2, none⟩ = some (.int .u8 (y2 : Int)) := hrr 2 _ rfl
                  have p3 : wr.cell? ⟨yb, yo + s * 8 + 3, none⟩ = some (.int .u8 (y3 : Int)) := hrr 3 _ rfl
                  have p4 : wr.cell? ⟨yb, yo + s * 8 + 4, none⟩ = some (.int .u8 (y4 : Int)) := hrr 4 _ rfl
                  have p5 : wr.cell? ⟨yb, yo + s * 8 + 5, none⟩ = some (.int .u8 (y5 : Int)) := hrr 5 _ rfl
                  have p6 : wr.cell? ⟨yb, yo + s * 8 + 6, none⟩ = some (.int .u8 (y6 : Int)) := hrr 6 _ rfl
                  have p7 : wr.cell? ⟨yb, yo + s * 8 + 7, none⟩ = some (.int .u8 (y7 : Int)) := hrr 7 _ rfl
                  obtain ⟨eq, heqb⟩ : ∃ eq, decide ([x0, x1, x2, x3, x4, x5, x6, x7] = [y0, y1, y2, y3, y4, y5, y6, y7]) = eq := ⟨_, rfl⟩
                  have heq2 : ∀ W : World, (Op.equalIn 10000 58 (.agg #[.int .u8 (x0 : Int), .int .u8 (x1 : Int), .int .u8 (x2 : Int), .int .u8 (x3 : Int), .int .u8 (x4 : Int), .int .u8 (x5 : Int), .int .u8 (x6 : Int), .int .u8 (x7 : Int)]) (.agg #[.int .u8 (y0 : Int), .int .u8 (y1 : Int), .int .u8 (y2 : Int), .int .u8 (y3 : Int), .int .u8 (y4 : Int), .int .u8 (y5 : Int), .int .u8 (y6 : Int), .int .u8 (y7 : Int)])).run Try.prog W = .ok eq W := fun W => by
                    have h := eql_sec [x0, x1, x2, x3, x4, x5, x6, x7] [y0, y1, y2, y3, y4, y5, y6, y7] rfl rfl hp8.2 hr8.2 W
                    rw [heqb] at h
                    exact h
                  obtain ⟨a1, a2⟩ := HC1.out wr HB.out
                  clear hp hr hxl hxc hyl hyc hp8 hr8 hrp hrr
                  rcases eq with _ | _
                  · have HSN2 : Hid (dk + (difN x.l y.l (s + 1)).length = c + 1) := hid (by rw [HSN.out, if_pos (of_decide_eq_false heqb), List.length_append, List.length_singleton, ← HC.out]; omega)
                    clear heqb HSN
                    go_wp2_with fail
                    go_quiet (fail)
                    go_wp2
                    go_roundw
                    case rel => exact ⟨s + 1, by omega, by go_num, by rw [HSN2.out]; go_num, hid (below_drewN HB.out _)⟩
                    case measure => simp [Go.RowKit.intOf]; omega
                  · have HSN2 : Hid (dk + (difN x.l y.l (s + 1)).length = c) := hid (by rw [HSN.out, if_neg (fun h => h (of_decide_eq_true heqb)), List.append_nil, HC.out])
                    clear heqb HSN
                    go_wp2_with fail
                    go_quiet (fail)
                    go_wp2
                    go_roundw
                    case rel => exact ⟨s + 1, by omega, by go_num, by rw [HSN2.out], hid (below_drewN HB.out _)⟩
                    case measure => simp [Go.RowKit.intOf]; omega
                · obtain rfl : s = xn := by omega
                  have HDN : Hid (difC L M (k + 1) = c) := hid (by
                    rw [difC, HDK.out, HXL.out, HYM.out, ← HC.out]
                    unfold dif
                    rw [HXN.out])
                  go_wp2
                  go_roundw
                  case rel => exact ⟨k + 1, by omega, by go_num, by rw [HDN.out], HB⟩
                  case measure => simp [Go.RowKit.intOf]; omega
            · obtain rfl : k = n := by omega
              have HTOT : Hid (sumW ws = dk) := hid (by rw [HSU.out, ← HDK.out, hnL.out])
              have HBB := HB
              go_wp2_with fail
              go_loopw [11, 112] (fun nn i wr => ∃ j : Nat, j ≤ P ∧ i = .int .i64 (j : Int) ∧ nn = .int .i64 ((sumW (ws.take j) : Nat) : Int) ∧ Hid (Below w9.heap.size w9 wr)) (fun _ i _ => P - (Go.RowKit.intOf i).toNat)
              case atStart => exact ⟨0, Nat.zero_le _, rfl, rfl, HB⟩
              case round =>
                clear HB HBB
                obtain ⟨j, hj, rfl, rfl, HB⟩ := hrel
                obtain ⟨c, hc⟩ : ∃ c, sumW (ws.take j) = c := ⟨_, rfl⟩
                have hc9 : c ≤ 216 := by rw [← hc]; have := sumW_take_le ws j; rw [HTOT.out] at this; omega
                have HC := hid hc
                rw [hc]
                clear hc
                by_cases hjP : j < P
                · have hjc : (j : Int) < (P : Int) := by omega
                  obtain ⟨x, hx⟩ : ∃ x, ws[j]? = some x := ⟨ws[j]'(by rw [HPL.out]; exact hjP), List.getElem?_eq_getElem _⟩
                  have hxs := (HW9.out.1 x (List.mem_of_getElem? hx)).1
                  obtain ⟨b, off, hbA, hbl, hcell⟩ := wri_at HW9.out (by rw [HPL.out]; omega)
                  subst hbA
                  have hrow : ∀ (i : Nat) (z : Value), (cWri x)[i]? = some z → wr.cell? ⟨b, off + j * 3 + i, none⟩ = some z := fun i z hz => (HB.out.cell (p := ⟨b, _, none⟩) hbl).trans (hcell j _ hx i z hz)
                  have hsn := sumW_next hx
                  have hle := sumW_take_le ws (j + 1)
                  rw [HC.out] at hsn
                  rw [hsn, HTOT.out] at hle
                  obtain ⟨xv, xs', xd, xl⟩ := x
                  dsimp only at hxs hsn hle
                  obtain ⟨dA, dc, rfl⟩ := sec_form hxs
                  obtain ⟨m2, hm2⟩ : ∃ m2, xl.length = m2 := ⟨_, rfl⟩
                  have q0 : wr.cell? ⟨b, off + j * 3, none⟩ = some (.int .i64 xv) := hrow 0 _ rfl
                  have q1 : wr.cell? ⟨b, off + j * 3 + 1, none⟩ = some (.int .i64 xs') := hrow 1 _ rfl
                  have q2 : wr.cell? ⟨b, off + j * 3 + 2, none⟩ = some (.slice dA xl.length dc) := hrow 2 _ rfl
                  rw [hm2] at q2 hsn hle
                  have HSN := hid hsn
                  obtain ⟨W3, hW3⟩ : ∃ W3, wr.alloc (.cells #[.int .i64 xv, .int .i64 xs', .slice dA m2 dc] 42) = W3 := ⟨_, rfl⟩
                  have hb3 : Below wr.heap.size wr W3 := by rw [← hW3]; exact al1 _ _
                  have hx3 := heap_alloc_new wr (.cells #[.int .i64 xv, .int .i64 xs', .slice dA m2 dc] 42)
                  rw [hW3] at hx3
                  have HB3 := hid (HB.out.trans (hb3.mono HB.out.size))
                  have p2 : W3.cell? ⟨wr.heap.size, 2, none⟩ = some (.slice dA m2 dc) := cell_of_row _ _ 2 _ _ _ hx3
                  obtain ⟨g0, hg0⟩ : ∃ g0, wr.heap.size = g0 := ⟨_, rfl⟩
                  rw [hg0] at p2
                  have hcm : c + m2 ≤ 216 := by omega
                  clear hx hxs hcell hbl hrow hm2 hb3 hx3 hsn hle
                  go_wp2
                  go_roundw
                  case rel => exact ⟨j + 1, by omega, by go_num, by rw [HSN.out]; go_num, HB3⟩
                  case measure => simp [Go.RowKit.intOf]; omega
                · obtain rfl : j = P := by omega
                  obtain rfl : c = dk := by rw [← HC.out, List.take_of_length_le (by rw [HPL.out]; exact Nat.le_refl _), HTOT.out]
                  go_wp2_with fail
                  refine (HAW.out wr).mono ?_
                  rintro e w11 ⟨rfl, hb11⟩
                  have HB11 := hid (HBA.out.trans ((HB.out.trans (hb11.mono HB.out.size)).mono HBA.out.size))
                  clear hb11
                  go_wp2
                  go_ret
                  exact ⟨rfl, HB11.out⟩
        · rw [decide_eq_false hs] at HE
          clear hs
          go_wp2_with fail
          refine HE.out.mono ?_
          intro e w4 hq
          obtain ⟨rfl, hb4⟩ := saysQ_B hq
          have HB4 := hid (below_both HB3.out hb4)
          clear hq hb4
          go_wp2_with fail
          refine (HAW.out _).mono ?_
          rintro e w5 ⟨rfl, hb5⟩
          have HB5 := hid (below_both HB4.out hb5)
          clear hb5
          go_wp2
          go_ret
          exact ⟨rfl, HB5.out⟩
      · have d1 : (ck != 0) = true := by simpa using h0
        clear h0 hck
        go_wp2_with fail
        refine HF.out.mono ?_
        rintro e w1 ⟨rfl, rfl⟩
        go_wp2_with fail
        refine HG.out.mono ?_
        rintro e w1 ⟨rfl, rfl⟩
        go_wp2_with fail
        refine HCK2.out.mono ?_
        rintro e w1 ⟨rfl, hb1⟩
        have HB1 := hid hb1
        clear hb1
        go_wp2_with fail
        refine (HAW.out w1).mono ?_
        rintro e w2 ⟨rfl, hb2⟩
        have HB2 := hid (below_both HB1.out hb2)
        clear hb2
        go_wp2
        go_ret
        exact ⟨rfl, HB2.out⟩
end Go.Proofs.Ytbcnikmhodkbfaa
