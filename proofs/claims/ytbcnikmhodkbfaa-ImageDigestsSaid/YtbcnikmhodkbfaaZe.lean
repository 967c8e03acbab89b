/- The walk of ImageLast. -/
import Derived.Test.YtbcnikmhodkbfaaZd
namespace Go.Proofs.Ytbcnikmhodkbfaa
open Go.RowKit Go.Lib

theorem fewV_len {xs : List Vol} (h : fewV (con xs) = true) : xs.length ≤ 9 ∧ ∀ x ∈ xs, x.l.length ≤ 24 := by
  unfold fewV at h
  rw [con_len, Bool.and_eq_true] at h
  refine ⟨of_decide_eq_true h.1, fun x hx => ?_⟩
  exact of_decide_eq_true (List.all_eq_true.1 h.2 x.l (by unfold con; exact List.mem_map.2 ⟨x, hx, rfl⟩))
/-- The cell of a volume of an image. -/
theorem img_at {w : World} {A : Option Addr} {n c : Nat} {xs : List Vol} (h : Img w (.slice A n c) xs) (hp : 0 < xs.length) : ∃ b off, A = some ⟨b, off, none⟩ ∧ b < w.heap.size ∧ ∀ (k : Nat) (x : Vol), xs[k]? = some x → w.cell? ⟨b, off + k, none⟩ = some x.d := by
  obtain ⟨b, off, hA, hb, hc⟩ := arr_at1 h.2 (by rw [List.length_map]; exact hp)
  refine ⟨b, off, hA, hb, fun k x hx => ?_⟩
  have h1 := hc k (cVol x) (by rw [List.getElem?_map, hx]; rfl) 0 x.d rfl
  rw [Nat.mul_one, Nat.add_zero] at h1
  exact h1
/-- The cells of a sector. -/
theorem sec_at {w : World} {A : Option Addr} {n c : Nat} {l : List Sect} (h : Sec w (.slice A n c) l) (hp : 0 < l.length) : ∃ b off, A = some ⟨b, off, none⟩ ∧ b < w.heap.size ∧ ∀ (k : Nat) (s : Sect), l[k]? = some s → ∀ (j : Nat) (z : Value), (cSec s)[j]? = some z → w.cell? ⟨b, off + k * 8 + j, none⟩ = some z := by
  obtain ⟨b, off, hA, hb, hc⟩ := arr_at1 h.2 (by rw [List.length_map]; exact hp)
  exact ⟨b, off, hA, hb, fun k s hs j z hz => hc k _ (by rw [List.getElem?_map, hs]; rfl) j z hz⟩
set_option maxHeartbeats 8000000 in
set_option maxRecDepth 100000 in
/-- The sectors behind the writes, one by one. -/
theorem last_any (xs : List Vol) (ws : List Wri) (v u : Value) (w : World) (hv : Img w v xs) (hu : WrsA w u ws) :
    Calls Try.prog 9 #[v, u] w fun e w' => e = .returned (.bool true) ∧ Below w.heap.size w w' := by
  have HAW := hid (fun W => awake_any W)
  have HF := hid (few_any xs v w hv)
  have HFW := hid (fewW_any ws u w hu)
  have HCO : Hid (fewV (con xs) = true → ∀ W, Below w.heap.size w W → Calls Try.prog 39 #[v] W (RefCopyQ W (con xs))) := hid (fun h W hb => refCopy_any xs v W (hv.below hb) (by have := (fewV_len h).1; omega) (fun x hx => by have := (fewV_len h).2 x hx; omega))
  have HAP : Hid (xs.length ≤ 1000 → ∀ W, Below w.heap.size w W → Calls Try.prog 23 #[v, u] W (AppQ W (con xs) ws)) := hid (fun hl W hb => apply_any xs ws v u W (hv.below hb) (hu.below hb) hl)
  have HV0 := hid hv
  have HU0 := hid hu
  obtain ⟨A, ca, rfl⟩ := img_form hv
  obtain ⟨B, cb, rfl⟩ := wrs_form hu
  obtain ⟨_, hc1, hc2⟩ := arr_cap hu.2
  obtain ⟨n, hn⟩ : ∃ n, xs.length = n := ⟨_, rfl⟩
  obtain ⟨N, hN⟩ : ∃ N, ws.length = N := ⟨_, rfl⟩
  have HN := hid hN
  have HNX := hid hn
  rw [hn] at HF HCO HAP HV0 ⊢
  rw [hN] at HFW HAP HU0 hc1 ⊢
  obtain ⟨q, hq⟩ : ∃ q, fewV (con xs) = q := ⟨_, rfl⟩
  rw [hq] at HF HCO
  obtain ⟨q2, hq2⟩ : ∃ q2, fewW ws = q2 := ⟨_, rfl⟩
  rw [hq2] at HFW
  have HM : Hid (q = true → n ≤ 9) := hid (fun h => by
    rw [h] at hq
    have := (fewV_len hq).1
    omega)
  clear hv hu hn hN hq hq2
  go_enter Try.func9, Try.ntmps9
  rcases q with _ | _
  · go_wp2_with fail
    refine HF.out.mono ?_
    rintro e w1 ⟨rfl, rfl⟩
    go_wp2_with fail
    refine (HAW.out w).mono ?_
    rintro e w2 ⟨rfl, hb2⟩
    have HB2 := hid hb2
    clear hb2
    go_wp2
    go_ret
    exact ⟨rfl, HB2.out⟩
  · have hn9 := HM.out rfl
    have HCO2 := hid (HCO.out rfl)
    have HAP2 := hid (HAP.out (by omega))
    clear HCO HAP
    rcases q2 with _ | _
    · go_wp2_with fail
      refine HF.out.mono ?_
      rintro e w1 ⟨rfl, rfl⟩
      go_wp2_with fail
      refine HFW.out.mono ?_
      rintro e w1 ⟨rfl, hb1⟩
      have HB1 := hid hb1
      clear hb1
      go_wp2_with fail
      refine (HAW.out w1).mono ?_
      rintro e w2 ⟨rfl, hb2⟩
      have HB2 := hid (below_both HB1.out hb2)
      clear hb2
      go_wp2
      go_ret
      exact ⟨rfl, HB2.out⟩
    · go_wp2_with fail
      refine HF.out.mono ?_
      rintro e w1 ⟨rfl, rfl⟩
      go_wp2_with fail
      refine HFW.out.mono ?_
      rintro e w1 ⟨rfl, hb1⟩
      have HB1 := hid hb1
      have HCO3 := hid (HCO2.out w1 hb1)
      clear hb1 HCO2
      go_wp2_with fail
      refine HCO3.out.mono ?_
      rintro e w2 ⟨r, ysO, rfl, hcO, hoO, hb2⟩
      have HB2 := hid (below_both HB1.out hb2)
      have hio := img_of_ownV (ownR_V hoO)
      obtain ⟨oA, oc, rfl⟩ := ownAny_form hoO.1
      have hol : ysO.length = n := by rw [← con_len, hcO, con_len, HNX.out]
      rw [hol] at hio ⊢
      have HIO := hid hio
      have HCO := hid hcO
      have HOL := hid hol
      have HAP3 := hid (HAP2.out w2 HB2.out)
      clear hcO hoO hb2 hio hol HCO3 HAP2 HB1
      go_wp2_with fail
      refine HAP3.out.mono ?_
      rintro e w3 hq
      obtain ⟨A1, n1, k1, ysA, rfl, hi1, hc1, hb3⟩ := appQ_use hq
      obtain ⟨_, _, e1, rfl⟩ : ∃ A' c', (Value.slice A1 n1 k1) = .slice A' ysA.length c' ∧ n1 = ysA.length := by
        obtain ⟨A', c', e⟩ := img_form hi1
        injection e with e1 e2 e3
        exact ⟨A1, k1, by rw [e2], e2⟩
      clear e1
      have HB3 := hid (below_both HB2.out hb3)
      have HIA := hid hi1
      have HIO3 := hid (HIO.out.below hb3)
      have HRS := hid hc1
      clear hq hi1 hc1 hb3 HAP3 HIO HB2
      obtain ⟨rs, hrs⟩ : ∃ rs, appM (con xs) ws = rs := ⟨_, rfl⟩
      rw [hrs] at HRS ⊢
      rcases rs with ⟨ix, er⟩ | L'
      · have hl0 : ysA.length = 0 := by rw [← con_len, HRS.out]; rfl
        rw [hl0]
        dsimp only [resA]
        · have d1 : (er != 0) = true := by simpa using appM_err hrs
          clear hl0 hrs
          go_wp2_with fail
          refine (HAW.out w3).mono ?_
          rintro e w4 ⟨rfl, hb4⟩
          have HB4 := hid (below_both HB3.out hb4)
          clear hb4
          go_wp2
          go_ret
          exact ⟨rfl, HB4.out⟩
      · obtain ⟨hck, happ⟩ := appM_ok hrs
        obtain ⟨hsz, hfit⟩ := appW_ok happ
        have HFIT := hid hfit
        have HAPP := hid happ
        have HSZ := hid hsz
        have HCKS := hid hck
        have hcA : con ysA = L' := HRS.out
        have hl1 : ysA.length = n := by rw [← con_len, hcA, ← siz_len, hsz, siz_len, con_len, HNX.out]
        rw [hl1] at HIA ⊢
        have HCA := hid hcA
        have HAL := hid hl1
        have HS := hid (fun W (hb : Below w3.heap.size w3 W) => refSame_any xs ysO _ _ W (HV0.out.below (HB3.out.trans (hb.mono HB3.out.size))) (HIO3.out.below hb))
        rw [decide_eq_true HCO.out.symm] at HS
        have HS3 := hid (HS.out w3 (Below.refl _ _))
        dsimp only [resA]
        clear hrs hck happ hsz hfit hcA hl1 HRS HS
        go_wp2_with fail
        refine HS3.out.mono ?_
        rintro e w4 ⟨rfl, hb4⟩
        have HB4 := hid (below_both HB3.out hb4)
        have HIA4 := hid (HIA.out.below hb4)
        have HIO4 := hid (HIO3.out.below hb4)
        clear hb4 HS3 HIA HIO3 HB3
        go_wp2_with fail
        go_loopw [53] (fun i wr => ∃ k : Nat, k ≤ n ∧ i = .int .i64 (k : Int) ∧ Hid (Below w4.heap.size w4 wr)) (fun i _ => n - (Go.RowKit.intOf i).toNat)
        case atStart => exact ⟨0, Nat.zero_le _, rfl, hid (Below.refl _ _)⟩
        case round =>
          obtain ⟨k, hk, rfl, HB⟩ := hrel
          obtain ⟨wo, hwo⟩ : ∃ x, x = wr := ⟨_, rfl⟩
          subst hwo
          by_cases hkn : k < n
          · have hkc : (k : Int) < (n : Int) := by omega
            obtain ⟨y, hy⟩ : ∃ y, ysO[k]? = some y := ⟨ysO[k]'(by rw [HOL.out]; exact hkn), List.getElem?_eq_getElem _⟩
            obtain ⟨z, hz⟩ : ∃ z, ysA[k]? = some z := ⟨ysA[k]'(by rw [HAL.out]; exact hkn), List.getElem?_eq_getElem _⟩
            obtain ⟨bo, oo, hbo, hlo, hco⟩ := img_at HIO4.out (by rw [HOL.out]; omega)
            obtain ⟨ba, oa, hba, hla, hca⟩ := img_at HIA4.out (by rw [HAL.out]; omega)
            subst hbo hba
            have hyS := (HIO4.out.1 y (List.mem_of_getElem? hy)).1
            have hzS := (HIA4.out.1 z (List.mem_of_getElem? hz)).1
            have hyL : (con xs).getD k [] = y.l := by rw [← HCO.out, List.getD_eq_getElem?_getD]; unfold con; rw [List.getElem?_map, hy]; rfl
            have hzL : L'.getD k [] = z.l := by rw [← HCA.out, List.getD_eq_getElem?_getD]; unfold con; rw [List.getElem?_map, hz]; rfl
            have hyz : z.l.length = y.l.length := by rw [← hyL, ← hzL]; exact siz_getD HSZ.out k
            obtain ⟨m, hm⟩ : ∃ m, y.l.length = m := ⟨_, rfl⟩
            have hzm := hyz.trans hm
            have HM4 : Hid (m ≤ 4096) := hid (by have h := (chk_ok HCKS.out).2.2 y.l (by rw [← HCO.out]; unfold con; exact List.mem_map.2 ⟨y, List.mem_of_getElem? hy, rfl⟩); omega)
            obtain ⟨yA, yc, hyd⟩ := sec_form hyS
            obtain ⟨zA, zc, hzd⟩ := sec_form hzS
            rw [hyd, hm] at hyS
            rw [hzd, hzm] at hzS
            have HC1 : Hid (∀ W, Below w4.heap.size w4 W → W.cell? ⟨bo, oo + k, none⟩ = some (.slice yA m yc) ∧ W.cell? ⟨ba, oa + k, none⟩ = some (.slice zA m zc)) := hid (fun W hW => ⟨(hW.cell (p := ⟨bo, oo + k, none⟩) hlo).trans (by rw [hco k y hy, hyd, hm]), (hW.cell (p := ⟨ba, oa + k, none⟩) hla).trans (by rw [hca k z hz, hzd, hzm])⟩)
            have HYS := hid hyS
            have HZS := hid hzS
            have HYM := hid hm
            have HZM := hid hzm
            have HAT : Hid (∀ (s : Nat) (c : Sect), y.l[s]? = some c → z.l[s]? = some (ws.foldl (stepW k s) c)) := hid (fun s c hc => by
              have h := appW_at HAPP.out (v := k) (s := s) (c := c) (by rw [hyL]; exact hc)
              rwa [hzL] at h)
            have HBd : Hid (∀ q, Below w4.heap.size w4 (wo.drewN q)) := hid (fun q => below_drewN HB.out q)
            have HBd1 : Hid (Below w4.heap.size w4 wo.drew) := hid (below_drew HB.out)
            obtain ⟨a1, a2⟩ := HC1.out wo HB.out
            clear hy hz hlo hco hla hca hyS hzS hyL hzL hyz hm hzm hyd hzd HB
            go_wp2_with fail
            go_quiet (fail)
            go_wp2_with fail
            clear a1 a2
            go_loopw [72] (fun i wr => ∃ s : Nat, s ≤ m ∧ i = .int .i64 (s : Int) ∧ Hid (Below w4.heap.size w4 wr)) (fun i _ => m - (Go.RowKit.intOf i).toNat)
            case atStart => exact ⟨0, Nat.zero_le _, rfl, hid (HBd.out _)⟩
            case round =>
              clear HBd HBd1
              obtain ⟨s, hs, rfl, HB⟩ := hrel
              obtain ⟨wi, hwi⟩ : ∃ x, x = wr := ⟨_, rfl⟩
              subst hwi
              by_cases hsm : s < m
              · have hsc : (s : Int) < (m : Int) := by omega
                obtain ⟨c, hc⟩ : ∃ c, y.l[s]? = some c := ⟨y.l[s]'(by rw [HYM.out]; exact hsm), List.getElem?_eq_getElem _⟩
                have hzc := HAT.out s c hc
                obtain ⟨yb, yo, hyb, hyl, hyc⟩ := sec_at HYS.out (by rw [HYM.out]; omega)
                obtain ⟨zb, zo, hzb, hzl, hzcc⟩ := sec_at HZS.out (by rw [HZM.out]; omega)
                subst hyb hzb
                have hc8 := HYS.out.1 c (List.mem_of_getElem? hc)
                have hf8 := HZS.out.1 _ (List.mem_of_getElem? hzc)
                have HFL : Hid (∃ f, ws.foldl (stepW k s) c = f) := hid ⟨_, rfl⟩
                obtain ⟨f, hf⟩ := HFL.out
                rw [hf] at hzc hf8
                have hrc : ∀ W, Below w4.heap.size w4 W → ∀ (i : Nat) (u : Value), (cSec c)[i]? = some u → W.cell? ⟨yb, yo + s * 8 + i, none⟩ = some u := fun W hW i u hu => (hW.cell (p := ⟨yb, _, none⟩) hyl).trans (hyc s c hc i u hu)
                have hrf : ∀ W, Below w4.heap.size w4 W → ∀ (i : Nat) (u : Value), (cSec f)[i]? = some u → W.cell? ⟨zb, zo + s * 8 + i, none⟩ = some u := fun W hW i u hu => (hW.cell (p := ⟨zb, _, none⟩) hzl).trans (hzcc s f hzc i u hu)
                have HRF := hid hrf
                have HCC := hid hc8
                have HFF := hid hf8
                have HFO := hid hf
                obtain ⟨W1, hW1⟩ : ∃ W1, wi.alloc (.cells (cSec c).toArray 58) = W1 := ⟨_, rfl⟩
                have hb1 : Below wi.heap.size wi W1 := by rw [← hW1]; exact al1 _ _
                have hx1 := heap_alloc_new wi (.cells (cSec c).toArray 58)
                rw [hW1] at hx1
                have HX1 := hid hx1
                have HB1 := hid (HB.out.trans (hb1.mono HB.out.size))
                have hzz := HB.out.size
                have hri := hrc wi HB.out
                obtain ⟨x0, x1, x2, x3, x4, x5, x6, x7, rfl⟩ := list8 hc8.1
                have q0 : wi.cell? ⟨yb, yo + s * 8, none⟩ = some (.int .u8 (x0 : Int)) := hri 0 _ rfl
                have q1 : wi.cell? ⟨yb, yo + s * 8 + 1, none⟩ = some (.int .u8 (x1 : Int)) := hri 1 _ rfl
                have q2 : wi.cell? ⟨yb, yo + s * 8 + 2, none⟩ = some (.int .u8 (x2 : Int)) := hri 2 _ rfl
                have q3 : wi.cell? ⟨yb, yo + s * 8 + 3, none⟩ = some (.int .u8 (x3 : Int)) := hri 3 _ rfl
                have q4 : wi.cell? ⟨yb, yo + s * 8 + 4, none⟩ = some (.int .u8 (x4 : Int)) := hri 4 _ rfl
                have q5 : wi.cell? ⟨yb, yo + s * 8 + 5, none⟩ = some (.int .u8 (x5 : Int)) := hri 5 _ rfl
                have q6 : wi.cell? ⟨yb, yo + s * 8 + 6, none⟩ = some (.int .u8 (x6 : Int)) := hri 6 _ rfl
                have q7 : wi.cell? ⟨yb, yo + s * 8 + 7, none⟩ = some (.int .u8 (x7 : Int)) := hri 7 _ rfl
                obtain ⟨a1, a2⟩ := HC1.out wi HB.out
                have HW1 : Hid (wi.alloc (.cells #[.int .u8 (x0 : Int), .int .u8 (x1 : Int), .int .u8 (x2 : Int), .int .u8 (x3 : Int), .int .u8 (x4 : Int), .int .u8 (x5 : Int), .int .u8 (x6 : Int), .int .u8 (x7 : Int)] 58) = W1) := hid hW1
                clear hc hzc hyl hyc hzl hzcc hc8 hf8 hf hrc hrf hW1 hb1 hx1 hri
                have hw1 := HW1.out
                go_wp2_with fail
                clear hw1 a1 a2 q0 q1 q2 q3 q4 q5 q6 q7
                have hx1 := HX1.out
                obtain ⟨gb, hgb⟩ : ∃ gb, wi.heap.size = gb := ⟨_, rfl⟩
                rw [hgb] at hx1 hzz ⊢
                have HX2 := hid hx1
                clear hx1 HX1 HW1 hgb
                go_loopw [84] (fun i wr => ∃ (j : Nat) (d : Sect), j ≤ N ∧ i = .int .i64 (j : Int) ∧ d.length = 8 ∧ Hid ((ws.take j).foldl (stepW k s) [x0, x1, x2, x3, x4, x5, x6, x7] = d) ∧ Hid (wr.heap[gb]? = some (.cells (cSec d).toArray 58)) ∧ Hid (Below w4.heap.size w4 wr)) (fun i _ => N - (Go.RowKit.intOf i).toNat)
                case atStart => exact ⟨0, _, Nat.zero_le _, rfl, HCC.out.1, hid rfl, HX2, HB1⟩
                case round =>
                  clear HX2 HB1
                  obtain ⟨j, d, hj, rfl, hd, HD, HG, HB⟩ := hrel
                  by_cases hjN : j < N
                  · have hjc : (j : Int) < (N : Int) := by omega
                    obtain ⟨x, hx⟩ : ∃ x, ws[j]? = some x := ⟨ws[j]'(by rw [HN.out]; exact hjN), List.getElem?_eq_getElem _⟩
                    have hxm := List.mem_of_getElem? hx
                    have hxs := (HU0.out.1 x hxm).1
                    obtain ⟨ft1, ft2, ft3⟩ := HFIT.out x hxm
                    obtain ⟨b, off, hbA, hbl, hcell⟩ := wri_at HU0.out (by rw [HN.out]; omega)
                    subst hbA
                    have hBw := HB4.out.trans (HB.out.mono HB4.out.size)
                    have hrow : ∀ (i : Nat) (z : Value), (cWri x)[i]? = some z → wr.cell? ⟨b, off + j * 3 + i, none⟩ = some z := fun i z hz => (hBw.cell (p := ⟨b, _, none⟩) hbl).trans (hcell j _ hx i z hz)
                    have hfs := foldW_snoc (v := k) (s := s) (c := [x0, x1, x2, x3, x4, x5, x6, x7]) hx
                    rw [HD.out] at hfs
                    have HFS := hid hfs
                    obtain ⟨xv, xs', xd, xl⟩ := x
                    dsimp only at hxs ft1 ft2 ft3
                    obtain ⟨dA, dc, rfl⟩ := sec_form hxs
                    have HXS := hid (hxs.below hBw)
                    obtain ⟨m2, hm2⟩ : ∃ m2, xl.length = m2 := ⟨_, rfl⟩
                    have HM2 := hid hm2
                    have q0 : wr.cell? ⟨b, off + j * 3, none⟩ = some (.int .i64 xv) := hrow 0 _ rfl
                    have q1 : wr.cell? ⟨b, off + j * 3 + 1, none⟩ = some (.int .i64 xs') := hrow 1 _ rfl
                    have q2 : wr.cell? ⟨b, off + j * 3 + 2, none⟩ = some (.slice dA xl.length dc) := hrow 2 _ rfl
                    rw [hm2] at q2 HXS ft3
                    obtain ⟨W3, hW3⟩ : ∃ W3, wr.alloc (.cells #[.int .i64 xv, .int .i64 xs', .slice dA m2 dc] 42) = W3 := ⟨_, rfl⟩
                    have hb3 : Below wr.heap.size wr W3 := by rw [← hW3]; exact al1 _ _
                    have hx3 := heap_alloc_new wr (.cells #[.int .i64 xv, .int .i64 xs', .slice dA m2 dc] 42)
                    rw [hW3] at hx3
                    have HB3 := hid (HB.out.trans (hb3.mono HB.out.size))
                    have HG3 := hid ((hb3.block gb (box_lt HG.out)).trans HG.out)
                    have p0 : W3.cell? ⟨wr.heap.size, 0, none⟩ = some (.int .i64 xv) := cell_of_row _ _ 0 _ _ _ hx3
                    have p1 : W3.cell? ⟨wr.heap.size, 1, none⟩ = some (.int .i64 xs') := cell_of_row _ _ 1 _ _ _ hx3
                    have p2 : W3.cell? ⟨wr.heap.size, 2, none⟩ = some (.slice dA m2 dc) := cell_of_row _ _ 2 _ _ _ hx3
                    obtain ⟨g0, hg0⟩ : ∃ g0, wr.heap.size = g0 := ⟨_, rfl⟩
                    rw [hg0] at p0 p1 p2
                    have HXS3 := hid (HXS.out.below hb3)
                    clear hx hxm hxs hcell hbl hBw hrow hfs hm2 hb3 hx3 HXS HG HB HD
                    by_cases g1 : xv = (k : Int)
                    · subst g1
                      have hwr : IntKind.i64.wrap ((s : Int) - xs') = (s : Int) - xs' := by unfold IntKind.wrap; simp [IntKind.bits, IntKind.signed]; have := HM4.out; omega
                      by_cases g2 : xs' ≤ (s : Int)
                      · have e2 : decide (xs' ≤ (s : Int)) = true := by simpa using g2
                        by_cases g3 : (s : Int) - xs' < (m2 : Int)
                        · obtain ⟨t, ht⟩ := Int.eq_ofNat_of_zero_le (show 0 ≤ (s : Int) - xs' by omega)
                          have hwrt : IntKind.i64.wrap ((s : Int) - xs') = (t : Int) := hwr.trans ht
                          clear hwr
                          rw [ht] at g3
                          have htm : t < m2 := by omega
                          have e3 : decide (t < m2) = true := by simpa using htm
                          have e3i : decide ((t : Int) < (m2 : Int)) = true := by simpa using htm
                          obtain ⟨y, hy⟩ : ∃ y, xl[t]? = some y := ⟨xl[t]'(by rw [HM2.out]; exact htm), List.getElem?_eq_getElem _⟩
                          have hy8 := HXS3.out.1 y (List.mem_of_getElem? hy)
                          have HFS2 : Hid ((ws.take (j + 1)).foldl (stepW k s) [x0, x1, x2, x3, x4, x5, x6, x7] = y) := hid (by
                            rw [HFS.out]
                            unfold stepW
                            dsimp only
                            rw [if_pos ⟨rfl, g2, by rw [ht, HM2.out]; exact g3⟩, ht, Int.toNat_natCast, hy]
                            rfl)
                          obtain ⟨db, doff, hdA, hdl, hdc⟩ := sec_at HXS3.out (by rw [HM2.out]; omega)
                          subst hdA
                          have hrd := hdc t y hy
                          have hfr := fun i => box_fr HG3.out i
                          have hrb : ∀ (i : Nat) (z : Value), (cSec d)[i]? = some z → W3.cell? ⟨gb, i, none⟩ = some z := fun i z hz => by rw [cell_of_row _ _ i _ _ _ HG3.out, List.getElem?_toArray]; exact hz
                          obtain ⟨d0, d1, d2, d3, d4, d5, d6, d7, rfl⟩ := list8 hd
                          obtain ⟨y0, y1, y2, y3, y4, y5, y6, y7, rfl⟩ := list8 hy8.1
                          have u0 : W3.cell? ⟨db, doff + t * 8, none⟩ = some (.int .u8 (y0 : Int)) := hrd 0 _ rfl
                          have u1 : W3.cell? ⟨db, doff + t * 8 + 1, none⟩ = some (.int .u8 (y1 : Int)) := hrd 1 _ rfl
                          have u2 : W3.cell? ⟨db, doff + t * 8 + 2, none⟩ = some (.int .u8 (y2 : Int)) := hrd 2 _ rfl
                          have u3 : W3.cell? ⟨db, doff + t * 8 + 3, none⟩ = some (.int .u8 (y3 : Int)) := hrd 3 _ rfl
                          have u4 : W3.cell? ⟨db, doff + t * 8 + 4, none⟩ = some (.int .u8 (y4 : Int)) := hrd 4 _ rfl
                          have u5 : W3.cell? ⟨db, doff + t * 8 + 5, none⟩ = some (.int .u8 (y5 : Int)) := hrd 5 _ rfl
                          have u6 : W3.cell? ⟨db, doff + t * 8 + 6, none⟩ = some (.int .u8 (y6 : Int)) := hrd 6 _ rfl
                          have u7 : W3.cell? ⟨db, doff + t * 8 + 7, none⟩ = some (.int .u8 (y7 : Int)) := hrd 7 _ rfl
                          have o0 : W3.cell? ⟨gb, 0, none⟩ = some (.int .u8 (d0 : Int)) := hrb 0 _ rfl
                          have o1 : W3.cell? ⟨gb, 1, none⟩ = some (.int .u8 (d1 : Int)) := hrb 1 _ rfl
                          have o2 : W3.cell? ⟨gb, 2, none⟩ = some (.int .u8 (d2 : Int)) := hrb 2 _ rfl
                          have o3 : W3.cell? ⟨gb, 3, none⟩ = some (.int .u8 (d3 : Int)) := hrb 3 _ rfl
                          have o4 : W3.cell? ⟨gb, 4, none⟩ = some (.int .u8 (d4 : Int)) := hrb 4 _ rfl
                          have o5 : W3.cell? ⟨gb, 5, none⟩ = some (.int .u8 (d5 : Int)) := hrb 5 _ rfl
                          have o6 : W3.cell? ⟨gb, 6, none⟩ = some (.int .u8 (d6 : Int)) := hrb 6 _ rfl
                          have o7 : W3.cell? ⟨gb, 7, none⟩ = some (.int .u8 (d7 : Int)) := hrb 7 _ rfl
                          have v0 := hfr 0
                          have v1 := hfr 1
                          have v2 := hfr 2
                          have v3 := hfr 3
                          have v4 := hfr 4
                          have v5 := hfr 5
                          have v6 := hfr 6
                          have v7 := hfr 7
                          have HG5 := hid (row8 (x0 := .int .u8 (y0 : Int)) (x1 := .int .u8 (y1 : Int)) (x2 := .int .u8 (y2 : Int)) (x3 := .int .u8 (y3 : Int)) (x4 := .int .u8 (y4 : Int)) (x5 := .int .u8 (y5 : Int)) (x6 := .int .u8 (y6 : Int)) (x7 := .int .u8 (y7 : Int)) HG3.out rfl)
                          have HB5 := hid (((((((((HB3.out).setCell (p := ⟨gb, 0, none⟩) hzz (.int .u8 (y0 : Int))).setCell (p := ⟨gb, 1, none⟩) hzz (.int .u8 (y1 : Int))).setCell (p := ⟨gb, 2, none⟩) hzz (.int .u8 (y2 : Int))).setCell (p := ⟨gb, 3, none⟩) hzz (.int .u8 (y3 : Int))).setCell (p := ⟨gb, 4, none⟩) hzz (.int .u8 (y4 : Int))).setCell (p := ⟨gb, 5, none⟩) hzz (.int .u8 (y5 : Int))).setCell (p := ⟨gb, 6, none⟩) hzz (.int .u8 (y6 : Int))).setCell (p := ⟨gb, 7, none⟩) hzz (.int .u8 (y7 : Int)))
                          clear hy hy8 hdl hdc hrd hrb HG3 HB3 HXS3 HFS ht g2 hd hfr
                          go_wp2
                          go_roundw
                          case rel => exact ⟨j + 1, _, by omega, by go_num, rfl, HFS2, HG5, HB5⟩
                          case measure => simp [Go.RowKit.intOf]; omega
                        · have e3 : decide ((s : Int) - xs' < (m2 : Int)) = false := by simpa using g3
                          have HFS2 : Hid ((ws.take (j + 1)).foldl (stepW k s) [x0, x1, x2, x3, x4, x5, x6, x7] = d) := hid (by
                            rw [HFS.out]
                            unfold stepW
                            dsimp only
                            rw [if_neg (fun h => g3 (by rw [← HM2.out]; exact h.2.2))])
                          clear g3 g2 HFS
                          go_wp2
                          go_roundw
                          case rel => exact ⟨j + 1, d, by omega, by go_num, hd, HFS2, HG3, HB3⟩
                          case measure => simp [Go.RowKit.intOf]; omega
                      · have e2 : decide (xs' ≤ (s : Int)) = false := by simpa using g2
                        have HFS2 : Hid ((ws.take (j + 1)).foldl (stepW k s) [x0, x1, x2, x3, x4, x5, x6, x7] = d) := hid (by
                          rw [HFS.out]
                          unfold stepW
                          dsimp only
                          rw [if_neg (fun h => g2 h.2.1)])
                        clear g2 HFS
                        go_wp2
                        go_roundw
                        case rel => exact ⟨j + 1, d, by omega, by go_num, hd, HFS2, HG3, HB3⟩
                        case measure => simp [Go.RowKit.intOf]; omega
                    · have e1 : (xv == (k : Int)) = false := by simpa using g1
                      have HFS2 : Hid ((ws.take (j + 1)).foldl (stepW k s) [x0, x1, x2, x3, x4, x5, x6, x7] = d) := hid (by
                        rw [HFS.out]
                        unfold stepW
                        dsimp only
                        rw [if_neg (fun h => g1 h.1)])
                      clear g1 HFS
                      go_wp2
                      go_roundw
                      case rel => exact ⟨j + 1, d, by omega, by go_num, hd, HFS2, HG3, HB3⟩
                      case measure => simp [Go.RowKit.intOf]; omega
                  · obtain rfl : j = N := by omega
                    have hdf : d = f := by rw [← HD.out, ← HFO.out, List.take_of_length_le (by rw [HN.out]; exact Nat.le_refl _)]
                    subst hdf
                    have hri := HRF.out wr HB.out
                    have hrb : ∀ (i : Nat) (z : Value), (cSec d)[i]? = some z → wr.cell? ⟨gb, i, none⟩ = some z := fun i z hz => by rw [cell_of_row _ _ i _ _ _ HG.out, List.getElem?_toArray]; exact hz
                    have hB8 := HFF.out.2
                    clear HRF HFF HFO HD HG
                    obtain ⟨d0, d1, d2, d3, d4, d5, d6, d7, rfl⟩ := list8 hd
                    have q0 : wr.cell? ⟨zb, zo + s * 8, none⟩ = some (.int .u8 (d0 : Int)) := hri 0 _ rfl
                    have q1 : wr.cell? ⟨zb, zo + s * 8 + 1, none⟩ = some (.int .u8 (d1 : Int)) := hri 1 _ rfl
                    have q2 : wr.cell? ⟨zb, zo + s * 8 + 2, none⟩ = some (.int .u8 (d2 : Int)) := hri 2 _ rfl
                    have q3 : wr.cell? ⟨zb, zo + s * 8 + 3, none⟩ = some (.int .u8 (d3 : Int)) := hri 3 _ rfl
                    have q4 : wr.cell? ⟨zb, zo + s * 8 + 4, none⟩ = some (.int .u8 (d4 : Int)) := hri 4 _ rfl
                    have q5 : wr.cell? ⟨zb, zo + s * 8 + 5, none⟩ = some (.int .u8 (d5 : Int)) := hri 5 _ rfl
                    have q6 : wr.cell? ⟨zb, zo + s * 8 + 6, none⟩ = some (.int .u8 (d6 : Int)) := hri 6 _ rfl
                    have q7 : wr.cell? ⟨zb, zo + s * 8 + 7, none⟩ = some (.int .u8 (d7 : Int)) := hri 7 _ rfl
                    have p0 : wr.cell? ⟨gb, 0, none⟩ = some (.int .u8 (d0 : Int)) := hrb 0 _ rfl
                    have p1 : wr.cell? ⟨gb, 1, none⟩ = some (.int .u8 (d1 : Int)) := hrb 1 _ rfl
                    have p2 : wr.cell? ⟨gb, 2, none⟩ = some (.int .u8 (d2 : Int)) := hrb 2 _ rfl
                    have p3 : wr.cell? ⟨gb, 3, none⟩ = some (.int .u8 (d3 : Int)) := hrb 3 _ rfl
                    have p4 : wr.cell? ⟨gb, 4, none⟩ = some (.int .u8 (d4 : Int)) := hrb 4 _ rfl
                    have p5 : wr.cell? ⟨gb, 5, none⟩ = some (.int .u8 (d5 : Int)) := hrb 5 _ rfl
                    have p6 : wr.cell? ⟨gb, 6, none⟩ = some (.int .u8 (d6 : Int)) := hrb 6 _ rfl
                    have p7 : wr.cell? ⟨gb, 7, none⟩ = some (.int .u8 (d7 : Int)) := hrb 7 _ rfl
                    obtain ⟨a1, a2⟩ := HC1.out wr HB.out
                    have heq2 : ∀ W : World, (Op.equalIn 10000 58 (.agg #[.int .u8 (d0 : Int), .int .u8 (d1 : Int), .int .u8 (d2 : Int), .int .u8 (d3 : Int), .int .u8 (d4 : Int), .int .u8 (d5 : Int), .int .u8 (d6 : Int), .int .u8 (d7 : Int)]) (.agg #[.int .u8 (d0 : Int), .int .u8 (d1 : Int), .int .u8 (d2 : Int), .int .u8 (d3 : Int), .int .u8 (d4 : Int), .int .u8 (d5 : Int), .int .u8 (d6 : Int), .int .u8 (d7 : Int)])).run Try.prog W = .ok true W := fun W => by
                      have h := eql_sec [d0, d1, d2, d3, d4, d5, d6, d7] [d0, d1, d2, d3, d4, d5, d6, d7] rfl rfl hB8 hB8 W
                      rw [decide_eq_true rfl] at h
                      exact h
                    clear hri hrb hB8
                    have hm4 := HM4.out
                    go_wp2_with fail
                    go_quiet (fail)
                    go_wp2
                    go_roundw
                    case rel => exact ⟨s + 1, by omega, by go_num, hid (below_drewN HB.out _)⟩
                    case measure => simp [Go.RowKit.intOf]; omega
              · obtain rfl : s = m := by omega
                go_wp2
                go_roundw
                case rel => exact ⟨k + 1, by omega, by go_num, HB⟩
                case measure => simp [Go.RowKit.intOf]; omega
          · obtain rfl : k = n := by omega
            go_wp2_with fail
            refine (HAW.out wo).mono ?_
            rintro e w7 ⟨rfl, hb7⟩
            have HB7 := hid (HB4.out.trans ((HB.out.trans (hb7.mono HB.out.size)).mono HB4.out.size))
            clear hb7
            go_wp2
            go_ret
            exact ⟨rfl, HB7.out⟩
end Go.Proofs.Ytbcnikmhodkbfaa
