/- The reference's Decode: the walk. -/
import Derived.Test.YtldlddoealpomaaS
namespace Go.Proofs.Ytldlddoealpomaa
open Go.RowKit Go.Lib

def lenOf : Value → Nat
  | .slice _ n _ => n
  | _ => 0
set_option maxHeartbeats 8000000 in
set_option maxRecDepth 100000 in
theorem refDecode_any (d b : List Nat) (v u : Value) (most : Int) (w : World) (hv : Byt w v d) (hn : NilOk v) (hu : Byt w u b) (hun : NilOk u) (hd : d.length ≤ 80000000) (hl : b.length ≤ 90000) (hm : most ≤ 9223372036854775807) :
    Calls Try.prog 17 #[v, u, .int .i64 most] w (DecQ w d b most) := by
  obtain ⟨A, c, rfl⟩ := byt_form hv
  obtain ⟨B, c', rfl⟩ := byt_form hu
  by_cases hneg : most < 0
  · have HT : Hid (decL d b most = .error 2) := hid (if_pos hneg)
    have d1 : decide (most < 0) = true := decide_eq_true hneg
    clear hv hn hu hun hneg
    go_enter Try.func17, Try.ntmps17
    go_wp2
    refine bodyPost_ret (v := .tuple #[.slice none 0 0, .int .i64 2]) (by simp [results, Try.results17, go_sem]) rfl ?_
    exact ⟨Below.refl _ _, .inl ⟨2, HT.out, by decide, rfl⟩⟩
  have d1 : decide (most < 0) = false := decide_eq_false hneg
  obtain ⟨M, rfl⟩ : ∃ M : Nat, most = (M : Int) := ⟨most.toNat, by omega⟩
  have HT := hid (dec_whole (M := M) hv.1 hu.1)
  have H8D := hid hv.1
  have H8B := hid hu.1
  obtain ⟨T, hT⟩ : ∃ T, toks b.length d M b = T := ⟨_, rfl⟩
  rw [hT] at HT
  have HTT := hid hT
  have HV := hid hv
  have HN := hid hn
  have HU := hid hu
  have HUN := hid hun
  clear hv hn hu hun hneg hT
  go_enter Try.func17, Try.ntmps17
  go_wp2_with (at_builtin; refine append_byt rfl (.tmp 17) (.tmp 18) rfl w.heap.size _ 0 [] rfl (own_empty w) d _ rfl (HV.out.below (al1 _ _)) HN.out (by omega) (by simp) ?_; intro v1 w1 hown1 hg1; have HB1 := hid (below_own (al1 w _) (own_empty w) hg1 (by simp) (Nat.le_refl _)); have HO1 := hid hown1; clear hown1 hg1)
  have HO1' : Hid (w1.ownsRow w.heap.size 5 1 v1 d.length (d.map byteV)) := hid (by have h := HO1.out; simpa using h)
  clear HO1
  obtain ⟨oA, oc, rfl⟩ := own_form HO1'.out
  have HAP := hid (apart_old HU.out HO1'.out (Nat.le_refl _))
  have HU1 := hid (HU.out.below HB1.out)
  obtain ⟨dl, hdl⟩ : ∃ dl, d.length = dl := ⟨_, rfl⟩
  obtain ⟨bl, hbl⟩ : ∃ bl, b.length = bl := ⟨_, rfl⟩
  have HDL := hid hdl
  have HBL := hid hbl
  rw [hdl] at hd HT
  rw [hbl] at hl
  have HS1 : Hid (w1.ownsRow w.heap.size 5 1 (.slice oA dl oc) d.length (d.map byteV)) := hid (by rw [← hdl]; exact HO1'.out)
  rw [hdl] at HAP
  rw [hdl, hbl]
  rw [hbl] at HU1 HUN HAP
  go_loopw [1, 8] (fun u o wr => ∃ (f room : Nat) (t s : List Nat), s.length ≤ f ∧ t.length + 131 * s.length ≤ dl + 131 * bl ∧ room + t.length = M + dl ∧ dl ≤ t.length ∧ room ≤ M ∧ s.length ≤ bl ∧ Hid (Byt wr u s) ∧ Hid (NilOk u) ∧ Hid (Apart u o) ∧ Hid (wr.ownsRow w.heap.size 5 1 o t.length (t.map byteV)) ∧ Hid (toks f t room s = T) ∧ Hid (B8 t) ∧ Hid (B8 s) ∧ Hid (Below w.heap.size w wr)) (fun u _ _ => lenOf u)
  case atStart => exact ⟨bl, M, d, b, by have := HBL.out; omega, by have := HDL.out; have := HBL.out; omega, by have := HDL.out; omega, by have := HDL.out; omega, Nat.le_refl _, by have := HBL.out; omega, HU1, HUN, HAP, HS1, hid (by have h := HTT.out; rw [HBL.out] at h; exact h), H8D, H8B, HB1⟩
  case round =>
    clear HU1 HAP HS1 HB1 HO1' HV HN HU HUN H8D H8B HTT hdl hbl
    obtain ⟨f, room, t, s, hf, htl, hrt, hdt, hrm, hsb, HY, HYN, HA, HO, HE, H8, HS8, HB⟩ := hrel
    obtain ⟨A1, c1, rfl⟩ := byt_form HY.out
    obtain ⟨oA1, oc1, rfl⟩ := own_form HO.out
    have hcc := byt_cap HY.out
    rcases s with _ | ⟨x, r⟩
    · have HR : Hid (decL d b M = .ok (t.drop dl)) := hid (by rw [HT.out, ← HE.out, toks_nil])
      have hbt := byt_of_own HO.out H8.out
      have HV := hid (byt_from (k := dl) hbt hdt)
      have HVN := hid (nilOk_from (k := dl) (own_nilOk HO.out))
      have hsf := run_slice_from oA1 t.length oc1 dl hdt
      have hz := HB.out.size
      have HAL := hid (HV.out.below (al1 wr (.cells #[] 5)))
      have HD8 := hid (b8_drop H8.out dl)
      clear hbt HE
      go_wp2_with (at_builtin; refine append_byt rfl (.tmp 103) (.tmp 107) rfl wr.heap.size _ 0 [] rfl (own_empty wr) (t.drop dl) _ rfl HAL.out HVN.out (by simp; omega) (by simp) ?_; intro v3 w3 hown3 hg3; have HB3 := hid (below_own (al1 wr _) (own_empty wr) hg3 (by simp) (Nat.le_refl _)); have HO3 := hid hown3; clear hown3 hg3)
      obtain ⟨a3, c3, rfl⟩ := own_form HO3.out
      go_wp2
      refine bodyPost_ret (v := .tuple #[.slice a3 (0 + (t.drop dl).length) c3, .int .i64 0]) (by simp [results, Try.results17, go_sem]) rfl ?_
      exact ⟨below_both HB.out HB3.out, .inr ⟨_, _, HR.out, rfl, byt_of_own (by have h := HO3.out; rw [List.nil_append] at h; exact h) HD8.out, own_nilOk HO3.out⟩⟩
    · obtain ⟨f, rfl⟩ : ∃ f', f = f' + 1 := ⟨f - 1, by simp at hf; omega⟩
      obtain ⟨b1, off1, rfl, hcx⟩ : ∃ b off, A1 = some ⟨b, off, none⟩ ∧ wr.cell? ⟨b, off, none⟩ = some (.int .u8 (x : Int)) := by
        obtain ⟨_, A', c', e1, h1, h2, b, off, hA, hc⟩ := HY.out
        injection e1 with e1 _ _
        obtain ⟨hA1, hlt⟩ := hA (by simp)
        rw [hA1] at e1
        exact ⟨b, off, e1, hc 0 x rfl⟩
      obtain ⟨hx8, hr8⟩ := b8_cons HS8.out
      have HR8 := hid hr8
      have hcc' : r.length + 1 ≤ c1 := hcc
      have HY1 : Hid (Byt wr (.slice (fromA (some ⟨b1, off1, none⟩) c1 1) r.length (c1 - 1)) r) := hid (byt_from (k := 1) HY.out (by simp))
      have HN1 : Hid (NilOk (.slice (fromA (some ⟨b1, off1, none⟩) c1 1) r.length (c1 - 1))) := hid (nilOk_from (n := r.length + 1) (k := 1) HYN.out)
      have HA1 : Hid (Apart (.slice (fromA (some ⟨b1, off1, none⟩) c1 1) r.length (c1 - 1)) (.slice oA1 t.length oc1)) := hid (apart_from (n := r.length + 1) (k := 1) HA.out)
      have hsf1 : ∀ W : World, (Instr.slice 22 (.slice (some ⟨b1, off1, none⟩) (r.length + 1) c1) (some (.int .i64 1)) none none).run Try.prog W = .ok (.slice (fromA (some ⟨b1, off1, none⟩) c1 1) r.length (c1 - 1)) W := run_slice_from (some ⟨b1, off1, none⟩) (r.length + 1) c1 1 (by omega)
      have hf' : r.length ≤ f := by simp at hf; omega
      have htl' : t.length + 131 * (r.length + 1) ≤ dl + 131 * bl := by simpa using htl
      have hsb' : r.length + 1 ≤ bl := by simpa using hsb
      have hcr : r.length ≤ c1 - 1 := by omega
      obtain ⟨A2, hA2⟩ : ∃ A2, fromA (some ⟨b1, off1, none⟩) c1 1 = A2 := ⟨_, rfl⟩
      obtain ⟨c2, hc2⟩ : ∃ c2, c1 - 1 = c2 := ⟨_, rfl⟩
      rw [hA2, hc2] at HY1 HN1 HA1 hsf1
      rw [hc2] at hcr
      obtain ⟨R, hR⟩ : ∃ R, r.length = R := ⟨_, rfl⟩
      have HR := hid hR
      rw [hR] at HY1 HN1 HA1 hsf1 hf' htl' hsb' hcr hcc'
      obtain ⟨L, hL⟩ : ∃ L, t.length = L := ⟨_, rfl⟩
      have HL := hid hL
      rw [hL] at HA1 HO htl' hrt hdt
      show Code.wp _ _ _ _ _
      have hRe : (x :: r).length = R + 1 := by rw [← hR]; rfl
      rw [hRe, hL]
      clear hf htl hsb hcc HY HYN HA HS8 hr8 hA2 hc2 hR hL hRe
      by_cases hx0 : x = 0
      · have HD : Hid (decL d b M = .error 3) := hid (by rw [HT.out, ← HE.out, toks_err (by rw [tok_cons, if_pos hx0])])
        have e1 : ((x : Int) == 0) = true := by simp; omega
        clear hx0 HE HT
        go_wp2
        refine bodyPost_ret (v := .tuple #[.slice none 0 0, .int .i64 3]) (by simp [results, Try.results17, go_sem]) rfl ?_
        exact ⟨HB.out, .inl ⟨3, HD.out, by decide, rfl⟩⟩
      have e1 : ((x : Int) == 0) = false := by rw [beq_eq_false_iff_ne]; omega
      by_cases hx1 : x < 128
      · have e2 : decide ((x : Int) < 128) = true := by simp; omega
        have HTK := hid (show tok t room (x :: r) = lit x t room r by rw [tok_cons, if_neg hx0, if_pos hx1])
        by_cases h1 : R < x
        · have HD : Hid (decL d b M = .error 10) := hid (by rw [HT.out, ← HE.out, toks_err (by rw [HTK.out]; exact if_pos (by rw [HR.out]; exact h1))])
          clear hx0 hx1 HE HT
          go_wp2
          refine bodyPost_ret (v := .tuple #[.slice none 0 0, .int .i64 10]) (by simp [results, Try.results17, go_sem]) rfl ?_
          exact ⟨HB.out, .inl ⟨10, HD.out, by decide, rfl⟩⟩
        by_cases h2 : room < x
        · have HD : Hid (decL d b M = .error 5) := hid (by rw [HT.out, ← HE.out, toks_err (by rw [HTK.out, lit, if_neg (by rw [HR.out]; exact h1), if_pos h2])])
          have e3 : decide ((M : Int) < (L : Int) - (dl : Int) + (x : Int)) = true := by simp; omega
          clear hx0 hx1 HE HT
          go_wp2
          refine bodyPost_ret (v := .tuple #[.slice none 0 0, .int .i64 5]) (by simp [results, Try.results17, go_sem]) rfl ?_
          exact ⟨HB.out, .inl ⟨5, HD.out, by decide, rfl⟩⟩
        have e3 : decide ((M : Int) < (L : Int) - (dl : Int) + (x : Int)) = false := by simp; omega
        have HE2 : Hid (toks f (t ++ r.take x) (room - x) (r.drop x) = T) := hid (by rw [← HE.out, toks_ok (by rw [HTK.out, lit, if_neg (by rw [HR.out]; exact h1), if_neg h2])])
        have HY2 := hid (byt_from (A := A2) (cap := c2) (x := r) (k := x) (by rw [HR.out]; exact HY1.out) (by rw [HR.out]; omega))
        have HN2 := hid (nilOk_from (k := x) HN1.out)
        have HA2 := hid (apart_from (k := x) HA1.out)
        have hst := run_slice_to' A2 R c2 x (by omega) hcr
        have hsf := run_slice_from A2 R c2 x (by omega)
        have HSC := hid (byt_cut (A := A2) (cap := c2) (x := r) (k := x) (by rw [HR.out]; exact HY1.out) (by rw [HR.out]; omega))
        have HSN : Hid (NilOk (.slice A2 x c2)) := hid (fun a b e => by
          injection e with e1 _ e3
          subst e1
          rw [← e3]
          exact HN1.out _ _ rfl)
        have htk : (r.take x).length = x := by rw [List.length_take, HR.out]; omega
        have HTKL := hid htk
        have hz := HB.out.size
        rw [HR.out] at HY2
        clear hx0 hx1 htk HE HT HTK
        go_wp2_with (at_builtin; refine append_byt_at rfl (.tmp 46) (.tmp 49) rfl w.heap.size (.slice oA1 L oc1) L _ rfl HO.out (r.take x) _ rfl HSC.out HSN.out (by rw [HTKL.out]; omega) (by omega) ?_; intro v3 w3 ho3 hg3 hat3; have HA3 := hid (apart_at HY2.out HA2.out hat3); have HY3 := hid (byt_grown HY2.out hg3 HA2.out); have HB3 := hid (HB.out.grown hg3 hz (fun q e => (HO.out.lt q e).1)); rw [HTKL.out] at ho3; obtain ⟨oA3, oc3, rfl⟩ := own_form ho3; have HO3 := hid ho3; clear ho3 hg3 hat3)
        have hlen : (t ++ r.take x).length = L + x := by rw [List.length_append, HTKL.out, HL.out]
        have HLN := hid hlen
        have hdr : (r.drop x).length = R - x := by rw [List.length_drop, HR.out]
        have HO4 : Hid (w3.ownsRow w.heap.size 5 1 (.slice oA3 (L + x) oc3) (t ++ r.take x).length ((t ++ r.take x).map byteV)) := hid (by rw [HLN.out, List.map_append]; exact HO3.out)
        have H84 := hid (B8.append H8.out (b8_take HR8.out x))
        have H85 := hid (b8_drop HR8.out x)
        have HDR := hid hdr
        clear hlen hdr hst hsf hsf1
        go_roundw
        case rel => exact ⟨f, room - x, t ++ r.take x, r.drop x, by rw [HDR.out]; omega, by rw [HDR.out, HLN.out]; omega, by rw [HLN.out]; omega, by rw [HLN.out]; omega, by omega, by rw [HDR.out]; omega, HY3, HN2, HA3, HO4, HE2, H84, H85, HB3⟩
        case measure => simp [lenOf]; omega
      · have e2 : decide ((x : Int) < 128) = false := by simp; omega
        have HTK := hid (show tok t room (x :: r) = matR (x - 124) t room r by rw [tok_cons, if_neg hx0, if_neg hx1, matR_eq _ _ _ _ HR8.out])
        have HI := hid (rint_own r _ wr HY1.out HN1.out (by rw [HR.out]; omega))
        obtain ⟨n, hnn⟩ : ∃ n, x - 124 = n := ⟨_, rfl⟩
        have hne : (x : Int) - 128 + 4 = (n : Int) := by omega
        rw [hnn] at HTK
        have hn8 : n ≤ 131 := by omega
        have HNE := hid hne
        have hz := HB.out.size
        clear hx0 hx1 hnn hne
        go_wp2_with fail
        refine HI.out.mono ?_
        rintro e w3 ⟨v3, r3, er, rfl, hb3, hcase⟩
        have HB3 := hid (HB.out.trans (hb3.mono hz))
        have HO3 := hid (own_keep HO.out (keep_below hb3))
        rcases hcase with ⟨dd, bh, hd3, rfl, rfl, h83, ho3⟩ | ⟨hd3, hne, rfl, rfl⟩
        · have HA3 := hid (apart_new ho3 HO.out (Nat.le_refl _))
          have hsh := shr_num _ _ _ hd3
          rw [HR.out] at hsh
          obtain ⟨aR, cR, rfl⟩ := own_form ho3
          have HY3 := hid (byt_of_own ho3 h83)
          have HYN3 := hid (own_nilOk ho3)
          have HH8 := hid h83
          have HM := hid (show matR n t room r = if dd = 0 ∨ 4096 < dd ∨ t.length < dd then .error 3 else if room < n then .error 5 else .ok (cp dd t n, room - n, bh) by unfold matR; rw [hd3])
          obtain ⟨bhl, hbhl⟩ : ∃ bhl, bh.length = bhl := ⟨_, rfl⟩
          have HBHL := hid hbhl
          rw [hbhl] at HA3 HY3 HYN3 hsh
          rw [hbhl]
          clear hd3 h83 ho3 hb3 hbhl HO HB HY1 HN1 HA1 HI
          rw [HL.out] at HM
          by_cases hd0 : dd = 0
          · have d0 : ((dd : Int) == 0) = true := by simp; omega
            have HD : Hid (decL d b M = .error 3) := hid (by rw [HT.out, ← HE.out, toks_err (by rw [HTK.out, HM.out, if_pos (.inl hd0)])])
            clear hd0 HE HT HM
            go_wp2
            refine bodyPost_ret (v := .tuple #[.slice none 0 0, .int .i64 3]) (by simp [results, Try.results17, go_sem]) rfl ?_
            exact ⟨HB3.out, .inl ⟨3, HD.out, by decide, rfl⟩⟩
          have d0 : ((dd : Int) == 0) = false := by rw [beq_eq_false_iff_ne]; omega
          by_cases hd4 : 4096 < dd
          · have d4 : decide ((4096 : Int) < (dd : Int)) = true := by simp; omega
            have HD : Hid (decL d b M = .error 3) := hid (by rw [HT.out, ← HE.out, toks_err (by rw [HTK.out, HM.out, if_pos (.inr (.inl hd4))])])
            clear hd4 HE HT HM
            go_wp2
            refine bodyPost_ret (v := .tuple #[.slice none 0 0, .int .i64 3]) (by simp [results, Try.results17, go_sem]) rfl ?_
            exact ⟨HB3.out, .inl ⟨3, HD.out, by decide, rfl⟩⟩
          have d4 : decide ((4096 : Int) < (dd : Int)) = false := by simp; omega
          by_cases hd5 : L < dd
          · have HD : Hid (decL d b M = .error 3) := hid (by rw [HT.out, ← HE.out, toks_err (by rw [HTK.out, HM.out, if_pos (.inr (.inr hd5))])])
            clear HE HT HM
            go_wp2
            refine bodyPost_ret (v := .tuple #[.slice none 0 0, .int .i64 3]) (by simp [results, Try.results17, go_sem]) rfl ?_
            exact ⟨HB3.out, .inl ⟨3, HD.out, by decide, rfl⟩⟩
          by_cases h2 : room < n
          · have HD : Hid (decL d b M = .error 5) := hid (by rw [HT.out, ← HE.out, toks_err (by rw [HTK.out, HM.out, if_neg (by omega), if_pos h2])])
            have e3 : decide ((M : Int) < (L : Int) - (dl : Int) + ((x : Int) - 128 + 4)) = true := by rw [HNE.out]; simp; omega
            clear HE HT HM
            go_wp2
            refine bodyPost_ret (v := .tuple #[.slice none 0 0, .int .i64 5]) (by simp [results, Try.results17, go_sem]) rfl ?_
            exact ⟨HB3.out, .inl ⟨5, HD.out, by decide, rfl⟩⟩
          have e3 : decide ((M : Int) < (L : Int) - (dl : Int) + ((x : Int) - 128 + 4)) = false := by rw [HNE.out]; simp; omega
          have HE2 : Hid (toks f (cp dd t n) (room - n) bh = T) := hid (by rw [← HE.out, toks_ok (by rw [HTK.out, HM.out, if_neg (by omega), if_neg h2])])
          have HO30 : Hid (w3.ownsRow w.heap.size 5 1 (.slice oA1 L oc1) (L + 0) ((cp dd t 0).map byteV)) := hid HO3.out
          clear HE HT HM HTK HO3
          go_wp2_with fail
          rw [HNE.out]
          go_loopw [8, 14] (fun o i wr => ∃ (k : Nat), k ≤ n ∧ i = .int .i64 (k : Int) ∧ Hid (wr.ownsRow w.heap.size 5 1 o (L + k) ((cp dd t k).map byteV)) ∧ Hid (Byt wr (.slice aR bhl cR) bh) ∧ Hid (Apart (.slice aR bhl cR) o) ∧ Hid (Below w.heap.size w wr)) (fun _ i _ => n - (Go.RowKit.intOf i).toNat)
          case atStart => exact ⟨0, Nat.zero_le _, rfl, HO30, HY3, HA3, HB3⟩
          case round =>
            obtain ⟨wo, hwo⟩ : ∃ wo : World, wo = wr := ⟨_, rfl⟩
            clear HO30 HY3 HA3 HB3
            obtain ⟨k, hk, rfl, HO, HY, HA, HB⟩ := hrel
            obtain ⟨oA3, oc3, rfl⟩ := own_form HO.out
            have hz := HB.out.size
            by_cases hkn : k < n
            · have hkc : (k : Int) < (n : Int) := by omega
              obtain ⟨D, hD⟩ : ∃ D, L + k = D + dd := ⟨L + k - dd, by omega⟩
              obtain ⟨z, hzz⟩ : ∃ z, (cp dd t k).getD D 0 = z := ⟨_, rfl⟩
              have hlen : (cp dd t k).length = D + dd := by rw [cp_len, HL.out, hD]
              have hz8 : z < 256 := by rw [← hzz]; exact getD_b8 (cp_b8 dd H8.out k) D
              obtain ⟨ob, rfl⟩ : ∃ ob, oA3 = some ⟨ob, 0, none⟩ := by
                rcases HO.out.2 with ⟨_, e⟩ | ⟨ob, _, _, e, _⟩
                · omega
                · injection e with e1
                  exact ⟨ob, e1⟩
              have hcell : wr.cell? ⟨ob, D, none⟩ = some (.int .u8 (z : Int)) := by
                have h := HO.out.cells (g := ob) rfl D (byteV z) (by
                  rw [List.getElem?_map, List.getElem?_eq_getElem (by omega), ← hzz, List.getD_eq_getElem?_getD, List.getElem?_eq_getElem (by omega)]
                  rfl)
                rwa [add_at'] at h
              have HNX : Hid (cp dd t (k + 1) = cp dd t k ++ [z]) := hid (by rw [cp, hlen, Nat.add_sub_cancel, hzz])
              rw [hD] at HO HA
              have hw64 : IntKind.i64.wrap (D : Int) = (D : Int) := by rw [IntKind.wrap_i64]; omega
              have hin : 0 ≤ (D : Int) ∧ (D : Int) < (D : Int) + (dd : Int) := by omega
              have hdd0 : 0 < dd := by omega
              have hDl : D + dd + 1 ≤ 1000000000 := by omega
              have HD := hid hD
              have HOA := hid (own_keep HO.out (keep_below (al1 wr (.cells #[.int .u8 (z : Int)] 5))))
              have HYA := hid (HY.out.below (al1 wr (.cells #[.int .u8 (z : Int)] 5)))
              have HBA := hid (HB.out.alloc hz (.cells #[.int .u8 (z : Int)] 5))
              have HZ1 := hid (byt_one wr z hz8)
              rw [hD]
              clear hzz hlen HO HY HB
              clear hD
              go_wp2_with (at_builtin; refine append_byt_at rfl (.tmp 92) (.tmp 100) rfl w.heap.size (.slice (some ⟨ob, 0, none⟩) (D + dd) oc3) (D + dd) _ rfl HOA.out [z] _ rfl HZ1.out (nilOk_some _ _ _) (by simp; omega) (by simp; omega) ?_; intro v4 w4 ho4 hg4 hat4; have HA4 := hid (apart_at HYA.out HA.out hat4); have HY4 := hid (byt_grown HYA.out hg4 HA.out); have HB4 := hid (HBA.out.grown hg4 (by simp; omega) (fun q e => (HOA.out.lt q e).1)); obtain ⟨oA4, oc4, rfl⟩ := own_form ho4; have HO4 := hid ho4; clear ho4 hg4 hat4)
              have hL1 : L + (k + 1) = D + dd + 1 := by have := HD.out; omega
              have HO5 : Hid (w4.ownsRow w.heap.size 5 1 (.slice oA4 (D + dd + [z].length) oc4) (L + (k + 1)) ((cp dd t (k + 1)).map byteV)) := hid (by rw [hL1, HNX.out, List.map_append]; exact HO4.out)
              clear hL1 HO4
              go_wp2
              go_roundw
              case rel => exact ⟨k + 1, by omega, by go_num, HO5, HY4, HA4, HB4⟩
              case measure => simp [Go.RowKit.intOf]; omega
            · obtain rfl : k = n := by omega
              have hlen : (cp dd t k).length = L + k := by rw [cp_len, HL.out]
              have HLN := hid hlen
              have HO4 : Hid (wr.ownsRow w.heap.size 5 1 (.slice oA3 (L + k) oc3) (cp dd t k).length ((cp dd t k).map byteV)) := hid (by rw [hlen]; exact HO.out)
              have H84 := hid (cp_b8 dd H8.out k)
              clear hlen
              go_wp2
              go_roundw
              case rel => exact ⟨f, room - k, cp dd t k, bh, by rw [HBHL.out]; omega, by rw [HBHL.out, HLN.out]; omega, by rw [HLN.out]; omega, by rw [HLN.out]; omega, by omega, by rw [HBHL.out]; omega, HY, HYN3, HA, HO4, HE2, H84, HH8, HB⟩
              case measure => simp [lenOf]; omega
        · have HD : Hid (decL d b M = .error er) := hid (by rw [HT.out, ← HE.out, toks_err (by rw [HTK.out, matR, hd3])])
          have H0 := hid hne
          have d2 : (er != 0) = true := by simpa using hne
          clear HE HT HTK hd3 hne hb3
          go_wp2
          refine bodyPost_ret (v := .tuple #[.slice none 0 0, .int .i64 er]) (by simp [results, Try.results17, go_sem]) rfl ?_
          exact ⟨HB3.out, .inl ⟨er, HD.out, H0.out, rfl⟩⟩
end Go.Proofs.Ytldlddoealpomaa
