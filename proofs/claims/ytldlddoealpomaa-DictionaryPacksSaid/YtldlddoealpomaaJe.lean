/- The reference's Raw, Pack. -/
import Derived.Test.YtldlddoealpomaaJc
import Derived.Test.YtldlddoealpomaaGj
namespace Go.Proofs.Ytldlddoealpomaa
open Go.RowKit Go.Lib
open Rl (Sect Sec Secs Sc sec_form sec_at list8 cSec byt_cells flat_len)

theorem sc_byt {w : World} {b o : Nat} {s : List Nat} (hs : Sc w b o s) (hb : b < w.heap.size) (h8 : B8 s) (hl : s.length = 8) : Byt w (.slice (some ⟨b, o, none⟩) 8 8) s :=
  ⟨h8, some ⟨b, o, none⟩, 8, by rw [hl], by omega, by unfold maxLen; omega, b, o, fun _ => ⟨rfl, hb⟩, fun i x hx => hs i _ (by unfold cSec; rw [List.getElem?_map, hx]; rfl)⟩
set_option maxHeartbeats 4000000 in
set_option maxRecDepth 100000 in
theorem raw_any (l : List Sect) (v : Value) (w : World) (hv : Sec w v l) (hl : l.length ≤ 100000) :
    Calls Try.prog 35 #[v] w (MadeO w l.flatten) := by
  obtain ⟨A, cap, rfl⟩ := sec_form hv
  have HV := hid hv
  obtain ⟨n, hn⟩ : ∃ n, l.length = n := ⟨_, rfl⟩
  have HN := hid hn
  rw [hn] at HV hl ⊢
  clear hv hn
  go_enter Try.func35, Try.ntmps35
  go_wp2_with fail
  go_loopw [3, 4] (fun u j wr => ∃ k : Nat, k ≤ n ∧ j = .int .i64 (k : Int) ∧ Hid (wr.ownsRow w.heap.size 5 1 u (8 * k) ((l.take k).flatten.map byteV)) ∧ Hid (Below w.heap.size w wr)) (fun _ j _ => n - (Go.RowKit.intOf j).toNat)
  case atStart => exact ⟨0, Nat.zero_le _, rfl, hid (World.ownsRow_nil _ _ _ _), hid (Below.refl _ _)⟩
  case round =>
    obtain ⟨k, hk, rfl, HO, HB⟩ := hrel
    by_cases hkn : k < n
    · have hne : l ≠ [] := fun e => by have := HN.out; rw [e] at this; simp at this; omega
      obtain ⟨b, off, cap', e, hcc, hcm, hbl, hsc⟩ := sec_at HV.out hne
      injection e with e1 e2 e3
      subst e1 e3
      obtain ⟨s, hs⟩ : ∃ s, l[k]? = some s := ⟨l[k]'(by rw [HN.out]; exact hkn), List.getElem?_eq_getElem _⟩
      have hso := HV.out.1 s (List.mem_of_getElem? hs)
      have s1 := (hsc k s hs).below hbl HB.out
      have HTK : Hid ((l.take (k + 1)).flatten = (l.take k).flatten ++ s) := hid (by
        obtain ⟨hlt, rfl⟩ := List.getElem?_eq_some_iff.1 hs
        rw [List.take_succ_eq_append_getElem hlt, List.flatten_append]
        simp)
      have HD := hid (sc_byt s1 (Nat.lt_of_lt_of_le hbl HB.out.size) hso.2 hso.1)
      have HS8 := hid hso.1
      have hs7 := HB.out.size
      have hkc : (k : Int) < (n : Int) := by omega
      clear hsc hs e2 hne s1 hso
      go_wp2_with (at_builtin; refine append_byt rfl (.tmp 11) (.tmp 15) rfl w.heap.size _ (8 * k) _ rfl HO.out s _ rfl HD.out (nilOk_some _ _ _) (by rw [HS8.out]; omega) hs7 ?_; intro v3 w3 ho3 hg3; have HB3 := hid (below_own HB.out HO.out hg3 hs7 (Nat.le_refl _)); have HO3 := hid ho3; clear ho3 hg3)
      go_roundw
      case rel => exact ⟨k + 1, by omega, by go_num, hid (by have h := HO3.out; rw [HS8.out] at h; rw [HTK.out, List.map_append]; exact h), HB3⟩
      case measure => simp [Go.RowKit.intOf]; omega
    · obtain rfl : k = n := by omega
      go_wp2_with fail
      go_ret
      refine ⟨_, rfl, ?_, HB.out⟩
      have h := HO.out
      rw [List.take_of_length_le (by rw [HN.out]; omega)] at h
      have e : l.flatten.length = 8 * k := by rw [flat_len HV.out.1, HN.out]
      rw [e]; exact h
end Go.Proofs.Ytldlddoealpomaa
namespace Go.Proofs.Ytldlddoealpomaa
open Go.RowKit Go.Lib
open Rl (Sect Sec Secs sec_form flat_len rl)

theorem own_one (w : World) (z : Nat) : (w.alloc (.cells #[.int .u8 (z : Int)] 5)).ownsRow w.heap.size 5 1 (.slice (some ⟨w.heap.size, 0, none⟩) 1 1) 1 [byteV z] :=
  ⟨rfl, .inr ⟨_, 1, _, rfl, Nat.le_refl _, heap_alloc_new _ _, Nat.le_refl _, by unfold maxLen; omega, rfl, rfl⟩⟩
set_option maxHeartbeats 8000000 in
set_option maxRecDepth 100000 in
theorem refPack_any (d : List Nat) (l : List Sect) (v u : Value) (w : World) (hv : Byt w v d) (hn : NilOk v) (hu : Sec w u l) (hd : d.length ≤ 800000000) (hl : l.length ≤ 5000) :
    Calls Try.prog 19 #[v, u] w (MadeO w (packL d l)) := by
  obtain ⟨A, c, rfl⟩ := byt_form hv
  obtain ⟨B, c', rfl⟩ := sec_form hu
  have HV := hid hv
  have HVN := hid hn
  have HU := hid hu
  have hfl : l.flatten.length ≤ 800000 := by rw [flat_len hu.1]; omega
  have HB8 := hid (flat_b8 hu.1)
  have HR8 : Hid (B8 (rl l)) := hid (Rl.b8_rl _ l (Nat.le_refl _) hu.1)
  have HX8 : Hid (B8 (encL d l.flatten)) := hid (encL_b8 hv.1 HB8.out)
  have hel := encL_len d l.flatten
  have hrl : (rl l).length ≤ 900000 := by have := (Rl.rl_len _ l (Nat.le_refl _) hu.1).1; omega
  obtain ⟨b, hb⟩ : ∃ b, l.flatten = b := ⟨_, rfl⟩
  have HBF := hid hb
  obtain ⟨r, hr⟩ : ∃ r, rl l = r := ⟨_, rfl⟩
  have HRL := hid hr
  obtain ⟨x, hx⟩ : ∃ x, encL d l.flatten = x := ⟨_, rfl⟩
  have HX := hid hx
  obtain ⟨TOT, hT⟩ : ∃ T, packL d l = T := ⟨_, rfl⟩
  have HTOT := hid hT
  unfold packL at HTOT
  rw [hx, hr, hb] at HTOT
  rw [hT]
  rw [hx] at HX8 hel
  rw [hb] at HX hfl HB8 hel
  rw [hr] at HR8 hrl
  obtain ⟨nd, hnd⟩ : ∃ nd, d.length = nd := ⟨_, rfl⟩
  have HND := hid hnd
  rw [hnd] at hd HV HVN ⊢
  obtain ⟨nl, hnl⟩ : ∃ nl, l.length = nl := ⟨_, rfl⟩
  have HNL := hid hnl
  rw [hnl] at hl HU ⊢
  have hal := al1 w (.cells #[.int .u8 0] 5)
  have HAL := hid hal
  have HO1 := hid (own_one w 0)
  have HR1 := hid (raw_any l _ (w.alloc (.cells #[.int .u8 0] 5)) (HU.out.below hal) (by rw [HNL.out]; omega))
  rw [HBF.out] at HR1
  obtain ⟨W1, hW1⟩ : ∃ W, w.alloc (.cells #[.int .u8 0] 5) = W := ⟨_, rfl⟩
  have HO1 : Hid (W1.ownsRow w.heap.size 5 1 (.slice (some ⟨w.heap.size, 0, none⟩) 1 1) 1 [byteV 0]) := hid (by rw [← hW1]; exact HO1.out)
  rw [hW1] at HAL HR1
  have HW1 := hid hW1
  clear hv hn hu hb hr hx hT hnd hnl hal hW1
  go_enter Try.func19, Try.ntmps19
  go_wp2_with fail
  rw [HW1.out]
  refine HR1.out.mono ?_
  rintro e w2 ⟨v2, rfl, ho2, hb2⟩
  have HB2 := hid (HAL.out.trans (hb2.mono HAL.out.size))
  have HV2 := hid (byt_of_own ho2 HB8.out)
  have HN2 := hid (own_nilOk ho2)
  have HO2 := hid (own_later HO1.out hb2)
  have hs2 := HB2.out.size
  clear ho2 hb2 HR1 HO1
  go_wp2_with (at_builtin; refine append_byt rfl (.tmp 8) (.tmp 10) rfl w.heap.size (.slice (some ⟨w.heap.size, 0, none⟩) 1 1) 1 _ rfl HO2.out b _ rfl HV2.out HN2.out (by omega) hs2 ?_; intro v3 w3 ho3 hg3; have HB3 := hid (below_own HB2.out HO2.out hg3 hs2 (Nat.le_refl _)); have HO3a := hid ho3; clear ho3 hg3)
  have ho3 : w3.ownsRow w.heap.size 5 1 v3 (0 :: b).length ((0 :: b).map byteV) := by
    have h := HO3a.out
    rw [Nat.add_comm] at h
    exact h
  have HE1 := hid (Rl.refEncode_any l _ w3 (HU.out.below HB3.out) (by rw [HNL.out]; exact hl))
  rw [HRL.out] at HE1
  obtain ⟨Q, hQ⟩ : ∃ Q, (0 :: b).length = Q := ⟨_, rfl⟩
  have HQ := hid hQ
  rw [hQ] at ho3
  have HO3 := hid ho3
  obtain ⟨A3, c3, rfl⟩ := own_form ho3
  clear ho3 HO3a hQ HV2 HN2 HO2 HB2
  refine HE1.out.mono ?_
  rintro e w4 ⟨v4, rfl, ho4, hb4⟩
  have HB4 := hid (HB3.out.trans (hb4.mono HB3.out.size))
  have HV4 := hid (byt_of_own ho4 HR8.out)
  have HN4 := hid (own_nilOk ho4)
  have HO4 := hid (own_later HO3.out hb4)
  obtain ⟨A4, c4, rfl⟩ := own_form ho4
  obtain ⟨R, hRl⟩ : ∃ R, r.length = R := ⟨_, rfl⟩
  have HRLN := hid hRl
  rw [hRl] at HV4 HN4 hrl ⊢
  have hw1 : IntKind.i64.wrap ((R : Int) + 1) = ((R + 1 : Nat) : Int) := by rw [IntKind.wrap_i64]; omega
  have hs4 := HB4.out.size
  clear ho4 hb4 HE1 HO3 HB3 hRl
  by_cases hlt1 : R + 1 < Q
  · have dd1 : ((R + 1 : Nat) : Int) < (Q : Int) := by omega
    have hpk1 : pk2 (0 :: b) (1 :: r) = 1 :: r := if_pos (by rw [HQ.out, List.length_cons, HRLN.out]; exact hlt1)
    have HPK1 := hid hpk1
    have hal5 := al1 w4 (.cells #[.int .u8 1] 5)
    have HB5 := hid (HB4.out.trans (hal5.mono HB4.out.size))
    have HO5 := hid (own_one w4 1)
    have HV5 := hid (HV4.out.below hal5)
    have hs5 := hal5.size
    obtain ⟨W5, hW5⟩ : ∃ W, w4.alloc (.cells #[.int .u8 1] 5) = W := ⟨_, rfl⟩
    have HO5 : Hid (W5.ownsRow w4.heap.size 5 1 (.slice (some ⟨w4.heap.size, 0, none⟩) 1 1) 1 [byteV 1]) := hid (by rw [← hW5]; exact HO5.out)
    rw [hW5] at HB5 HV5 hs5
    have HW5 := hid hW5
    clear hal5 hW5 hpk1 HO4
    go_wp2_with (at_builtin; rw [HW5.out]; refine append_byt rfl (.tmp 20) (.tmp 21) rfl w4.heap.size (.slice (some ⟨w4.heap.size, 0, none⟩) 1 1) 1 _ rfl HO5.out r _ rfl HV5.out HN4.out (by rw [HRLN.out]; omega) hs5 ?_; intro vx wx hox hgx; have HBX := hid (below_own HB5.out HO5.out hgx (by omega) (by omega)); have HOXa := hid hox; clear hox hgx)
    have hox : wx.ownsRow w.heap.size 5 1 vx (1 :: r).length ((1 :: r).map byteV) := by
      have h := HOXa.out
      rw [Nat.add_comm] at h
      exact own_down h (by omega)
    clear HQ HOXa HV5 HB5 HW5 HO5
    obtain ⟨Q2, hQ⟩ : ∃ Q2, (1 :: r).length = Q2 := ⟨_, rfl⟩
    have HQ := hid hQ
    rw [hQ] at hox
    have HOX := hid hox
    clear hox hQ
    obtain ⟨AX, cX, rfl⟩ := own_form HOX.out
    have HR := hid (raw_any l _ wx (HU.out.below HBX.out) (by rw [HNL.out]; omega))
    rw [HBF.out] at HR
    go_wp2_with fail
    refine HR.out.mono ?_
    rintro e wy ⟨vy, rfl, hoy, hby⟩
    have HBY := hid (HBX.out.trans (hby.mono HBX.out.size))
    have HVY := hid (byt_of_own hoy HB8.out)
    have HNY := hid (own_nilOk hoy)
    have HOY := hid (own_later HOX.out hby)
    have HE := hid (refEncode_said d b _ vy wy (HV.out.below HBY.out) HVN.out HVY.out HNY.out (by rw [HND.out]; omega) (by omega))
    rw [HX.out] at HE
    clear hoy hby HR HOX
    go_wp2_with fail
    refine HE.out.mono ?_
    rintro e wz ⟨vz, rfl, hoz, hbz⟩
    have HBZ := hid (HBY.out.trans (hbz.mono HBY.out.size))
    have HVZ := hid (byt_of_own hoz HX8.out)
    have HNZ := hid (own_nilOk hoz)
    have HOZ := hid (own_later HOY.out hbz)
    obtain ⟨AZ, cZ, rfl⟩ := own_form hoz
    obtain ⟨X, hXl⟩ : ∃ X, x.length = X := ⟨_, rfl⟩
    have HXL := hid hXl
    rw [hXl] at HVZ HNZ ⊢
    have hX2 : X ≤ 12 * b.length := by rw [← hXl]; exact hel
    have hw2 : IntKind.i64.wrap ((X : Int) + 1) = ((X + 1 : Nat) : Int) := by rw [IntKind.wrap_i64]; omega
    have hsz := HBZ.out.size
    clear hoz hbz HE HOY HVY HNY HBY hXl
    by_cases hlt2 : X + 1 < Q2
    · have dd2 : ((X + 1 : Nat) : Int) < (Q2 : Int) := by omega
      have hpk : pk2 (1 :: r) (2 :: x) = 2 :: x := if_pos (by rw [HQ.out, List.length_cons, HXL.out]; exact hlt2)
      have HPK := hid hpk
      have hala := al1 wz (.cells #[.int .u8 2] 5)
      have HBA := hid (HBZ.out.trans (hala.mono HBZ.out.size))
      have HOA := hid (own_one wz 2)
      have HVA := hid (HVZ.out.below hala)
      have hsa := hala.size
      obtain ⟨WA, hWA⟩ : ∃ W, wz.alloc (.cells #[.int .u8 2] 5) = W := ⟨_, rfl⟩
      have HOA : Hid (WA.ownsRow wz.heap.size 5 1 (.slice (some ⟨wz.heap.size, 0, none⟩) 1 1) 1 [byteV 2]) := hid (by rw [← hWA]; exact HOA.out)
      rw [hWA] at HBA HVA hsa
      have HWA := hid hWA
      clear hala hWA hpk
      go_wp2_with (at_builtin; rw [HWA.out]; refine append_byt rfl (.tmp 33) (.tmp 34) rfl wz.heap.size (.slice (some ⟨wz.heap.size, 0, none⟩) 1 1) 1 _ rfl HOA.out x _ rfl HVA.out HNZ.out (by rw [HXL.out]; omega) hsa ?_; intro v3 w3 ho3 hg3; have HB3 := hid (below_own HBA.out HOA.out hg3 (by omega) (by omega)); have HO3 := hid ho3; clear ho3 hg3)
      go_ret
      refine ⟨_, rfl, ?_, HB3.out⟩
      rw [← HTOT.out, HPK1.out, HPK.out]
      have h := HO3.out
      rw [Nat.add_comm] at h
      exact own_down h (by omega)
    · have dd2 : ¬ ((X + 1 : Nat) : Int) < (Q2 : Int) := by omega
      have hpk : pk2 (1 :: r) (2 :: x) = 1 :: r := if_neg (by rw [HQ.out, List.length_cons, HXL.out]; exact hlt2)
      have HPK := hid hpk
      clear hpk
      go_wp2_with fail
      go_ret
      refine ⟨_, rfl, ?_, HBZ.out⟩
      rw [← HTOT.out, HPK1.out, HPK.out, HQ.out]
      exact HOZ.out
  · have dd1 : ¬ ((R + 1 : Nat) : Int) < (Q : Int) := by omega
    have hpk1 : pk2 (0 :: b) (1 :: r) = 0 :: b := if_neg (by rw [HQ.out, List.length_cons, HRLN.out]; exact hlt1)
    have HPK1 := hid hpk1
    have HOX := HO4
    have HBX := HB4
    obtain ⟨wx, rfl⟩ : ∃ wx, wx = w4 := ⟨_, rfl⟩
    clear hpk1 HO4 HB4
    have HR := hid (raw_any l _ wx (HU.out.below HBX.out) (by rw [HNL.out]; omega))
    rw [HBF.out] at HR
    go_wp2_with fail
    refine HR.out.mono ?_
    rintro e wy ⟨vy, rfl, hoy, hby⟩
    have HBY := hid (HBX.out.trans (hby.mono HBX.out.size))
    have HVY := hid (byt_of_own hoy HB8.out)
    have HNY := hid (own_nilOk hoy)
    have HOY := hid (own_later HOX.out hby)
    have HE := hid (refEncode_said d b _ vy wy (HV.out.below HBY.out) HVN.out HVY.out HNY.out (by rw [HND.out]; omega) (by omega))
    rw [HX.out] at HE
    clear hoy hby HR HOX
    go_wp2_with fail
    refine HE.out.mono ?_
    rintro e wz ⟨vz, rfl, hoz, hbz⟩
    have HBZ := hid (HBY.out.trans (hbz.mono HBY.out.size))
    have HVZ := hid (byt_of_own hoz HX8.out)
    have HNZ := hid (own_nilOk hoz)
    have HOZ := hid (own_later HOY.out hbz)
    obtain ⟨AZ, cZ, rfl⟩ := own_form hoz
    obtain ⟨X, hXl⟩ : ∃ X, x.length = X := ⟨_, rfl⟩
    have HXL := hid hXl
    rw [hXl] at HVZ HNZ ⊢
    have hX2 : X ≤ 12 * b.length := by rw [← hXl]; exact hel
    have hw2 : IntKind.i64.wrap ((X : Int) + 1) = ((X + 1 : Nat) : Int) := by rw [IntKind.wrap_i64]; omega
    have hsz := HBZ.out.size
    clear hoz hbz HE HOY HVY HNY HBY hXl
    by_cases hlt2 : X + 1 < Q
    · have dd2 : ((X + 1 : Nat) : Int) < (Q : Int) := by omega
      have hpk : pk2 (0 :: b) (2 :: x) = 2 :: x := if_pos (by rw [HQ.out, List.length_cons, HXL.out]; exact hlt2)
      have HPK := hid hpk
      have hala := al1 wz (.cells #[.int .u8 2] 5)
      have HBA := hid (HBZ.out.trans (hala.mono HBZ.out.size))
      have HOA := hid (own_one wz 2)
      have HVA := hid (HVZ.out.below hala)
      have hsa := hala.size
      obtain ⟨WA, hWA⟩ : ∃ W, wz.alloc (.cells #[.int .u8 2] 5) = W := ⟨_, rfl⟩
      have HOA : Hid (WA.ownsRow wz.heap.size 5 1 (.slice (some ⟨wz.heap.size, 0, none⟩) 1 1) 1 [byteV 2]) := hid (by rw [← hWA]; exact HOA.out)
      rw [hWA] at HBA HVA hsa
      have HWA := hid hWA
      clear hala hWA hpk
      go_wp2_with (at_builtin; rw [HWA.out]; refine append_byt rfl (.tmp 33) (.tmp 34) rfl wz.heap.size (.slice (some ⟨wz.heap.size, 0, none⟩) 1 1) 1 _ rfl HOA.out x _ rfl HVA.out HNZ.out (by rw [HXL.out]; omega) hsa ?_; intro v3 w3 ho3 hg3; have HB3 := hid (below_own HBA.out HOA.out hg3 (by omega) (by omega)); have HO3 := hid ho3; clear ho3 hg3)
      go_ret
      refine ⟨_, rfl, ?_, HB3.out⟩
      rw [← HTOT.out, HPK1.out, HPK.out]
      have h := HO3.out
      rw [Nat.add_comm] at h
      exact own_down h (by omega)
    · have dd2 : ¬ ((X + 1 : Nat) : Int) < (Q : Int) := by omega
      have hpk : pk2 (0 :: b) (2 :: x) = 0 :: b := if_neg (by rw [HQ.out, List.length_cons, HXL.out]; exact hlt2)
      have HPK := hid hpk
      clear hpk
      go_wp2_with fail
      go_ret
      refine ⟨_, rfl, ?_, HBZ.out⟩
      rw [← HTOT.out, HPK1.out, HPK.out, HQ.out]
      exact HOZ.out
end Go.Proofs.Ytldlddoealpomaa
