/- The law ChecksumParts is walked. -/
import Derived.Test.YtgkcdmbhniipdaaV
namespace Go.Proofs.Ytgkcdmbhniipdaa
open Go.RowKit Go.Lib

theorem flatten_take {ll : List (List Nat)} {k : Nat} {s : List Nat} (h : ll[k]? = some s) : (ll.take (k + 1)).flatten = (ll.take k).flatten ++ s := by
  obtain ⟨hk, rfl⟩ := List.getElem?_eq_some_iff.1 h
  rw [List.take_succ_eq_append_getElem hk, List.flatten_append]
  simp
theorem byt_sec {W : World} {b o : Nat} {s : List Nat} (hs : s.length = 8) (h8 : B8 s) (hb : b < W.heap.size) (hc : ∀ (j x : Nat), s[j]? = some x → W.cell? ⟨b, o + j, none⟩ = some (.int .u8 (x : Int))) : Byt W (.slice (some ⟨b, o, none⟩) 8 8) s :=
  ⟨h8, some ⟨b, o, none⟩, 8, by rw [hs], by omega, by unfold maxLen; omega, b, o, fun _ => ⟨rfl, hb⟩, hc⟩

set_option maxHeartbeats 4000000 in
theorem parts_walk (ll : List (List Nat)) (a b : Nat) (vs : Value) (w : World) (hs : Sec w vs ll) (ha : a < 18446744073709551616) (hbb : b < 18446744073709551616) :
    Calls Try.prog 10 #[vs, .int .u64 (a : Int), .int .u64 (b : Int)] w fun e w' => e = .returned (.bool true) ∧ Below w.heap.size w w' := by
  have hl := sec_len hs
  have HS := hid hs
  obtain ⟨C, cc, rfl⟩ := sec_form hs
  clear hs
  by_cases h2 : ll.length ≤ 300
  · have H8 := hid HS.out.1
    obtain ⟨_, A', cap', e, _, _, g, off, hA, hc⟩ := HS.out
    injection e with e1 e2 e3
    subst e1 e3
    have HC := hid hc
    clear hc e2
    go_enter Try.func10, Try.ntmps10
    go_wp2
    go_loopw [7, 9] (fun v i wr => ∃ k n : Nat, k ≤ ll.length ∧ n = 8 * k ∧ i = .int .i64 (k : Int) ∧ Hid (wr.ownsRow w.heap.size 5 1 v n ((ll.take k).flatten.map byteV)) ∧ Hid (Below w.heap.size w wr)) (fun _ i _ => ll.length - (intOf i).toNat)
    case atStart => exact ⟨0, 0, by omega, rfl, rfl, hid (World.ownsRow_nil _ _ _ _), hid (Below.refl _ _)⟩
    case round =>
      obtain ⟨k, n, hk, hn, rfl, HO, HB⟩ := hrel
      obtain ⟨av, cv, rfl⟩ := own_form HO.out
      have HN := hid hn
      have hn1 : n ≤ 2400 := by omega
      clear hn
      by_cases hkl : k < ll.length
      · obtain ⟨hA1, hb⟩ := hA (by omega)
        subst hA1
        obtain ⟨s, hs⟩ : ∃ s, ll[k]? = some s := ⟨ll[k], List.getElem?_eq_getElem hkl⟩
        obtain ⟨hsl, hsb⟩ := H8.out s (List.mem_of_getElem? hs)
        have hBs := HB.out.size
        have HV := hid (byt_sec (o := off + k * 8) hsl hsb (Nat.lt_of_lt_of_le hb hBs) (fun j x hx => (HB.out.cell (p := ⟨g, off + k * 8 + j, none⟩) hb).trans (HC.out k s hs j x hx)))
        have HF := hid (flatten_take hs)
        have HSL := hid hsl
        clear hs hsl hsb
        go_wp2_with (at_builtin; refine append_byt rfl (.tmp 22) (.tmp 26) rfl w.heap.size (.slice av n cv) n _ rfl HO.out s _ rfl HV.out (nilOk_some _ _ _) (by rw [HSL.out]; omega) hBs ?_; intro v1 w1 hown1 hg1; have HB1 := hid (below_own HB.out HO.out hg1 hBs (Nat.le_refl _)); have HO1 := hid hown1; clear hown1 hg1)
        go_roundw
        case rel => exact ⟨k + 1, n + s.length, by omega, by rw [HSL.out, HN.out]; omega, by go_num, hid (by
          have h := HO1.out
          rw [own_snoc, ← HF.out] at h
          exact h), HB1⟩
        case measure => simp [intOf]; omega
      · obtain rfl : k = ll.length := by omega
        have h8 := flat_B8 H8.out
        have HV := hid (byt_of_own (by have h := HO.out; rw [List.take_of_length_le (Nat.le_refl _)] at h; exact h) h8)
        have hBs := HB.out.size
        obtain ⟨wo, rfl⟩ : ∃ wo : World, wo = wr := ⟨_, rfl⟩
        clear HO h8
        go_wp2
        have hfl := flat_length (le8_secs [a, b])
        have HF8 := hid (flat_B8 (le8_secs [a, b]))
        have HG2 := hid (fun (i m y : Nat) (h1 : [a, b][i]? = some y) (h2 : m < 8) => (flat_get (le8_secs [a, b]) (i := i) (m := m) (s := le8 y) (by rw [List.getElem?_map, h1]; rfl) h2).trans (le8_get y m h2))
        have HP : Hid (pairS a b = dig ([a, b].map le8).flatten) := hid rfl
        obtain ⟨fl, hfe⟩ : ∃ fl, ([a, b].map le8).flatten = fl := ⟨_, rfl⟩
        rw [hfe] at HG2 HF8 hfl HP
        have hfl16 : fl.length = 16 := by rw [hfl]; rfl
        have HL := hid hfl16
        clear hfl16 hfl hfe
        go_loopw [8, 10] (fun v i wr => ∃ k : Nat, k ≤ 16 ∧ i = .int .i64 (k : Int) ∧ Hid (wr.ownsRow wo.heap.size 5 1 v k ((fl.take k).map byteV)) ∧ Hid (Below wo.heap.size wo wr)) (fun _ i _ => 16 - (intOf i).toNat)
        case atStart => exact ⟨0, by omega, rfl, hid (World.ownsRow_nil _ _ _ _), hid (Below.refl _ _)⟩
        case round =>
          obtain ⟨k, hk, rfl, HO, HB2⟩ := hrel
          obtain ⟨av2, cv2, rfl⟩ := own_form HO.out
          have hBs2 := HB2.out.size
          by_cases hk16 : k < 16
          · by_cases hk8 : k < 8
            · have hmod : (k : Int) % 8 = (k : Int) := by omega
              have HN := hid (take_succ' (HG2.out 0 k a rfl (by omega)))
              have hsb := shr_byte a k
              have hzl : a / 256 ^ k % 256 < 256 := Nat.mod_lt _ (by decide)
              obtain ⟨z, hz⟩ : ∃ z, a / 256 ^ k % 256 = z := ⟨_, rfl⟩
              rw [hz, show 8 * 0 + k = k by omega] at HN
              rw [hz] at hsb hzl
              clear hz
              go_wp2_with (at_builtin; refine append_byt rfl (.tmp 36) (.tmp 43) rfl wo.heap.size (.slice av2 k cv2) k _ rfl (HO.out.alloc _) [z] _ rfl (byt_one wr z hzl) (nilOk_some _ _ _) (by simp; omega) (by simp; omega) ?_; intro v1 w1 hown1 hg1; have HB1 := hid (below_own (HB2.out.alloc hBs2 _) (HO.out.alloc (.cells #[.int .u8 (z : Int)] 5)) hg1 (by simp; omega) (Nat.le_refl _)); have HO1 := hid hown1; clear hown1 hg1)
              go_roundw
              case rel => exact ⟨k + 1, by omega, by go_num, hid (by
                have h := HO1.out
                rw [own_snoc, ← HN.out] at h
                exact h), HB1⟩
              case measure => simp [intOf]; omega
            · obtain ⟨m, hm⟩ : ∃ m, k - 8 = m := ⟨_, rfl⟩
              have hmod : (k : Int) % 8 = (m : Int) := by omega
              have hm8 : m < 8 := by omega
              have hkm : 8 * 1 + m = k := by omega
              have HKM := hid hkm
              clear hm hkm
              have HN := hid (take_succ' (HG2.out 1 m b rfl (by omega)))
              have hsb := shr_byte b m
              have hzl : b / 256 ^ m % 256 < 256 := Nat.mod_lt _ (by decide)
              obtain ⟨z, hz⟩ : ∃ z, b / 256 ^ m % 256 = z := ⟨_, rfl⟩
              rw [hz, HKM.out] at HN
              rw [hz] at hsb hzl
              clear hz
              go_wp2_with (at_builtin; refine append_byt rfl (.tmp 36) (.tmp 43) rfl wo.heap.size (.slice av2 k cv2) k _ rfl (HO.out.alloc _) [z] _ rfl (byt_one wr z hzl) (nilOk_some _ _ _) (by simp; omega) (by simp; omega) ?_; intro v1 w1 hown1 hg1; have HB1 := hid (below_own (HB2.out.alloc hBs2 _) (HO.out.alloc (.cells #[.int .u8 (z : Int)] 5)) hg1 (by simp; omega) (Nat.le_refl _)); have HO1 := hid hown1; clear hown1 hg1)
              go_roundw
              case rel => exact ⟨k + 1, by omega, by go_num, hid (by
                have h := HO1.out
                rw [own_snoc, ← HN.out] at h
                exact h), HB1⟩
              case measure => simp [intOf]; omega
          · obtain rfl : k = 16 := by omega
            have HV2 : Hid (Byt wr (.slice av2 16 cv2) fl) := hid (by
              have h := HO.out
              rw [List.take_of_length_le (by have := HL.out; omega)] at h
              exact byt_of_own h HF8.out)
            replace HV := hid (HV.out.below HB2.out)
            replace HB := hid (below_both HB.out HB2.out)
            clear HO
            have HD1 := hid (fun (W : World) (h : Below w.heap.size w W) => digestS_any ll _ W (HS.out.below h))
            have HD2 := hid (fun (W : World) (h : Below wr.heap.size wr W) => digestB_any ll.flatten _ W (HV.out.below h))
            have HD3 := hid (fun (W : World) => pair_any a b W ha hbb)
            have HD4 := hid (fun (W : World) (h : Below wr.heap.size wr W) => digestB_any fl _ W (HV2.out.below h))
            obtain ⟨d1, e1⟩ : ∃ d, dig ll.flatten = d := ⟨_, rfl⟩
            obtain ⟨d2, e2⟩ : ∃ d, dig fl = d := ⟨_, rfl⟩
            rw [e1] at HD1 HD2
            rw [HP.out, e2] at HD3
            rw [e2] at HD4
            clear e1 e2
            go_wp2_with fail
            refine (awake_any _).mono ?_
            rintro e w3 ⟨rfl, hb3⟩
            have HB3 := hid hb3
            clear hb3
            go_wp2_with fail
            refine (HD1.out _ (below_both HB.out HB3.out)).mono ?_
            rintro e w4 ⟨rfl, hb4⟩
            replace HB3 := hid (below_both HB3.out hb4)
            clear hb4
            go_wp2_with fail
            refine (HD2.out _ HB3.out).mono ?_
            rintro e w5 ⟨rfl, hb5⟩
            replace HB3 := hid (below_both HB3.out hb5)
            clear hb5
            go_wp2_with fail
            refine (HD3.out _).mono ?_
            rintro e w6 ⟨rfl, hb6⟩
            replace HB3 := hid (below_both HB3.out hb6)
            clear hb6
            go_wp2_with fail
            refine (HD4.out _ HB3.out).mono ?_
            rintro e w7 ⟨rfl, hb7⟩
            replace HB3 := hid (below_both HB3.out hb7)
            clear hb7
            go_wp2
            go_ret
            exact ⟨rfl, below_both HB.out HB3.out⟩
  · go_enter Try.func10, Try.ntmps10
    go_wp2_with fail
    refine (awake_any _).mono ?_
    rintro e w2 ⟨rfl, hb⟩
    have HB1 := hid hb
    clear hb
    go_wp2
    go_ret
    exact ⟨rfl, HB1.out⟩
end Go.Proofs.Ytgkcdmbhniipdaa
