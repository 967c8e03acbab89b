/- The reference's Same. -/
import Derived.Test.YtbcnikmhodkbfaaR
namespace Go.Proofs.Ytbcnikmhodkbfaa
open Go.RowKit Go.Lib

set_option maxHeartbeats 4000000 in
set_option maxRecDepth 100000 in
theorem refSame_any (xs ys : List Vol) (v u : Value) (w : World) (hv : Img w v xs) (hu : Img w u ys) :
    Calls Try.prog 17 #[v, u] w fun e w' => e = .returned (.bool (decide (con xs = con ys))) ∧ Below w.heap.size w w' := by
  obtain ⟨A, ca, rfl⟩ := img_form hv
  obtain ⟨B, cb, rfl⟩ := img_form hu
  obtain ⟨_, ha1, ha2⟩ := arr_cap hv.2
  obtain ⟨_, hb1, hb2⟩ := arr_cap hu.2
  have HV := hid hv
  have HU := hid hu
  obtain ⟨n, hn⟩ : ∃ n, xs.length = n := ⟨_, rfl⟩
  obtain ⟨m, hm⟩ : ∃ m, ys.length = m := ⟨_, rfl⟩
  have HN := hid hn
  have HM := hid hm
  rw [hn] at HV ha1 ⊢
  rw [hm] at HU hb1 ⊢
  clear hv hu hn hm
  by_cases hlen : n = m
  · subst hlen
    go_enter Try.func17, Try.ntmps17
    go_wp2_with fail
    go_loopw [5] (fun i wr => ∃ k : Nat, k ≤ n ∧ i = .int .i64 (k : Int) ∧ Hid ((con xs).take k = (con ys).take k) ∧ Hid (Below w.heap.size w wr)) (fun i _ => n - (Go.RowKit.intOf i).toNat)
    case atStart => exact ⟨0, Nat.zero_le _, rfl, hid rfl, hid (Below.refl _ _)⟩
    case round =>
      obtain ⟨k, hk, rfl, HT, HB⟩ := hrel
      by_cases hkn : k < n
      · obtain ⟨x, hx⟩ : ∃ x, xs[k]? = some x := ⟨xs[k]'(by rw [HN.out]; exact hkn), List.getElem?_eq_getElem _⟩
        obtain ⟨y, hy⟩ : ∃ y, ys[k]? = some y := ⟨ys[k]'(by rw [HM.out]; exact hkn), List.getElem?_eq_getElem _⟩
        have hcx0 : (con xs)[k]? = some x.l := by unfold con; rw [List.getElem?_map, hx]; rfl
        have hcy0 : (con ys)[k]? = some y.l := by unfold con; rw [List.getElem?_map, hy]; rfl
        obtain ⟨b, off, hbA, hbl, hcell⟩ := arr_at1 HV.out.2 (by rw [List.length_map, HN.out]; omega)
        obtain ⟨b', off', hbB, hbl', hcell'⟩ := arr_at1 HU.out.2 (by rw [List.length_map, HM.out]; omega)
        subst hbA hbB
        have hxS := (HV.out.1 x (List.mem_of_getElem? hx)).1
        have hyS := (HU.out.1 y (List.mem_of_getElem? hy)).1
        obtain ⟨dA, dc, hd⟩ := sec_form hxS
        obtain ⟨dB, dc', hd'⟩ := sec_form hyS
        have hcx : wr.cell? ⟨b, off + k, none⟩ = some (.slice dA x.l.length dc) := by
          have h := hcell k _ (by rw [List.getElem?_map, hx]; rfl) 0 _ rfl
          rw [Nat.mul_one, Nat.add_zero, hd] at h
          exact (HB.out.cell (p := ⟨b, off + k, none⟩) hbl).trans h
        have hcy : wr.cell? ⟨b', off' + k, none⟩ = some (.slice dB y.l.length dc') := by
          have h := hcell' k _ (by rw [List.getElem?_map, hy]; rfl) 0 _ rfl
          rw [Nat.mul_one, Nat.add_zero, hd'] at h
          exact (HB.out.cell (p := ⟨b', off' + k, none⟩) hbl').trans h
        rw [hd] at hxS
        rw [hd'] at hyS
        have HC : Hid (∀ W, Below wr.heap.size wr W → Calls Try.prog 47 #[.slice dA x.l.length dc, .slice dB y.l.length dc'] W (SaysQ (decide (x.l = y.l)) W)) := hid (fun W hb => by
          have h1 := (hxS.below HB.out).below hb
          have h2 := (hyS.below HB.out).below hb
          exact eqVol_any x.l y.l _ _ W h1.2 h2.2 h1.1 h2.1)
        have HX0 := hid hcx0
        have HY0 := hid hcy0
        obtain ⟨X, hX⟩ : ∃ X, x.l.length = X := ⟨_, rfl⟩
        obtain ⟨Y, hY⟩ : ∃ Y, y.l.length = Y := ⟨_, rfl⟩
        rw [hX] at hcx HC
        rw [hY] at hcy HC
        have hkc : (k : Int) < (n : Int) := by omega
        have hkc0 : (0 : Int) ≤ (k : Int) := by omega
        have HBD := hid (below_drew (Below.refl wr.heap.size wr))
        clear hcell hcell' hd hd' hx hy hcx0 hcy0 hX hY hxS hyS
        by_cases hz : x.l = y.l
        · rw [decide_eq_true hz] at HC
          have HT2 : Hid ((con xs).take (k + 1) = (con ys).take (k + 1)) := hid (by rw [take_snoc HX0.out, take_snoc HY0.out, HT.out, hz])
          clear hz
          go_wp2_with fail
          go_region_law (first | (go_simp; go_at_call 47; refine (HC.out _ HBD.out).mono ?_; intro e w6 hq; obtain ⟨rfl, hb6⟩ := saysQ_B hq; have HB6 := hid hb6; clear hq hb6))
          all_goals
            have HB7 := hid (below_both (below_drew HB.out) HB6.out)
            clear hcx hcy HC
            go_wp2
            go_roundw
            case rel => exact ⟨k + 1, by omega, by go_num, HT2, HB7⟩
            case measure => simp [Go.RowKit.intOf]; omega
        · rw [decide_eq_false hz] at HC
          have HE : Hid (decide (con xs = con ys) = false) := hid (decide_eq_false (fun h => hz (by
            have h1 := HX0.out
            rw [h, HY0.out] at h1
            injection h1 with h1
            exact h1.symm)))
          clear hz
          go_wp2_with fail
          go_region_law (first | (go_simp; go_at_call 47; refine (HC.out _ HBD.out).mono ?_; intro e w6 hq; obtain ⟨rfl, hb6⟩ := saysQ_B hq; have HB6 := hid hb6; clear hq hb6))
          all_goals
            have HB7 := hid (below_both (below_drew HB.out) HB6.out)
            clear hcx hcy HC
            go_wp2
            go_ret
            exact ⟨ret_b HE.out.symm, HB7.out⟩
      · obtain rfl : k = n := by omega
        have HE : Hid (decide (con xs = con ys) = true) := hid (decide_eq_true (by
          have h := HT.out
          rwa [List.take_of_length_le (by rw [con_len, HN.out]; exact Nat.le_refl _), List.take_of_length_le (by rw [con_len, HM.out]; exact Nat.le_refl _)] at h))
        go_wp2
        go_ret
        exact ⟨ret_b HE.out.symm, HB.out⟩
  · have d1 : ((n : Int) != (m : Int)) = true := by rw [bne_iff_ne]; omega
    have HE : Hid (decide (con xs = con ys) = false) := hid (decide_eq_false (fun h => hlen (by rw [← HN.out, ← HM.out, ← con_len xs, ← con_len ys, h])))
    clear hlen
    go_enter Try.func17, Try.ntmps17
    go_wp2
    go_ret
    exact ⟨ret_b HE.out.symm, Below.refl _ _⟩
end Go.Proofs.Ytbcnikmhodkbfaa
