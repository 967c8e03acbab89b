/- Writes as arguments; the walk of ImageApplies. -/
import Derived.Test.YtbcnikmhodkbfaaZb
import Derived.Test.YtbcnikmhodkbfaaU
namespace Go.Proofs.Ytbcnikmhodkbfaa
open Go.RowKit Go.Lib

/-- An answer of Apply: the image, the index, the error. -/
def resA : Except (Nat × Int) (List (List Sect)) → List (List Sect) × Nat × Int
  | .ok L => (L, 0, 0)
  | .error (i, e) => ([], i, e)
theorem appQ_use {w w' : World} {L : List (List Sect)} {ws : List Wri} {e : Ending} (h : AppQ w L ws e w') : ∃ A n c ys, e = .returned (.tuple #[.slice A n c, .int .i64 ((resA (appM L ws)).2.1 : Int), .int .i64 (resA (appM L ws)).2.2]) ∧ Img w' (.slice A n c) ys ∧ con ys = (resA (appM L ws)).1 ∧ Below w.heap.size w w' := by
  obtain ⟨hb, ⟨L', g, ys, ha, rfl, hc, hk, ho⟩ | ⟨i, er, ha, h0, rfl⟩⟩ := h
  · rw [ha]
    have hl := (chk_ok hk).2.1
    rw [← hc, con_len] at hl
    exact ⟨_, _, _, ys, rfl, img_of_own ho (by omega), hc, hb⟩
  · rw [ha]
    exact ⟨none, 0, 0, [], rfl, img_none _, rfl, hb⟩
theorem refAppQ_use {w w' : World} {L : List (List Sect)} {ws : List Wri} {e : Ending} (h : RefAppQ w L ws e w') : ∃ A n c ys, e = .returned (.tuple #[.slice A n c, .int .i64 ((resA (appM L ws)).2.1 : Int), .int .i64 (resA (appM L ws)).2.2]) ∧ Img w' (.slice A n c) ys ∧ con ys = (resA (appM L ws)).1 ∧ Below w.heap.size w w' := by
  obtain ⟨hb, ⟨L', r, ys, ha, rfl, hc, ho⟩ | ⟨i, er, ha, h0, rfl⟩⟩ := h
  · rw [ha]
    obtain ⟨A, c, rfl⟩ := ownAny_form ho.1
    exact ⟨_, _, _, ys, rfl, img_of_ownV (ownR_V ho), hc, hb⟩
  · rw [ha]
    exact ⟨none, 0, 0, [], rfl, img_none _, rfl, hb⟩
set_option maxHeartbeats 8000000 in
set_option maxRecDepth 100000 in
theorem applies_any (xs : List Vol) (ws : List Wri) (v u : Value) (w : World) (hv : Img w v xs) (hu : WrsA w u ws) :
    Calls Try.prog 4 #[v, u] w fun e w' => e = .returned (.bool true) ∧ Below w.heap.size w w' := by
  have HAW := hid (fun W => awake_any W)
  have HF := hid (few_any xs v w hv)
  have HFW := hid (fewW_any ws u w hu)
  have HFI : Hid (xs.length ≤ 1000 → ∀ W, Below w.heap.size w W → ∀ (vo s : Int) (D : Option Addr) (m c : Nat), m ≤ 9223372036854775807 → R64 s → Calls Try.prog 21 #[v, .agg #[.int .i64 vo, .int .i64 s, .slice D m c]] W fun e w' => e = .returned (.int .i64 (fitE (con xs) vo s m)) ∧ Below W.heap.size W w') := hid (fun hl W hb vo s D m c hm hs => fits_any xs v vo s D m c W (hv.below hb) hl hm hs)
  have HRF : Hid (xs.length ≤ 1000 → ∀ W, Below w.heap.size w W → ∀ (vo s : Int) (D : Option Addr) (m c : Nat), m ≤ 9223372036854775807 → R64 s → Calls Try.prog 22 #[v, .agg #[.int .i64 vo, .int .i64 s, .slice D m c]] W fun e w' => e = .returned (.int .i64 (fitE (con xs) vo s m)) ∧ Below W.heap.size W w') := hid (fun hl W hb vo s D m c hm hs => refFits_any xs v vo s D m c W (hv.below hb) hl hm hs)
  have HAP : Hid (xs.length ≤ 1000 → ∀ W, Below w.heap.size w W → Calls Try.prog 23 #[v, u] W (AppQ W (con xs) ws)) := hid (fun hl W hb => apply_any xs ws v u W (hv.below hb) (hu.below hb) hl)
  have HRA : Hid (xs.length ≤ 1000 → ∀ W, Below w.heap.size w W → Calls Try.prog 24 #[v, u] W (RefAppQ W (con xs) ws)) := hid (fun hl W hb => refApply_any xs ws v u W (hv.below hb) (hu.below hb) hl)
  have HU0 := hid hu
  obtain ⟨A, ca, rfl⟩ := img_form hv
  obtain ⟨B, cb, rfl⟩ := wrs_form hu
  obtain ⟨_, hc1, hc2⟩ := arr_cap hu.2
  obtain ⟨n, hn⟩ : ∃ n, xs.length = n := ⟨_, rfl⟩
  obtain ⟨N, hN⟩ : ∃ N, ws.length = N := ⟨_, rfl⟩
  have HN := hid hN
  rw [hn] at HF HFI HRF HAP HRA ⊢
  rw [hN] at HFW HAP HRA HU0 hc1 ⊢
  obtain ⟨q, hq⟩ : ∃ q, fewV (con xs) = q := ⟨_, rfl⟩
  rw [hq] at HF
  obtain ⟨q2, hq2⟩ : ∃ q2, fewW ws = q2 := ⟨_, rfl⟩
  rw [hq2] at HFW
  have HM : Hid (q = true → n ≤ 1000) := hid (fun h => by
    rw [h] at hq
    unfold fewV at hq
    rw [con_len, hn, Bool.and_eq_true] at hq
    have := of_decide_eq_true hq.1
    omega)
  clear hv hu hn hN hq hq2
  go_enter Try.func4, Try.ntmps4
  rcases q with _ | _
  · go_wp2_with fail
    refine HF.out.mono ?_
    rintro e w1 ⟨rfl, rfl⟩
    go_wp2_with fail
    refine (HAW.out w).mono ?_
    rintro e w2 ⟨rfl, hb2⟩
    have HB2 := hid hb2
    clear hb2
    go_wp2
    go_ret
    exact ⟨rfl, HB2.out⟩
  · have HFI2 := hid (HFI.out (HM.out rfl))
    have HRF2 := hid (HRF.out (HM.out rfl))
    have HAP2 := hid (HAP.out (HM.out rfl))
    have HRA2 := hid (HRA.out (HM.out rfl))
    clear HFI HRF HAP HRA
    rcases q2 with _ | _
    · go_wp2_with fail
      refine HF.out.mono ?_
      rintro e w1 ⟨rfl, rfl⟩
      go_wp2_with fail
      refine HFW.out.mono ?_
      rintro e w1 ⟨rfl, hb1⟩
      have HB1 := hid hb1
      clear hb1
      go_wp2_with fail
      refine (HAW.out w1).mono ?_
      rintro e w2 ⟨rfl, hb2⟩
      have HB2 := hid (below_both HB1.out hb2)
      clear hb2
      go_wp2
      go_ret
      exact ⟨rfl, HB2.out⟩
    · go_wp2_with fail
      refine HF.out.mono ?_
      rintro e w1 ⟨rfl, rfl⟩
      go_wp2_with fail
      refine HFW.out.mono ?_
      rintro e w1 ⟨rfl, hb1⟩
      have HB1 := hid hb1
      clear hb1
      go_wp2_with fail
      go_loopw [24] (fun i wr => ∃ k : Nat, k ≤ N ∧ i = .int .i64 (k : Int) ∧ Hid (Below w.heap.size w wr)) (fun i _ => N - (Go.RowKit.intOf i).toNat)
      case atStart => exact ⟨0, Nat.zero_le _, rfl, HB1⟩
      case round =>
        clear HB1
        obtain ⟨k, hk, rfl, HB⟩ := hrel
        by_cases hkN : k < N
        · have hkc : (k : Int) < (N : Int) := by omega
          obtain ⟨x, hx⟩ : ∃ x, ws[k]? = some x := ⟨ws[k]'(by rw [HN.out]; exact hkN), List.getElem?_eq_getElem _⟩
          obtain ⟨hxs, hxn, hxv, hx64⟩ := HU0.out.1 x (List.mem_of_getElem? hx)
          obtain ⟨b, off, hbA, hbl, hcell⟩ := wri_at HU0.out (by rw [HN.out]; omega)
          subst hbA
          have hrow : ∀ (j : Nat) (z : Value), (cWri x)[j]? = some z → wr.cell? ⟨b, off + k * 3 + j, none⟩ = some z := fun j z hz => (HB.out.cell (p := ⟨b, _, none⟩) hbl).trans (hcell k _ hx j z hz)
          obtain ⟨xv, xs', xd, xl⟩ := x
          dsimp only at hxs hxn hxv hx64
          obtain ⟨dA, dc, rfl⟩ := sec_form hxs
          have hm := (sec_len hxs).2
          have q0 : wr.cell? ⟨b, off + k * 3, none⟩ = some (.int .i64 xv) := hrow 0 _ rfl
          have q1 : wr.cell? ⟨b, off + k * 3 + 1, none⟩ = some (.int .i64 xs') := hrow 1 _ rfl
          have q2 : wr.cell? ⟨b, off + k * 3 + 2, none⟩ = some (.slice dA xl.length dc) := hrow 2 _ rfl
          obtain ⟨W3, hW3⟩ : ∃ W3, wr.alloc (.cells #[.int .i64 xv, .int .i64 xs', .slice dA xl.length dc] 42) = W3 := ⟨_, rfl⟩
          have hb3 : Below wr.heap.size wr W3 := by rw [← hW3]; exact al1 _ _
          have hx3 := heap_alloc_new wr (.cells #[.int .i64 xv, .int .i64 xs', .slice dA xl.length dc] 42)
          rw [hW3] at hx3
          have HB3 := hid (HB.out.trans (hb3.mono HB.out.size))
          have HFa := hid (fun W hb => HFI2.out W hb xv xs' dA xl.length dc (by omega) hx64)
          have HFb := hid (fun W hb => HRF2.out W hb xv xs' dA xl.length dc (by omega) hx64)
          have hz3 := box_lt hx3
          have p0 : W3.cell? ⟨wr.heap.size, 0, none⟩ = some (.int .i64 xv) := cell_of_row _ _ 0 _ _ _ hx3
          have p1 : W3.cell? ⟨wr.heap.size, 1, none⟩ = some (.int .i64 xs') := cell_of_row _ _ 1 _ _ _ hx3
          have p2 : W3.cell? ⟨wr.heap.size, 2, none⟩ = some (.slice dA xl.length dc) := cell_of_row _ _ 2 _ _ _ hx3
          obtain ⟨er, her⟩ : ∃ er, fitE (con xs) xv xs' xl.length = er := ⟨_, rfl⟩
          rw [her] at HFa HFb
          obtain ⟨m, hm⟩ : ∃ m, xl.length = m := ⟨_, rfl⟩
          rw [hm] at HFa HFb q2 p2 hW3
          obtain ⟨g0, hg0⟩ : ∃ g0, wr.heap.size = g0 := ⟨_, rfl⟩
          rw [hg0] at p0 p1 p2 hz3
          have HBd : Hid (∀ q, Below w.heap.size w (W3.drewN q)) := hid (fun q => below_drewN HB3.out q)
          clear hx hcell hrow hxs hxn hxv hx64 hb3 hx3 her hm
          go_wp2_with fail
          clear q0 q1 q2 hW3
          go_region_law (first | (go_simp; go_at_call 21; refine (HFa.out _ (HBd.out _)).mono ?_; rintro e w4 ⟨rfl, hb4⟩; have HB4 := hid (below_both (HBd.out _) hb4); have p0 := (hb4.cell (p := ⟨g0, 0, none⟩) hz3).trans p0; have p1 := (hb4.cell (p := ⟨g0, 1, none⟩) hz3).trans p1; have p2 := (hb4.cell (p := ⟨g0, 2, none⟩) hz3).trans p2; clear hb4) | (go_simp; go_at_call 22; refine (HFb.out _ HB4.out).mono ?_; rintro e w5 ⟨rfl, hb5⟩; have HB5 := hid (below_both HB4.out hb5); clear hb5))
          all_goals
            clear p0 p1 p2
            go_wp2
            go_roundw
            case rel => exact ⟨k + 1, by omega, by go_num, HB5⟩
            case measure => simp [Go.RowKit.intOf]; omega
        · obtain rfl : k = N := by omega
          have HA1 := hid (HAP2.out wr HB.out)
          go_wp2_with fail
          refine HA1.out.mono ?_
          rintro e w2 hq
          obtain ⟨A1, n1, k1, ys1, rfl, hi1, hc1, hb2⟩ := appQ_use hq
          have HB2 := hid (below_both HB.out hb2)
          have HI1 := hid hi1
          have HC1 := hid hc1
          have HA2 := hid (HRA2.out w2 HB2.out)
          clear hq hi1 hc1 hb2 HA1
          go_wp2_with fail
          refine HA2.out.mono ?_
          rintro e w3 hq
          obtain ⟨A2, n2, k2, ys2, rfl, hi2, hc2, hb3⟩ := refAppQ_use hq
          have HB3 := hid (below_both HB2.out hb3)
          have HS := hid (refSame_any ys1 ys2 _ _ w3 (HI1.out.below hb3) hi2)
          rw [decide_eq_true (HC1.out.trans hc2.symm)] at HS
          clear hq hi2 hc2 hb3 HA2 HI1 HC1
          obtain ⟨r1, hr1⟩ : ∃ r, (resA (appM (con xs) ws)).2.1 = r := ⟨_, rfl⟩
          obtain ⟨r2, hr2⟩ : ∃ r, (resA (appM (con xs) ws)).2.2 = r := ⟨_, rfl⟩
          rw [hr1, hr2]
          clear hr1 hr2
          go_wp2_with fail
          refine HS.out.mono ?_
          rintro e w4 ⟨rfl, hb4⟩
          have HB4 := hid (below_both HB3.out hb4)
          clear hb4 HS
          go_wp2_with fail
          refine (HAW.out w4).mono ?_
          rintro e w7 ⟨rfl, hb7⟩
          have HB7 := hid (below_both HB4.out hb7)
          clear hb7
          go_wp2
          go_ret
          exact ⟨rfl, HB7.out⟩
end Go.Proofs.Ytbcnikmhodkbfaa
