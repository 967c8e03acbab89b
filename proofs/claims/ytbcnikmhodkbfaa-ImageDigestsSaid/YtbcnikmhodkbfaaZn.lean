/- Digests of images: the program's, the reference's; the walk of ImageDigests. -/
import Derived.Test.YtbcnikmhodkbfaaXC
import Derived.Test.YtbcnikmhodkbfaaZe
namespace Go.Proofs.Ytbcnikmhodkbfaa
open Go.RowKit Go.Lib

theorem sec_nil0 (w : World) : Sec w (.slice none 0 0) [] := ⟨fun s hs => by simp at hs, arr_nil _ _⟩
theorem cs_sec {w : World} {v : Value} {l : List Sect} (h : Sec w v l) : Cs.Sec w v l := by
  obtain ⟨h8, A, cap, e, h1, h2, b, off, hA, hc⟩ := h
  rw [List.length_map] at e h1 hA
  exact ⟨fun s hs => h8 s hs, A, cap, e, h1, h2, b, off, hA, fun i s hs j x hx => hc i (cSec s) (by rw [List.getElem?_map, hs]; rfl) j _ (by unfold cSec; rw [List.getElem?_map, hx]; rfl)⟩
noncomputable def dgl (l : List Sect) : Nat := Cs.dig l.flatten
noncomputable def dgs (L : List (List Sect)) (k : Nat) : Nat := (L.take k).foldl (fun d l => Cs.pairS d (dgl l)) (dgl [])
theorem dgl_lt (l : List Sect) : dgl l < 18446744073709551616 := Cs.dig_lt _
theorem pairS_lt (a b : Nat) : Cs.pairS a b < 18446744073709551616 := Cs.dig_lt _
theorem dgs_zero (L : List (List Sect)) : dgs L 0 = dgl [] := by unfold dgs; rw [List.take_zero, List.foldl_nil]
theorem dgs_succ {L : List (List Sect)} {k : Nat} {l : List Sect} (h : L[k]? = some l) : dgs L (k + 1) = Cs.pairS (dgs L k) (dgl l) := by
  unfold dgs
  rw [take_snoc h, List.foldl_append, List.foldl_cons, List.foldl_nil]
theorem dgs_lt (L : List (List Sect)) (k : Nat) : dgs L k < 18446744073709551616 := by
  have h : ∀ (M : List (List Sect)) (d : Nat), d < 18446744073709551616 → M.foldl (fun d l => Cs.pairS d (dgl l)) d < 18446744073709551616 := by
    intro M
    induction M with
    | nil => intro d hd; exact hd
    | cons x t ih => intro d hd; rw [List.foldl_cons]; exact ih _ (pairS_lt _ _)
  exact h _ _ (dgl_lt _)
theorem digestS_any (l : List Sect) (v : Value) (w : World) (hv : Sec w v l) : Calls Try.prog 65 #[v] w fun e w' => e = .returned (.int .u64 (dgl l : Nat)) ∧ Below w.heap.size w w' := Cs.digestS_any l v w (cs_sec hv)
theorem rdigestS_any (l : List Sect) (v : Value) (w : World) (hv : Sec w v l) (hl : l.length ≤ 1000) : Calls Try.prog 67 #[v] w fun e w' => e = .returned (.int .u64 (dgl l : Nat)) ∧ Below w.heap.size w w' := Cs.rdigestS_any l v w (cs_sec hv) hl
set_option maxHeartbeats 4000000 in
set_option maxRecDepth 100000 in
theorem imDigest_any (xs : List Vol) (v : Value) (w : World) (hv : Img w v xs) :
    Calls Try.prog 35 #[v] w fun e w' => e = .returned (.int .u64 (dgs (con xs) xs.length : Nat)) ∧ Below w.heap.size w w' := by
  have HN0 := hid (digestS_any [] (.slice none 0 0) w (sec_nil0 _))
  obtain ⟨A, c, rfl⟩ := img_form hv
  have hc1 := (arr_cap hv.2).2
  have HV := hid hv
  obtain ⟨n, hn⟩ : ∃ n, xs.length = n := ⟨_, rfl⟩
  have HN := hid hn
  rw [hn] at HV hc1 ⊢
  obtain ⟨d0, hd0⟩ : ∃ d, dgl [] = d := ⟨_, rfl⟩
  have HD0 := hid hd0
  rw [hd0] at HN0
  clear hv hn hd0
  go_enter Try.func35, Try.ntmps35
  go_wp2_with fail
  refine HN0.out.mono ?_
  rintro e w1 ⟨rfl, hb1⟩
  have HB1 := hid hb1
  clear hb1 HN0
  go_wp2_with fail
  go_loopw [3, 9] (fun d i wr => ∃ k y : Nat, k ≤ n ∧ i = .int .i64 (k : Int) ∧ d = .int .u64 (y : Int) ∧ Hid (dgs (con xs) k = y) ∧ Hid (Below w.heap.size w wr)) (fun _ i _ => n - (Go.RowKit.intOf i).toNat)
  case atStart => exact ⟨0, d0, Nat.zero_le _, rfl, rfl, hid (by rw [dgs_zero, HD0.out]), HB1⟩
  case round =>
    clear HB1
    obtain ⟨k, y, hk, rfl, rfl, HY, HB⟩ := hrel
    by_cases hkn : k < n
    · obtain ⟨x, hx⟩ : ∃ x, xs[k]? = some x := ⟨xs[k]'(by rw [HN.out]; exact hkn), List.getElem?_eq_getElem _⟩
      have hcx0 : (con xs)[k]? = some x.l := by unfold con; rw [List.getElem?_map, hx]; rfl
      obtain ⟨b, off, hbA, hb, hcell⟩ := img_at HV.out (by rw [HN.out]; omega)
      subst hbA
      have hxs := (HV.out.1 x (List.mem_of_getElem? hx)).1
      obtain ⟨dA, dc, hd⟩ := sec_form hxs
      have hcx : wr.cell? ⟨b, off + k, none⟩ = some (.slice dA x.l.length dc) := (HB.out.cell (p := ⟨b, off + k, none⟩) hb).trans (by rw [hcell k x hx, hd])
      rw [hd] at hxs
      have HS := hid (digestS_any x.l _ wr (hxs.below HB.out))
      have HDS := hid (dgs_succ hcx0)
      have hyl := dgs_lt (con xs) k
      have hzl := dgl_lt x.l
      rw [HY.out] at HDS hyl
      obtain ⟨z, hz⟩ : ∃ z, dgl x.l = z := ⟨_, rfl⟩
      rw [hz] at HS HDS hzl
      obtain ⟨r, hr⟩ : ∃ r, Cs.pairS y z = r := ⟨_, rfl⟩
      have HP := hid (fun W => Cs.pair_any y z W hyl hzl)
      rw [hr] at HP HDS
      obtain ⟨X, hX⟩ : ∃ X, x.l.length = X := ⟨_, rfl⟩
      rw [hX] at hcx HS
      have hkc : (k : Int) < (n : Int) := by omega
      clear hx hcx0 hcell hd hxs hz hr hX hyl hzl
      go_wp2_with fail
      refine HS.out.mono ?_
      rintro e w2 ⟨rfl, hb2⟩
      have HB2 := hid (below_both HB.out hb2)
      clear hb2 HS hcx
      go_wp2_with fail
      refine (HP.out w2).mono ?_
      rintro e w3 ⟨rfl, hb3⟩
      have HB3 := hid (below_both HB2.out hb3)
      clear hb3 HP
      go_wp2
      go_roundw
      case rel => exact ⟨k + 1, r, by omega, by go_num, rfl, HDS, HB3⟩
      case measure => simp [Go.RowKit.intOf]; omega
    · obtain rfl : k = n := by omega
      go_wp2
      go_ret
      exact ⟨by rw [HY.out]; rfl, HB.out⟩
set_option maxHeartbeats 4000000 in
set_option maxRecDepth 100000 in
theorem refDigest_any (xs : List Vol) (v : Value) (w : World) (hv : Img w v xs) (hl : ∀ x ∈ xs, x.l.length ≤ 1000) :
    Calls Try.prog 36 #[v] w fun e w' => e = .returned (.int .u64 (dgs (con xs) xs.length : Nat)) ∧ Below w.heap.size w w' := by
  have HZ := hid hl
  clear hl
  have HN0 := hid (rdigestS_any [] (.slice none 0 0) w (sec_nil0 _) (by decide))
  obtain ⟨A, c, rfl⟩ := img_form hv
  have hc1 := (arr_cap hv.2).2
  have HV := hid hv
  obtain ⟨n, hn⟩ : ∃ n, xs.length = n := ⟨_, rfl⟩
  have HN := hid hn
  rw [hn] at HV hc1 ⊢
  obtain ⟨d0, hd0⟩ : ∃ d, dgl [] = d := ⟨_, rfl⟩
  have HD0 := hid hd0
  rw [hd0] at HN0
  clear hv hn hd0
  go_enter Try.func36, Try.ntmps36
  go_wp2_with fail
  refine HN0.out.mono ?_
  rintro e w1 ⟨rfl, hb1⟩
  have HB1 := hid hb1
  clear hb1 HN0
  go_wp2_with fail
  go_loopw [3, 4] (fun d i wr => ∃ k y : Nat, k ≤ n ∧ i = .int .i64 (k : Int) ∧ d = .int .u64 (y : Int) ∧ Hid (dgs (con xs) k = y) ∧ Hid (Below w.heap.size w wr)) (fun _ i _ => n - (Go.RowKit.intOf i).toNat)
  case atStart => exact ⟨0, d0, Nat.zero_le _, rfl, rfl, hid (by rw [dgs_zero, HD0.out]), HB1⟩
  case round =>
    clear HB1
    obtain ⟨k, y, hk, rfl, rfl, HY, HB⟩ := hrel
    by_cases hkn : k < n
    · obtain ⟨x, hx⟩ : ∃ x, xs[k]? = some x := ⟨xs[k]'(by rw [HN.out]; exact hkn), List.getElem?_eq_getElem _⟩
      have hcx0 : (con xs)[k]? = some x.l := by unfold con; rw [List.getElem?_map, hx]; rfl
      obtain ⟨b, off, hbA, hb, hcell⟩ := img_at HV.out (by rw [HN.out]; omega)
      subst hbA
      have hxs := (HV.out.1 x (List.mem_of_getElem? hx)).1
      obtain ⟨dA, dc, hd⟩ := sec_form hxs
      have hcx : wr.cell? ⟨b, off + k, none⟩ = some (.slice dA x.l.length dc) := (HB.out.cell (p := ⟨b, off + k, none⟩) hb).trans (by rw [hcell k x hx, hd])
      rw [hd] at hxs
      have HS := hid (rdigestS_any x.l _ wr (hxs.below HB.out) (HZ.out x (List.mem_of_getElem? hx)))
      have HDS := hid (dgs_succ hcx0)
      have hyl := dgs_lt (con xs) k
      have hzl := dgl_lt x.l
      rw [HY.out] at HDS hyl
      obtain ⟨z, hz⟩ : ∃ z, dgl x.l = z := ⟨_, rfl⟩
      rw [hz] at HS HDS hzl
      obtain ⟨r, hr⟩ : ∃ r, Cs.pairS y z = r := ⟨_, rfl⟩
      have HP := hid (fun W => Cs.rpair_any y z W)
      rw [hr] at HP HDS
      obtain ⟨X, hX⟩ : ∃ X, x.l.length = X := ⟨_, rfl⟩
      rw [hX] at hcx HS
      have hkc : (k : Int) < (n : Int) := by omega
      clear hx hcx0 hcell hd hxs hz hr hX hyl hzl
      go_wp2_with fail
      refine HS.out.mono ?_
      rintro e w2 ⟨rfl, hb2⟩
      have HB2 := hid (below_both HB.out hb2)
      clear hb2 HS hcx
      go_wp2_with fail
      refine (HP.out w2).mono ?_
      rintro e w3 ⟨rfl, hb3⟩
      have HB3 := hid (below_both HB2.out hb3)
      clear hb3 HP
      go_wp2
      go_roundw
      case rel => exact ⟨k + 1, r, by omega, by go_num, rfl, HDS, HB3⟩
      case measure => simp [Go.RowKit.intOf]; omega
    · obtain rfl : k = n := by omega
      go_wp2
      go_ret
      exact ⟨by rw [HY.out]; rfl, HB.out⟩
set_option maxHeartbeats 4000000 in
set_option maxRecDepth 100000 in
theorem digests_any (xs : List Vol) (v : Value) (w : World) (hv : Img w v xs) :
    Calls Try.prog 7 #[v] w fun e w' => e = .returned (.bool true) ∧ Below w.heap.size w w' := by
  have HAW := hid (fun W => awake_any W)
  have HF := hid (few_any xs v w hv)
  have HA := hid (imDigest_any xs v w hv)
  have HB : Hid (fewV (con xs) = true → ∀ W, Below w.heap.size w W → Calls Try.prog 36 #[v] W fun e w' => e = .returned (.int .u64 (dgs (con xs) xs.length : Nat)) ∧ Below W.heap.size W w') := hid (fun h W hW => refDigest_any xs v W (hv.below hW) (fun x hx => by have := (fewV_len h).2 x hx; omega))
  obtain ⟨A, ca, rfl⟩ := img_form hv
  obtain ⟨q, hq⟩ : ∃ q, fewV (con xs) = q := ⟨_, rfl⟩
  rw [hq] at HF HB
  obtain ⟨r, hr⟩ : ∃ r, dgs (con xs) xs.length = r := ⟨_, rfl⟩
  rw [hr] at HA HB
  obtain ⟨n, hn⟩ : ∃ n, xs.length = n := ⟨_, rfl⟩
  rw [hn] at HF HA HB ⊢
  clear hv hq hr hn
  go_enter Try.func7, Try.ntmps7
  rcases q with _ | _
  · go_wp2_with fail
    refine HF.out.mono ?_
    rintro e w1 ⟨rfl, rfl⟩
    go_wp2_with fail
    refine (HAW.out w).mono ?_
    rintro e w2 ⟨rfl, hb2⟩
    have HB2 := hid hb2
    clear hb2
    go_wp2
    go_ret
    exact ⟨rfl, HB2.out⟩
  · have HC := hid (HB.out rfl)
    clear HB
    go_wp2_with fail
    refine HF.out.mono ?_
    rintro e w1 ⟨rfl, rfl⟩
    go_wp2_with fail
    refine HA.out.mono ?_
    rintro e w1 ⟨rfl, hb1⟩
    have HB1 := hid hb1
    have HC1 := hid (HC.out w1 hb1)
    clear hb1 HA HC
    go_wp2_with fail
    refine HC1.out.mono ?_
    rintro e w2 ⟨rfl, hb2⟩
    have HB2 := hid (below_both HB1.out hb2)
    clear hb2 HC1
    go_wp2_with fail
    refine (HAW.out w2).mono ?_
    rintro e w3 ⟨rfl, hb3⟩
    have HB3 := hid (below_both HB2.out hb3)
    clear hb3
    go_wp2
    go_ret
    exact ⟨rfl, HB3.out⟩
end Go.Proofs.Ytbcnikmhodkbfaa
