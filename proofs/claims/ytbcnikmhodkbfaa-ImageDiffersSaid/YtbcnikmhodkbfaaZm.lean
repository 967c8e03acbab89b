/- The walk of ImageDiffers. -/
import Derived.Test.YtbcnikmhodkbfaaZl
namespace Go.Proofs.Ytbcnikmhodkbfaa
open Go.RowKit Go.Lib

theorem allDx_same {L M : List (List Sect)} {ds es : List Dvol} (h : AllDx L M ds) (h' : AllDx L M es) : dcon ds = dcon es := by
  apply List.ext_getElem?
  intro i
  unfold dcon
  rw [List.getElem?_map, List.getElem?_map]
  rcases Nat.lt_or_ge i L.length with hi | hi
  · obtain ⟨x, hx⟩ : ∃ x, ds[i]? = some x := ⟨ds[i]'(by rw [h.1]; exact hi), List.getElem?_eq_getElem _⟩
    obtain ⟨y, hy⟩ : ∃ y, es[i]? = some y := ⟨es[i]'(by rw [h'.1]; exact hi), List.getElem?_eq_getElem _⟩
    rw [hx, hy]
    have h1 := h.2 i x hx
    have h2 := h'.2 i y hy
    exact congrArg some (Xt.canon_ext (Int.le_refl 0) h1.1 h2.1 (fun z => by rw [h1.2 z, h2.2 z]))
  · rw [List.getElem?_eq_none (by rw [h.1]; exact hi), List.getElem?_eq_none (by rw [h'.1]; exact hi)]
theorem patK_congr {M : List (List Sect)} {ds es : List Dvol} (h : dcon ds = dcon es) : ∀ n, patK M ds n = patK M es n := by
  intro n
  induction n with
  | zero => rfl
  | succ n ih =>
    have e : exs ds n = exs es n := by
      have h1 := congrArg (fun l => l[n]?) h
      unfold dcon at h1
      simp only [List.getElem?_map] at h1
      unfold exs
      rw [h1]
    rw [patK, patK, ih, e]
theorem difs_nil (w : World) : Difs w (.slice none 0 0) [] := ⟨fun x h => (by cases h), arr_nil _ _⟩
theorem wrs_nil (w : World) : WrsA w (.slice none 0 0) [] := ⟨fun x h => (by cases h), arr_nil _ _⟩
/-- What both Differ answer; what both Patch answer. -/
def DfQ (w : World) (L M : List (List Sect)) (e : Ending) (w' : World) : Prop := ∃ A n c ds, e = .returned (.tuple #[.slice A n c, .int .i64 (difErr L M)]) ∧ Difs w' (.slice A n c) ds ∧ (difErr L M = 0 → AllDx L M ds) ∧ (difErr L M ≠ 0 → ds = []) ∧ Below w.heap.size w w'
def PtQ (w : World) (L M : List (List Sect)) (e : Ending) (w' : World) : Prop := ∃ A n c ws, e = .returned (.tuple #[.slice A n c, .int .i64 (difErr L M)]) ∧ WrsA w' (.slice A n c) ws ∧ (difErr L M = 0 → ∃ ds, AllDx L M ds ∧ ws.map wv = patK M ds L.length) ∧ (difErr L M ≠ 0 → ws = []) ∧ Below w.heap.size w w'
theorem dfQ_diff {w w' : World} {L M : List (List Sect)} {e : Ending} (h : DiffQ w L M e w') : DfQ w L M e w' := by
  obtain ⟨hb, ⟨h1, rfl⟩ | ⟨h0, g, ds, rfl, ha, hd⟩⟩ := h
  · exact ⟨none, 0, 0, [], rfl, difs_nil _, fun h => absurd h h1, fun _ => rfl, hb⟩
  · exact ⟨_, _, _, ds, by rw [h0], hd, fun _ => ha, fun h => absurd h0 h, hb⟩
theorem dfQ_ref {w w' : World} {L M : List (List Sect)} {e : Ending} (h : RefDiffQ w L M e w') : DfQ w L M e w' := by
  obtain ⟨hb, ⟨h1, rfl⟩ | ⟨h0, r, ds, rfl, ha, ho⟩⟩ := h
  · exact ⟨none, 0, 0, [], rfl, difs_nil _, fun h => absurd h h1, fun _ => rfl, hb⟩
  · have hd := difs_of_own ho ha
    obtain ⟨A, c, rfl⟩ := ownAny_form ho.1
    exact ⟨_, _, _, ds, by rw [h0], hd, fun _ => ha, fun h => absurd h0 h, hb⟩
theorem ptQ_of {w w' : World} {L M : List (List Sect)} {e : Ending} (h : PatQ w L M e w') : PtQ w L M e w' := by
  obtain ⟨hb, ⟨h1, rfl⟩ | ⟨h0, v, ws, ds, rfl, ha, hw, ho⟩⟩ := h
  · exact ⟨none, 0, 0, [], rfl, wrs_nil _, fun h => absurd h h1, fun _ => rfl, hb⟩
  · have hd := wrs_of_own ho
    obtain ⟨A, c, rfl⟩ := ownAny_form ho.1
    exact ⟨_, _, _, ws, by rw [h0], hd, fun _ => ⟨ds, ha, hw⟩, fun h => absurd h0 h, hb⟩
set_option maxHeartbeats 8000000 in
set_option maxRecDepth 100000 in
theorem differs_any (xs ys : List Vol) (v u : Value) (w : World) (hv : Img w v xs) (hu : Img w u ys) :
    Calls Try.prog 6 #[v, u] w fun e w' => e = .returned (.bool true) ∧ Below w.heap.size w w' := by
  have HAW := hid (fun W => awake_any W)
  have HF := hid (few_any xs v w hv)
  have HG := hid (few_any ys u w hu)
  have HD1 : Hid (xs.length ≤ 1000 → ys.length ≤ 1000 → ∀ W, Below w.heap.size w W → Calls Try.prog 28 #[v, u] W (DfQ W (con xs) (con ys))) := hid (fun h1 h2 W hW => (differ_any xs ys v u W (hv.below hW) (hu.below hW) h1 h2).mono (fun _ _ => dfQ_diff))
  have HD2 : Hid (xs.length ≤ 1000 → ys.length ≤ 1000 → ∀ W, Below w.heap.size w W → Calls Try.prog 29 #[v, u] W (DfQ W (con xs) (con ys))) := hid (fun h1 h2 W hW => (refDiffer_any xs ys v u W (hv.below hW) (hu.below hW) h1 h2).mono (fun _ _ => dfQ_ref))
  have HP1 : Hid (xs.length ≤ 1000 → ys.length ≤ 1000 → ∀ W, Below w.heap.size w W → Calls Try.prog 30 #[v, u] W (PtQ W (con xs) (con ys))) := hid (fun h1 h2 W hW => (patch_any xs ys v u W (hv.below hW) (hu.below hW) h1 h2).mono (fun _ _ => ptQ_of))
  have HP2 : Hid (xs.length ≤ 1000 → ys.length ≤ 1000 → ∀ W, Below w.heap.size w W → Calls Try.prog 31 #[v, u] W (PtQ W (con xs) (con ys))) := hid (fun h1 h2 W hW => (refPatch_any xs ys v u W (hv.below hW) (hu.below hW) h1 h2).mono (fun _ _ => ptQ_of))
  have HS1 : Hid (∀ W, Below w.heap.size w W → Calls Try.prog 32 #[v, u] W (SaysB (decide (con xs = con ys)) W)) := hid (fun W hW => sameIm_any xs ys v u W (hv.below hW) (hu.below hW))
  have HS2 : Hid (∀ W, Below w.heap.size w W → Calls Try.prog 17 #[v, u] W (SaysB (decide (con xs = con ys)) W)) := hid (fun W hW => refSame_any xs ys v u W (hv.below hW) (hu.below hW))
  obtain ⟨A, ca, rfl⟩ := img_form hv
  obtain ⟨B, cb, rfl⟩ := img_form hu
  obtain ⟨n, hn⟩ : ∃ n, xs.length = n := ⟨_, rfl⟩
  obtain ⟨m, hm⟩ : ∃ m, ys.length = m := ⟨_, rfl⟩
  rw [hn] at HF HD1 HD2 HP1 HP2 HS1 HS2 ⊢
  rw [hm] at HG HD1 HD2 HP1 HP2 HS1 HS2 ⊢
  obtain ⟨q, hq⟩ : ∃ q, fewV (con xs) = q := ⟨_, rfl⟩
  rw [hq] at HF
  obtain ⟨q2, hq2⟩ : ∃ q2, fewV (con ys) = q2 := ⟨_, rfl⟩
  rw [hq2] at HG
  have HM : Hid (q = true → n ≤ 9) := hid (fun h => by
    rw [h] at hq
    have := (fewV_len hq).1
    omega)
  have HM2 : Hid (q2 = true → m ≤ 9) := hid (fun h => by
    rw [h] at hq2
    have := (fewV_len hq2).1
    omega)
  obtain ⟨L, hL⟩ : ∃ L, con xs = L := ⟨_, rfl⟩
  obtain ⟨M, hM⟩ : ∃ M, con ys = M := ⟨_, rfl⟩
  rw [hL, hM] at HD1 HD2 HP1 HP2 HS1 HS2
  obtain ⟨sm, hsm⟩ : ∃ sm, decide (L = M) = sm := ⟨_, rfl⟩
  rw [hsm] at HS1 HS2
  clear hv hu hn hm hq hq2 hL hM hsm
  go_enter Try.func6, Try.ntmps6
  rcases q with _ | _
  · go_wp2_with fail
    refine HF.out.mono ?_
    rintro e w1 ⟨rfl, rfl⟩
    go_wp2_with fail
    refine (HAW.out w).mono ?_
    rintro e w2 ⟨rfl, hb2⟩
    have HB2 := hid hb2
    clear hb2
    go_wp2
    go_ret
    exact ⟨rfl, HB2.out⟩
  · have hn9 := HM.out rfl
    rcases q2 with _ | _
    · go_wp2_with fail
      refine HF.out.mono ?_
      rintro e w1 ⟨rfl, rfl⟩
      go_wp2_with fail
      refine HG.out.mono ?_
      rintro e w1 ⟨rfl, rfl⟩
      go_wp2_with fail
      refine (HAW.out w).mono ?_
      rintro e w2 ⟨rfl, hb2⟩
      have HB2 := hid hb2
      clear hb2
      go_wp2
      go_ret
      exact ⟨rfl, HB2.out⟩
    · have hm9 := HM2.out rfl
      have HE1 := hid (HD1.out (by omega) (by omega) w (Below.refl _ _))
      have HE2 := hid (HD2.out (by omega) (by omega))
      have HE3 := hid (HP1.out (by omega) (by omega))
      have HE4 := hid (HP2.out (by omega) (by omega))
      clear HD1 HD2 HP1 HP2
      go_wp2_with fail
      refine HF.out.mono ?_
      rintro e w1 ⟨rfl, rfl⟩
      go_wp2_with fail
      refine HG.out.mono ?_
      rintro e w1 ⟨rfl, rfl⟩
      go_wp2_with fail
      refine HE1.out.mono ?_
      rintro e w1 ⟨A1, n1, c1, d1, rfl, hd1, ha1, hz1, hb1⟩
      have HB1 := hid hb1
      have HX1 := hid hd1
      have HA1 := hid ha1
      have HZ1 := hid hz1
      have HE2' := hid (HE2.out w1 hb1)
      obtain ⟨er, her⟩ : ∃ er, difErr L M = er := ⟨_, rfl⟩
      have HER := hid her
      rw [her]
      clear hd1 ha1 hz1 hb1 HE1 HE2 her
      go_wp2_with fail
      refine HE2'.out.mono ?_
      rintro e w2 ⟨A2, n2, c2, d2, rfl, hd2, ha2, hz2, hb2⟩
      have HB2 := hid (below_both HB1.out hb2)
      have HX1' := hid (HX1.out.below hb2)
      have HX2 := hid hd2
      have HDC : Hid (dcon d1 = dcon d2) := hid (by
        by_cases h0 : difErr L M = 0
        · exact allDx_same (HA1.out h0) (ha2 h0)
        · rw [HZ1.out h0, hz2 h0])
      have HE3' := hid (HE3.out w2 HB2.out)
      rw [HER.out]
      clear hd2 ha2 hz2 hb2 HE2' HE3 HX1
      go_wp2_with fail
      refine HE3'.out.mono ?_
      rintro e w3 ⟨A3, n3, c3, p3, rfl, hw3, ha3, hz3, hb3⟩
      have HB3 := hid (below_both HB2.out hb3)
      have HX1 := hid (HX1'.out.below hb3)
      have HX2' := hid (HX2.out.below hb3)
      have HX3 := hid hw3
      have HA3 := hid ha3
      have HZ3 := hid hz3
      have HE4' := hid (HE4.out w3 HB3.out)
      rw [HER.out]
      clear hw3 ha3 hz3 hb3 HE3' HE4 HX1' HX2
      go_wp2_with fail
      refine HE4'.out.mono ?_
      rintro e w4 ⟨A4, n4, c4, p4, rfl, hw4, ha4, hz4, hb4⟩
      have HB4 := hid (below_both HB3.out hb4)
      have HX1' := hid (HX1.out.below hb4)
      have HX2 := hid (HX2'.out.below hb4)
      have HX3' := hid (HX3.out.below hb4)
      have HX4 := hid hw4
      have HSL : Hid (sameL p3 p4) := hid (by
        by_cases h0 : difErr L M = 0
        · obtain ⟨e1, a1, m1⟩ := HA3.out h0
          obtain ⟨e2, a2, m2⟩ := ha4 h0
          exact sameL_of (by rw [m1, m2, patK_congr (allDx_same a1 a2)])
        · rw [HZ3.out h0, hz4 h0]
          exact ⟨rfl, fun i x y h => by simp at h⟩)
      have HS1' := hid (HS1.out w4 HB4.out)
      rw [HER.out]
      clear hw4 ha4 hz4 hb4 HE4' HX1 HX2' HX3 HS1
      go_wp2_with fail
      refine HS1'.out.mono ?_
      rintro e w5 ⟨rfl, hb5⟩
      have HB5 := hid (below_both HB4.out hb5)
      have HC5 := hid hb5
      have HS2' := hid (HS2.out w5 HB5.out)
      clear hb5 HS1' HS2
      go_wp2_with fail
      refine HS2'.out.mono ?_
      rintro e w6 ⟨rfl, hb6⟩
      have HB6 := hid (below_both HB5.out hb6)
      have HC6 := hid (below_both HC5.out hb6)
      have HE5 := hid (sameExts_any d1 d2 _ _ w6 (HX1'.out.below HC6.out) (HX2.out.below HC6.out))
      rw [decide_eq_true HDC.out] at HE5
      clear hb6 HS2' HC5
      go_wp2_with fail
      refine HE5.out.mono ?_
      rintro e w7 ⟨rfl, hb7⟩
      have HB7 := hid (below_both HB6.out hb7)
      have HC7 := hid (below_both HC6.out hb7)
      have HE6 := hid (sameWris_true p3 p4 _ _ w7 (HX3'.out.below HC7.out) (HX4.out.below HC7.out) HSL.out)
      clear hb7 HE5 HC6
      go_wp2_with fail
      refine HE6.out.mono ?_
      intro e w8 hq
      obtain ⟨rfl, hb8⟩ := saysQ_B hq
      have HB8 := hid (below_both HB7.out hb8)
      clear hq hb8 HE6
      go_wp2_with fail
      refine (HAW.out w8).mono ?_
      rintro e w9 ⟨rfl, hb9⟩
      have HB9 := hid (below_both HB8.out hb9)
      clear hb9
      go_wp2
      go_ret
      exact ⟨rfl, HB9.out⟩
end Go.Proofs.Ytbcnikmhodkbfaa
