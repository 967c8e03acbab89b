/- ContainsFunc of ints; the walk of ImageMakes. -/
import Derived.Test.YtbcnikmhodkbfaaY
import Derived.Test.YtbcnikmhodkbfaaP
namespace Go.Proofs.Ytbcnikmhodkbfaa
open Go.RowKit Go.Lib

def Found (b : Bool) (w : World) (e : Ending) (w' : World) : Prop := ∃ r : Int, e = .returned (.int .i64 r) ∧ decide (0 ≤ r) = b ∧ Below w.heap.size w w'

set_option maxHeartbeats 2000000 in
set_option maxRecDepth 100000 in
theorem idxInt_any (xs : List Int) (p : Int → Bool) (u : Value) (w : World) (hu : Arr w u 1 (xs.map cInt))
    (hp : ∀ x ∈ xs, ∀ W : World, Calls Try.prog 13 #[.int .i64 x] W (SaysB (p x) W)) :
    Calls Try.prog 40 #[u, .func (.func 13) #[] #[]] w (Found (xs.any p) w) := by
  obtain ⟨C, cc, rfl, hcap, hcm, b, off, hA, hc⟩ := hu
  unfold maxLen at hcm
  rw [List.length_map] at hcap hA ⊢
  have HC := hid hc
  have HP := hid hp
  clear hc hp
  go_enter Try.func40, Try.ntmps40
  go_wp2
  go_loopw [8] (fun i wr => ∃ k : Nat, k ≤ xs.length ∧ i = .int .i64 (k : Int) ∧ Hid ((xs.take k).any p = false) ∧ Hid (Below w.heap.size w wr)) (fun i _ => xs.length - (Go.RowKit.intOf i).toNat)
  case atStart => exact ⟨0, by omega, rfl, hid (by simp), hid (Below.refl _ _)⟩
  case round =>
    obtain ⟨k, hk, rfl, HK, HB⟩ := hrel
    by_cases hkl : k < xs.length
    · obtain ⟨hA1, hb⟩ := hA (by omega)
      subst hA1
      obtain ⟨x, hxk⟩ : ∃ x, xs[k]? = some x := ⟨xs[k], List.getElem?_eq_getElem hkl⟩
      have hrow : ∀ (j : Nat) (v : Value), (cInt x)[j]? = some v → wr.cell? ⟨b, off + k * 1 + j, none⟩ = some v := fun j v hv =>
        (HB.out.cell (p := ⟨b, _, none⟩) hb).trans (HC.out k _ (by rw [List.getElem?_map, hxk]; rfl) j v hv)
      have HPx := hid (HP.out x (List.mem_of_getElem? hxk) wr)
      have hsn : xs.take (k + 1) = xs.take k ++ [x] := by
        obtain ⟨hk', rfl⟩ := List.getElem?_eq_some_iff.1 hxk
        rw [List.take_succ_eq_append_getElem hk']
      have hany : p x = true → xs.any p = true := fun h => List.any_eq_true.2 ⟨x, List.mem_of_getElem? hxk, h⟩
      have HSN := hid (fun h : p x = false => show (xs.take (k + 1)).any p = false by rw [hsn, List.any_append, HK.out]; simp [h])
      have HANY := hid hany
      obtain ⟨q, hq⟩ : ∃ q, p x = q := ⟨_, rfl⟩
      rw [hq] at HPx HSN HANY
      have c0 := hrow 0 _ rfl
      rw [Nat.add_zero, Nat.mul_one] at c0
      clear hq hxk hsn hany hrow
      rcases q with _ | _
      · have HSq := hid (HSN.out rfl)
        clear HANY HSN
        go_wp2_with fail
        refine HPx.out.mono ?_
        rintro e w1 ⟨rfl, hb1⟩
        have HB1 := hid (below_both HB.out hb1)
        clear hb1
        go_wp2
        go_roundw
        case rel => exact ⟨k + 1, by omega, by go_num, HSq, HB1⟩
        case measure => simp [Go.RowKit.intOf]; omega
      · have HAq := hid (HANY.out rfl)
        clear HSN HANY
        go_wp2_with fail
        refine HPx.out.mono ?_
        rintro e w1 ⟨rfl, hb1⟩
        have HB1 := hid (below_both HB.out hb1)
        clear hb1
        go_wp2
        go_ret
        exact ⟨(k : Int), rfl, by rw [HAq.out]; simp, HB1.out⟩
    · obtain rfl : k = xs.length := by omega
      have HE : Hid (xs.any p = false) := hid (by have h := HK.out; rwa [List.take_length] at h)
      go_wp2
      go_ret
      exact ⟨-1, rfl, by rw [HE.out]; simp, HB.out⟩

set_option maxHeartbeats 2000000 in
set_option maxRecDepth 100000 in
theorem conInt_any (xs : List Int) (p : Int → Bool) (u : Value) (w : World) (hu : Arr w u 1 (xs.map cInt))
    (hp : ∀ x ∈ xs, ∀ W : World, Calls Try.prog 13 #[.int .i64 x] W (SaysB (p x) W)) :
    Calls Try.prog 12 #[u, .func (.func 13) #[] #[]] w (SaysB (xs.any p) w) := by
  have HI := hid (idxInt_any xs p u w hu hp)
  obtain ⟨A, c, rfl⟩ := arr_form hu
  rw [List.length_map] at HI ⊢
  obtain ⟨q, hq⟩ : ∃ q, xs.any p = q := ⟨_, rfl⟩
  rw [hq] at HI ⊢
  clear hu hp hq
  go_enter Try.func12, Try.ntmps12
  go_wp2_with fail
  refine HI.out.mono ?_
  rintro e w1 ⟨r, rfl, hr, hb⟩
  have HB := hid hb
  clear hb
  go_wp2
  go_ret
  exact ⟨rfl, HB.out⟩

def bigB (x : Int) : Bool := decide (100 < x) && decide (x < 4096)
set_option maxHeartbeats 1000000 in
theorem big_any (x : Int) (W : World) : Calls Try.prog 13 #[.int .i64 x] W (SaysB (bigB x) W) := by
  unfold bigB
  by_cases h1 : 100 < x
  · have d1 : decide (100 < x) = true := by simpa using h1
    obtain ⟨q, hq⟩ : ∃ q, decide (x < 4096) = q := ⟨_, rfl⟩
    rw [d1, hq]
    clear h1
    go_enter Try.func13, Try.ntmps13
    go_wp2
    go_ret
    exact ⟨by simp, Below.refl _ _⟩
  · have d1 : decide (100 < x) = false := by simpa using h1
    rw [d1]
    clear h1
    go_enter Try.func13, Try.ntmps13
    go_wp2
    go_ret
    exact ⟨rfl, Below.refl _ _⟩
theorem img_none (w : World) : Img w (.slice none 0 0) [] := ⟨fun x hx => (by cases hx), arr_nil _ _⟩
theorem newQ_use {w w' : World} {l : List Int} {e : Ending} (h : NewQ w l e w') : ∃ A n c ys, e = .returned (.tuple #[.slice A n c, .int .i64 (chkS l)]) ∧ Img w' (.slice A n c) ys ∧ con ys = (if chkS l = 0 then l.map fun x => List.replicate x.toNat zs else []) ∧ Below w.heap.size w w' := by
  obtain ⟨hb, ⟨h0, rfl⟩ | ⟨h0, g, ys, rfl, hc, ho⟩⟩ := h
  · rw [if_neg h0]
    exact ⟨none, 0, 0, [], rfl, img_none _, rfl, hb⟩
  · rw [if_pos h0, h0]
    have hl : ys.length = l.length := by rw [← con_len, hc, List.length_map]
    exact ⟨_, _, _, ys, rfl, img_of_own ho (by have := (chk_sizes h0).1; omega), hc, hb⟩
theorem refNewQ_use {w w' : World} {l : List Int} {e : Ending} (h : RefNewQ w l e w') : ∃ A n c ys, e = .returned (.tuple #[.slice A n c, .int .i64 (chkS l)]) ∧ Img w' (.slice A n c) ys ∧ con ys = (if chkS l = 0 then l.map fun x => List.replicate x.toNat zs else []) ∧ Below w.heap.size w w' := by
  obtain ⟨hb, ⟨h0, rfl⟩ | ⟨h0, r, ys, rfl, hc, ho⟩⟩ := h
  · rw [if_neg h0]
    exact ⟨none, 0, 0, [], rfl, img_none _, rfl, hb⟩
  · rw [if_pos h0, h0]
    obtain ⟨A, c, rfl⟩ := ownAny_form ho.1
    exact ⟨_, _, _, ys, rfl, img_of_ownV ho, hc, hb⟩
set_option maxHeartbeats 4000000 in
set_option maxRecDepth 100000 in
theorem makes_any (l : List Int) (xs : List Vol) (v u : Value) (w : World) (hv : Arr w v 1 (l.map cInt)) (hu : Img w u xs) :
    Calls Try.prog 3 #[v, u] w fun e w' => e = .returned (.bool true) ∧ Below w.heap.size w w' := by
  have HAW := hid (fun W => awake_any W)
  have HF := hid (few_any xs u w hu)
  have HCN := hid (conInt_any l bigB v w hv (fun x _ W => big_any x W))
  have HNW := hid (fun W (hb : Below w.heap.size w W) => new_any l v W (hv.below hb))
  have HRN := hid (fun W (hb : Below w.heap.size w W) => refNew_any l v W (hv.below hb))
  have HCK : Hid (xs.length ≤ 1000 → ∀ W, Below w.heap.size w W → Calls Try.prog 18 #[u] W fun e w' => e = .returned (.int .i64 (chkS (siz (con xs)))) ∧ Below W.heap.size W w') := hid (fun h W hb => check_any xs u W (hu.below hb) h)
  have HRK : Hid (xs.length ≤ 1000 → ∀ W, Below w.heap.size w W → Calls Try.prog 19 #[u] W fun e w' => e = .returned (.int .i64 (chkS (siz (con xs)))) ∧ Below W.heap.size W w') := hid (fun h W hb => refCheck_any xs u W (hu.below hb) h)
  obtain ⟨A, ca, rfl⟩ := arr_form hv
  obtain ⟨B, cb, rfl⟩ := img_form hu
  rw [List.length_map] at HCN HNW HRN ⊢
  obtain ⟨n, hn⟩ : ∃ n, l.length = n := ⟨_, rfl⟩
  obtain ⟨m, hm⟩ : ∃ m, xs.length = m := ⟨_, rfl⟩
  rw [hn] at HCN HNW HRN ⊢
  rw [hm] at HF HCK HRK ⊢
  obtain ⟨q, hq⟩ : ∃ q, fewV (con xs) = q := ⟨_, rfl⟩
  rw [hq] at HF
  obtain ⟨q2, hq2⟩ : ∃ q2, l.any bigB = q2 := ⟨_, rfl⟩
  rw [hq2] at HCN
  have HM : Hid (q = true → m ≤ 1000) := hid (fun h => by
    rw [h] at hq
    unfold fewV at hq
    rw [con_len, hm, Bool.and_eq_true] at hq
    have := of_decide_eq_true hq.1
    omega)
  obtain ⟨ck, hck⟩ : ∃ ck, chkS (siz (con xs)) = ck := ⟨_, rfl⟩
  rw [hck] at HCK HRK
  clear hv hu hn hm hq hq2 hck
  go_enter Try.func3, Try.ntmps3
  rcases q with _ | _
  · go_wp2_with fail
    refine HF.out.mono ?_
    rintro e w1 ⟨rfl, rfl⟩
    go_wp2_with fail
    refine (HAW.out w).mono ?_
    rintro e w2 ⟨rfl, hb2⟩
    have HB2 := hid hb2
    clear hb2
    go_wp2
    go_ret
    exact ⟨rfl, HB2.out⟩
  · have HCK2 := hid (HCK.out (HM.out rfl))
    have HRK2 := hid (HRK.out (HM.out rfl))
    clear HCK HRK
    by_cases h20 : n ≤ 20
    · have d1 : decide ((20 : Int) < (n : Int)) = false := by simp; omega
      clear h20
      rcases q2 with _ | _
      · go_wp2_with fail
        refine HF.out.mono ?_
        rintro e w1 ⟨rfl, rfl⟩
        go_wp2_with fail
        refine HCN.out.mono ?_
        rintro e w1 ⟨rfl, hb1⟩
        have HB1 := hid hb1
        have HN1 := hid (HNW.out w1 hb1)
        clear hb1
        go_wp2_with fail
        refine HN1.out.mono ?_
        rintro e w2 hq
        obtain ⟨A1, n1, k1, ys1, rfl, hi1, hc1, hb2⟩ := newQ_use hq
        have HB2 := hid (below_both HB1.out hb2)
        have HI1 := hid hi1
        have HC1 := hid hc1
        have HN2 := hid (HRN.out w2 HB2.out)
        clear hq hi1 hc1 hb2 HN1
        go_wp2_with fail
        refine HN2.out.mono ?_
        rintro e w3 hq
        obtain ⟨A2, n2, k2, ys2, rfl, hi2, hc2, hb3⟩ := refNewQ_use hq
        have HB3 := hid (below_both HB2.out hb3)
        have HS := hid (refSame_any ys1 ys2 _ _ w3 (HI1.out.below hb3) hi2)
        rw [decide_eq_true (HC1.out.trans hc2.symm)] at HS
        clear hq hi2 hc2 hb3 HN2 HI1 HC1
        obtain ⟨r, hr⟩ : ∃ r, chkS l = r := ⟨_, rfl⟩
        rw [hr]
        clear hr
        go_wp2_with fail
        refine HS.out.mono ?_
        rintro e w4 ⟨rfl, hb4⟩
        have HB4 := hid (below_both HB3.out hb4)
        have HK1 := hid (HCK2.out w4 HB4.out)
        clear hb4 HS
        go_wp2_with fail
        refine HK1.out.mono ?_
        rintro e w5 ⟨rfl, hb5⟩
        have HB5 := hid (below_both HB4.out hb5)
        have HK2 := hid (HRK2.out w5 HB5.out)
        clear hb5 HK1
        go_wp2_with fail
        refine HK2.out.mono ?_
        rintro e w6 ⟨rfl, hb6⟩
        have HB6 := hid (below_both HB5.out hb6)
        clear hb6 HK2
        go_wp2_with fail
        refine (HAW.out w6).mono ?_
        rintro e w7 ⟨rfl, hb7⟩
        have HB7 := hid (below_both HB6.out hb7)
        clear hb7
        go_wp2
        go_ret
        exact ⟨rfl, HB7.out⟩
      · go_wp2_with fail
        refine HF.out.mono ?_
        rintro e w1 ⟨rfl, rfl⟩
        go_wp2_with fail
        refine HCN.out.mono ?_
        rintro e w1 ⟨rfl, hb1⟩
        have HB1 := hid hb1
        clear hb1
        go_wp2_with fail
        refine (HAW.out w1).mono ?_
        rintro e w2 ⟨rfl, hb2⟩
        have HB2 := hid (below_both HB1.out hb2)
        clear hb2
        go_wp2
        go_ret
        exact ⟨rfl, HB2.out⟩
    · have d1 : decide ((20 : Int) < (n : Int)) = true := by simp; omega
      clear h20
      go_wp2_with fail
      refine HF.out.mono ?_
      rintro e w1 ⟨rfl, rfl⟩
      go_wp2_with fail
      refine (HAW.out w).mono ?_
      rintro e w2 ⟨rfl, hb2⟩
      have HB2 := hid hb2
      clear hb2
      go_wp2
      go_ret
      exact ⟨rfl, HB2.out⟩
end Go.Proofs.Ytbcnikmhodkbfaa
