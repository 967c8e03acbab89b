/- SameList. -/
import Derived.Test.YtcmmkeadbedooaaYa
namespace Go.Proofs.Ytcmmkeadbedooaa
open Go.RowKit Go.Lib


/-- A list of records with what their payloads read as. -/
def RL (w : World) (v : Value) (xs : List Rv) : Prop := (∀ x ∈ xs, Byt w x.d x.p) ∧ Arr w v 3 (xs.map cRv)
theorem RL.below {w w' : World} {v : Value} {xs : List Rv} (h : RL w v xs) (hb : Below w.heap.size w w') : RL w' v xs := ⟨fun x hx => (h.1 x hx).below hb, h.2.below hb⟩
theorem rl_of_own {w : World} {base : Nat} {v : Value} {vs : List Rv} (h : w.ownsRow base 27 3 v vs.length (vs.map cRv).flatten) (hp : ∀ x ∈ vs, Pay w x) : RL w v vs := by
  refine ⟨fun x hx => (hp x hx).byt, arr_of_own h (List.length_map ..) fun r hr => ?_⟩
  obtain ⟨s, hs, rfl⟩ := List.mem_map.1 hr
  rfl

set_option maxHeartbeats 4000000 in
set_option maxRecDepth 100000 in
theorem sameList_any (xs ys : List Rv) (v u : Value) (w : World) (hv : RL w v xs) (hu : RL w u ys) :
    Calls Try.prog 22 #[v, u] w fun e w' => e = .returned (.bool (decide (xs.map core = ys.map core))) ∧ Below w.heap.size w w' := by
  obtain ⟨hp1, C1, k1, rfl, hcap1, hcm1, b1, o1, hA1, hc1⟩ := hv
  obtain ⟨hp2, C2, k2, rfl, hcap2, hcm2, b2, o2, hA2, hc2⟩ := hu
  unfold maxLen at hcm1 hcm2
  rw [List.length_map] at hcap1 hA1 hcap2 hA2 ⊢
  rw [List.length_map]
  have HC1 := hid hc1
  have HC2 := hid hc2
  have HP1 := hid hp1
  have HP2 := hid hp2
  obtain ⟨L1, hL1⟩ : ∃ L1, xs.length = L1 := ⟨_, rfl⟩
  obtain ⟨L2, hL2⟩ : ∃ L2, ys.length = L2 := ⟨_, rfl⟩
  have HL1 := hid hL1
  have HL2 := hid hL2
  rw [hL1] at hcap1 hA1 ⊢
  rw [hL2] at hcap2 hA2 ⊢
  clear hc1 hc2 hp1 hp2 hL1 hL2
  by_cases hlen : L1 = L2
  · subst hlen
    have d1 : ((L1 : Int) != (L1 : Int)) = false := by simp
    go_enter Try.func22, Try.ntmps22
    go_wp2
    go_loopw [5] (fun i wr => ∃ k : Nat, k ≤ L1 ∧ i = .int .i64 (k : Int) ∧ Hid ((xs.map core).take k = (ys.map core).take k) ∧ Hid (Below w.heap.size w wr)) (fun i _ => L1 - (Go.RowKit.intOf i).toNat)
    case atStart => exact ⟨0, by omega, rfl, hid (by simp), hid (Below.refl _ _)⟩
    case round =>
      obtain ⟨k, hk, rfl, HT, HB⟩ := hrel
      by_cases hkl : k < L1
      · have hkl' : (k : Int) < (L1 : Int) := by omega
        obtain ⟨e1, hb1⟩ := hA1 (by omega)
        obtain ⟨e2, hb2⟩ := hA2 (by omega)
        subst e1 e2
        obtain ⟨x, hx⟩ : ∃ x, xs[k]? = some x := ⟨xs[k]'(by rw [HL1.out]; exact hkl), List.getElem?_eq_getElem _⟩
        obtain ⟨y, hy⟩ : ∃ y, ys[k]? = some y := ⟨ys[k]'(by rw [HL2.out]; exact hkl), List.getElem?_eq_getElem _⟩
        have hr1 : ∀ (j : Nat) (z : Value), (cRv x)[j]? = some z → wr.cell? ⟨b1, o1 + k * 3 + j, none⟩ = some z := fun j z hz => (HB.out.cell (p := ⟨b1, o1 + k * 3 + j, none⟩) hb1).trans (HC1.out k _ (by rw [List.getElem?_map, hx]; rfl) j z hz)
        have hr2 : ∀ (j : Nat) (z : Value), (cRv y)[j]? = some z → wr.cell? ⟨b2, o2 + k * 3 + j, none⟩ = some z := fun j z hz => (HB.out.cell (p := ⟨b2, o2 + k * 3 + j, none⟩) hb2).trans (HC2.out k _ (by rw [List.getElem?_map, hy]; rfl) j z hz)
        have HNEXT := hid (show core x = core y → (xs.map core).take (k + 1) = (ys.map core).take (k + 1) from fun h => by
          rw [List.take_add_one, List.take_add_one, HT.out, List.getElem?_map, List.getElem?_map, hx, hy]
          simp [h])
        have HDIFF := hid (show core x ≠ core y → decide (xs.map core = ys.map core) = false from fun h => decide_eq_false (fun e => by
          have := congrArg (fun l => l[k]?) e
          simp only [List.getElem?_map, hx, hy] at this
          exact h (by simpa using this)))
        have hpx := HP1.out x (List.mem_of_getElem? hx)
        have hpy := HP2.out y (List.mem_of_getElem? hy)
        clear hx hy
        obtain ⟨xk, xq, xd, xp⟩ := x
        obtain ⟨yk, yq, yd, yp⟩ := y
        dsimp only at hpx hpy
        have q0 : wr.cell? ⟨b1, o1 + k * 3, none⟩ = some (.int .i64 xk) := hr1 0 _ rfl
        have q1 : wr.cell? ⟨b1, o1 + k * 3 + 1, none⟩ = some (.int .i64 xq) := hr1 1 _ rfl
        have q2 : wr.cell? ⟨b1, o1 + k * 3 + 2, none⟩ = some xd := hr1 2 _ rfl
        have p0 : wr.cell? ⟨b2, o2 + k * 3, none⟩ = some (.int .i64 yk) := hr2 0 _ rfl
        have p1 : wr.cell? ⟨b2, o2 + k * 3 + 1, none⟩ = some (.int .i64 yq) := hr2 1 _ rfl
        have p2 : wr.cell? ⟨b2, o2 + k * 3 + 2, none⟩ = some yd := hr2 2 _ rfl
        obtain ⟨xA, xc, rfl⟩ := byt_form hpx
        obtain ⟨yA, yc, rfl⟩ := byt_form hpy
        obtain ⟨xn, hxn⟩ : ∃ xn, xp.length = xn := ⟨_, rfl⟩
        obtain ⟨yn, hyn⟩ : ∃ yn, yp.length = yn := ⟨_, rfl⟩
        rw [hxn] at hpx q2
        rw [hyn] at hpy p2
        have HS := hid (fun (X : World) (hX : Below w.heap.size w X) => same_any xk xq yk yq xp yp _ _ X (hpx.below hX) (hpy.below hX))
        obtain ⟨bb, hbb⟩ : ∃ bb, decide (xk = yk ∧ xq = yq ∧ xp = yp) = bb := ⟨_, rfl⟩
        rw [hbb] at HS
        have HCORE : Hid (bb = decide (core ⟨xk, xq, .slice xA xn xc, xp⟩ = core ⟨yk, yq, .slice yA yn yc, yp⟩)) := hid (by rw [← hbb]; unfold core; simp [Prod.ext_iff])
        clear hr1 hr2 hpx hpy hxn hyn hbb
        have hlt1 : b1 < wr.heap.size := Nat.lt_of_lt_of_le hb1 HB.out.size
        have hlt2 : b2 < wr.heap.size := Nat.lt_of_lt_of_le hb2 HB.out.size
        have HK := hid (fun (X : World) (hX : Below wr.heap.size wr X) => And.intro ((hX.cell (p := ⟨b1, o1 + k * 3, none⟩) hlt1).trans q0) (And.intro ((hX.cell (p := ⟨b1, o1 + k * 3 + 1, none⟩) hlt1).trans q1) (And.intro ((hX.cell (p := ⟨b1, o1 + k * 3 + 2, none⟩) hlt1).trans q2) (And.intro ((hX.cell (p := ⟨b2, o2 + k * 3, none⟩) hlt2).trans p0) (And.intro ((hX.cell (p := ⟨b2, o2 + k * 3 + 1, none⟩) hlt2).trans p1) ((hX.cell (p := ⟨b2, o2 + k * 3 + 2, none⟩) hlt2).trans p2))))))
        go_wp2_with fail
        go_region_held3 (fun X => X.cell? ⟨b1, o1 + k * 3, none⟩ = some (.int .i64 xk) ∧ X.cell? ⟨b1, o1 + k * 3 + 1, none⟩ = some (.int .i64 xq) ∧ X.cell? ⟨b1, o1 + k * 3 + 2, none⟩ = some (.slice xA xn xc) ∧ X.cell? ⟨b2, o2 + k * 3, none⟩ = some (.int .i64 yk) ∧ X.cell? ⟨b2, o2 + k * 3 + 1, none⟩ = some (.int .i64 yq) ∧ X.cell? ⟨b2, o2 + k * 3 + 2, none⟩ = some (.slice yA yn yc)) (go_keep)
          (first | (go_at_call 19; refine (HS.out wr.drew (below_both_drewN HB.out 1)).mono ?_; rintro e w2 ⟨rfl, hb2'⟩; have hb3 : Below wr.heap.size wr w2 := ⟨hb2'.os, hb2'.tape, hb2'.output, hb2'.size, hb2'.block⟩; have HB2 := hid (HB.out.trans (hb3.mono HB.out.size)); obtain ⟨q0, q1, q2, p0, p1, p2⟩ := HK.out w2 hb3; clear hb2' hb3))
        by_cases hbt : bb = true
        · subst hbt
          have HN := hid (HNEXT.out (of_decide_eq_true HCORE.out.symm))
          go_wp2_with fail
          go_roundw
          case rel => exact ⟨k + 1, by omega, by go_num, HN, HB2⟩
          case measure => simp [Go.RowKit.intOf]; omega
        · have hbf : bb = false := by simpa using hbt
          subst hbf
          have HN := hid (HDIFF.out (of_decide_eq_false HCORE.out.symm))
          go_wp2_with fail
          go_ret
          exact ⟨(congrArg (fun b => Ending.returned (Value.bool b)) HN.out).symm, HB2.out⟩
      · obtain rfl : k = L1 := by omega
        have hall : xs.map core = ys.map core := by
          have h := HT.out
          rwa [List.take_of_length_le (by rw [List.length_map, HL1.out]; omega), List.take_of_length_le (by rw [List.length_map, HL2.out]; omega)] at h
        have HD := hid (decide_eq_true hall)
        clear hall
        go_wp2
        go_ret
        exact ⟨(congrArg (fun b => Ending.returned (Value.bool b)) HD.out).symm, HB.out⟩
  · have d1 : ((L1 : Int) != (L2 : Int)) = true := by rw [bne_iff_ne]; omega
    have HD : Hid (decide (xs.map core = ys.map core) = false) := hid (decide_eq_false (fun e => hlen (by have := congrArg List.length e; rw [List.length_map, List.length_map, HL1.out, HL2.out] at this; exact this)))
    clear hlen
    go_enter Try.func22, Try.ntmps22
    go_wp2
    go_ret
    exact ⟨(congrArg (fun b => Ending.returned (Value.bool b)) HD.out).symm, Below.refl _ _⟩
end Go.Proofs.Ytcmmkeadbedooaa
