/- The law BitmapOrders is walked: the list backwards. -/
import Derived.Test.YtbifhcjkdfocaaaDoorQc
import Derived.OwnWalk
import Derived.Deep.RegionHeld3
import Derived.Deep.QuietTactic
import Derived.BigQuiet
import Derived.IntWalk
namespace Go.Proofs.YtbifhcjkdfocaaaDoor
open Go.RowKit

theorem int_eq {a b : Int} (h : a = b) : Value.int .i64 a = .int .i64 b := by rw [h]
theorem fitAll_rev (s : Int) (l : List (Int × Int)) : fitAll s l.reverse = fitAll s l := by unfold fitAll; rw [List.all_reverse]
theorem feErr_rev (s : Int) (l : List (Int × Int)) : feErr s l.reverse = feErr s l := by unfold feErr; rw [fitAll_rev]
theorem inL_rev (l : List (Int × Int)) (i : Nat) : inL l.reverse i = inL l i := by unfold inL; rw [List.any_reverse]
/-- What has been collected from the end on, j extents being left. -/
def bk (l : List (Int × Int)) (j : Nat) : List (Int × Int) := (l.drop j).reverse
theorem bk_step {l : List (Int × Int)} {k : Nat} {e : Int × Int} (h : l[k]? = some e) : bk l k = bk l (k + 1) ++ [e] := by
  unfold bk
  obtain ⟨hk, he⟩ := List.getElem?_eq_some_iff.1 h
  rw [List.drop_eq_getElem_cons hk, List.reverse_cons, he]
theorem bk_length (l : List (Int × Int)) (j : Nat) : (bk l j).length = l.length - j := by unfold bk; rw [List.length_reverse, List.length_drop]
/-- The counter of the loop, j extents being left. -/
def ctr (j : Nat) (i : Value) : Prop := j = 0 ∧ i = .int .i64 (-1) ∨ ∃ k : Nat, j = k + 1 ∧ i = .int .i64 (k : Int)

theorem fitsB_mem {N : Int} {l : List (Int × Int)} {k : Nat} {a c : Int} (h : fitAll N l = true) (he : l[k]? = some (a, c)) : fitsB a c N = true := by
  unfold fitAll at h
  rw [List.all_eq_true] at h
  exact h (a, c) (List.mem_of_getElem? he)
theorem inL_mem {l : List (Int × Int)} {k i : Nat} {a c : Int} (he : l[k]? = some (a, c)) (h : a ≤ (i : Int) ∧ (i : Int) < a + c) : inL l i = true := by
  unfold inL
  rw [List.any_eq_true]
  exact ⟨(a, c), List.mem_of_getElem? he, decide_eq_true h⟩
theorem clear_ok {N : Nat} {us : List Nat} {l : List (Int × Int)} {a c : Int} (hg : Good (N : Int) us) (h : fitAll (N : Int) l = true) (he : l[0]? = some (a, c)) : chgErr (N : Int) us a c = 0 := by
  rw [chg_good (chk_good hg)]
  exact feErr_ok hg.low hg.high (by simp [fitAll, fitsB_mem h he])
/-- What Clear hands back at w', w8 being a world of before. -/
def Cleared (N : Nat) (us : List Nat) (a c : Int) (w8 W : World) (e : Ending) (w' : World) : Prop :=
  ∃ us9 A9 c9, e = .returned (.tuple #[.agg #[.int .i64 (N : Int), .slice A9 us9.length c9], .int .i64 0]) ∧ Bm w' (.agg #[.int .i64 (N : Int), .slice A9 us9.length c9]) (N : Int) us9 ∧
    (Good (N : Int) us9 ∧ ∀ i : Nat, (i : Int) < (N : Int) → bit us9 i = (bit us i && !inL [(a, c)] i)) ∧ Below w8.heap.size w8 w' ∧ Below W.heap.size W w'
theorem clear_at {N : Nat} {us : List Nat} {a c : Int} {w8 W : World} {args : Array Value} (h : Below w8.heap.size w8 W) (he : chgErr (N : Int) us a c = 0) (hc : Calls Tryd.prog 26 args W (MadeB W (chgErr (N : Int) us a c) (N : Int) fun i => bit us i && !inL [(a, c)] i)) : Calls Tryd.prog 26 args W (Cleared N us a c w8 W) := by
  rw [he] at hc
  refine hc.mono fun e w' hm => ?_
  obtain ⟨S, us9, A9, c9, rfl, hS, hbm, _, hif, hb⟩ := made_open hm
  rw [if_pos rfl] at hS hif
  subst hS
  exact ⟨us9, A9, c9, rfl, hbm, hif, below_both h hb, hb⟩

set_option maxHeartbeats 2000000 in
set_option maxRecDepth 100000 in
theorem orders_walk (N : Nat) (size : Int) (l : List (Int × Int)) (vl : Value) (w : World) (hvl : Ext w vl l) (hT : Tab w) (hs0 : 0 ≤ size) (_hs1 : size ≤ 65535) (hN : size % 1200 = N) :
    Calls Tryd.prog 10 #[.int .u16 size, vl] w fun e w' => e = .returned (.bool true) ∧ Below w.heap.size w w' := by
  have hll := ext_len hvl
  have HVL := hid hvl
  have HT := hid hT
  have hN2 : N < 1200 := by omega
  have hm : Int.tmod size 1200 = (N : Int) := by rw [Int.tmod_eq_emod_of_nonneg hs0]; exact hN
  obtain ⟨i0, hinf, hz0, hz1, hz2⟩ := info_parts info39
  obtain ⟨L, cl, rfl⟩ := ext_form hvl
  clear hvl hT
  have HAW := hid (fun W (h : Below w.heap.size w W) => awake_any W (HT.out.below h))
  by_cases hl : l.length ≤ 12
  · obtain ⟨hR, A5, cp, hve, hcp, hcm, b, off, hA, hc⟩ := HVL.out
    injection hve with e1 e2 e3
    subst e1
    subst e3
    have HR := hid hR
    have HC := hid hc
    clear hR hc
    go_enter Tryd.func10, Tryd.ntmps10
    go_wp2
    go_loopw [6, 7] (fun v i wr => ∃ (j n : Nat), j + n = l.length ∧ Hid (ctr j i) ∧ Hid (wr.ownsRow w.heap.size 39 2 v n (xflat (bk l j))) ∧ Hid (Below w.heap.size w wr)) (fun _ i _ => (intOf i + 1).toNat)
    case atStart => exact ⟨l.length, 0, by omega, hid (by
      rcases Nat.eq_zero_or_pos l.length with h | h
      · exact .inl ⟨h, int_eq (by omega)⟩
      · exact .inr ⟨l.length - 1, by omega, int_eq (by omega)⟩), hid (by
      rw [show bk l l.length = [] by unfold bk; rw [List.drop_length]; rfl]
      exact World.ownsRow_nil _ _ _ _), hid (Below.refl _ _)⟩
    case round =>
      obtain ⟨j, n, hjn, HI, HO, HB⟩ := hrel
      have hBs := HB.out.size
      rcases HI.out with ⟨rfl, rfl⟩ | ⟨k, rfl, rfl⟩
      · obtain ⟨av, cv, rfl⟩ := own_form HO.out
        have hnl : n = l.length := by omega
        subst hnl
        have HBK : Hid (Ext wr (.slice av l.length cv) l.reverse) := hid (by
          have h := HO.out
          have e : bk l 0 = l.reverse := by unfold bk; rw [List.drop_zero]
          rw [e] at h
          exact ext_of_own (by rw [List.length_reverse]; exact h) (fun x hx => HR.out x (List.mem_reverse.1 hx)))
        have HC1 := hid (fun W (h : Below wr.heap.size wr W) => fromExtents_any (N : Int) l _ W ((HVL.out.below HB.out).below h))
        have HC2 := hid (fun W (h : Below wr.heap.size wr W) => fromExtents_any (N : Int) l.reverse _ W (HBK.out.below h))
        rw [feErr_rev, show (fun i => inL l.reverse i) = (fun i => inL l i) from funext (inL_rev l)] at HC2
        have HFE := hid (feErr_cases (N : Int) l)
        have HFA := hid (show feErr (N : Int) l = 0 → fitAll (N : Int) l = true from fun h => by
          unfold feErr at h
          by_cases k : 0 ≤ (N : Int) ∧ (N : Int) ≤ 4096 ∧ fitAll (N : Int) l = true
          · exact k.2.2
          · rw [if_neg k] at h; omega)
        obtain ⟨er, her⟩ : ∃ er, feErr (N : Int) l = er := ⟨_, rfl⟩
        rw [her] at HC1 HC2 HFE HFA
        clear her HO hjn HI
        rcases HFE.out with rfl | rfl
        · by_cases hl0 : l.length = 0
          · have dl : ((l.length : Int) == 0) = true := by rw [hl0]; rfl
            clear hl0
            go_wp2_with fail
            refine (HC1.out _ (Below.refl _ _)).mono ?_
            intro e w4 hm
            obtain ⟨S1, us1, A1, c1, rfl, hS1, hbm1, hl1, hif1, hb⟩ := made_open hm
            replace HB := hid (below_both HB.out hb)
            have HW4 := hid hb
            have M1 := hid hbm1
            have HS1 := hid hS1
            have HIF1 := hid hif1
            clear hb hm hbm1 hS1 hif1
            go_wp2_with fail
            obtain ⟨w5, heq⟩ : ∃ X, w4.alloc (.cells #[.int .i64 S1, .slice A1 us1.length c1] 24) = X := ⟨_, rfl⟩
            have hb : Below w4.heap.size w4 w5 := by rw [← heq]; exact al1 _ _
            replace M1 := hid (M1.out.below hb)
            replace HB := hid (below_both HB.out hb)
            have HW5 := hid hb
            have B1 : Hid (Box w5 w4.heap.size S1 A1 us1.length c1) := hid (by rw [← heq]; exact box_new _ _ _ _ _)
            rw [heq]
            clear hb heq
            obtain ⟨B1c0, B1c1, B1c2⟩ := B1.out.facts
            refine (HC2.out _ (below_both HW4.out HW5.out)).mono ?_
            intro e w6 hm
            obtain ⟨A1', c1', rfl, hbm1, hb⟩ := made_again hm HS1.out HIF1.out M1.out.2.1
            replace B1 := hid (B1.out.below hb)
            replace M1 := hid (M1.out.below hb)
            replace HB := hid (below_both HB.out hb)
            clear B1c0 B1c1 B1c2
            obtain ⟨B1c0, B1c1, B1c2⟩ := B1.out.facts
            have M1' := hid hbm1
            clear hb hm hbm1
            go_wp2_with fail
            obtain ⟨w7, heq⟩ : ∃ X, w6.alloc (.cells #[.int .i64 S1, .slice A1' us1.length c1'] 24) = X := ⟨_, rfl⟩
            have hb : Below w6.heap.size w6 w7 := by rw [← heq]; exact al1 _ _
            replace B1 := hid (B1.out.below hb)
            replace M1 := hid (M1.out.below hb)
            replace M1' := hid (M1'.out.below hb)
            replace HB := hid (below_both HB.out hb)
            have B2 : Hid (Box w7 w6.heap.size S1 A1' us1.length c1') := hid (by rw [← heq]; exact box_new _ _ _ _ _)
            rw [heq]
            clear hb heq
            clear B1c0 B1c1 B1c2
            obtain ⟨B1c0, B1c1, B1c2⟩ := B1.out.facts
            obtain ⟨B2c0, B2c1, B2c2⟩ := B2.out.facts
            refine (same_true S1 us1 _ _ _ M1.out M1'.out hl1).mono ?_
            rintro e w8 ⟨rfl, hb⟩
            replace B1 := hid (B1.out.below hb)
            replace B2 := hid (B2.out.below hb)
            replace M1 := hid (M1.out.below hb)
            replace M1' := hid (M1'.out.below hb)
            replace HB := hid (below_both HB.out hb)
            clear B1c0 B1c1 B1c2
            clear B2c0 B2c1 B2c2
            obtain ⟨B1c0, B1c1, B1c2⟩ := B1.out.facts
            obtain ⟨B2c0, B2c1, B2c2⟩ := B2.out.facts
            clear hb
            go_wp2_with fail
            refine (HAW.out _ HB.out).mono ?_
            rintro e w9 ⟨rfl, hb⟩
            replace B1 := hid (B1.out.below hb)
            replace B2 := hid (B2.out.below hb)
            replace M1 := hid (M1.out.below hb)
            replace M1' := hid (M1'.out.below hb)
            replace HB := hid (below_both HB.out hb)
            clear B1c0 B1c1 B1c2
            clear B2c0 B2c1 B2c2
            obtain ⟨B1c0, B1c1, B1c2⟩ := B1.out.facts
            obtain ⟨B2c0, B2c1, B2c2⟩ := B2.out.facts
            clear hb
            go_wp2_with fail
            refine (same_true S1 us1 _ _ _ M1.out M1'.out hl1).mono ?_
            rintro e w10 ⟨rfl, hb⟩
            replace B1 := hid (B1.out.below hb)
            replace B2 := hid (B2.out.below hb)
            replace M1 := hid (M1.out.below hb)
            replace M1' := hid (M1'.out.below hb)
            replace HB := hid (below_both HB.out hb)
            clear B1c0 B1c1 B1c2
            clear B2c0 B2c1 B2c2
            obtain ⟨B1c0, B1c1, B1c2⟩ := B1.out.facts
            obtain ⟨B2c0, B2c1, B2c2⟩ := B2.out.facts
            clear hb
            go_wp2
            go_ret
            exact ⟨rfl, HB.out⟩
          · have HL0 := hid (show 0 < l.length by omega)
            have dl : ((l.length : Int) == 0) = false := by rw [beq_eq_false_iff_ne]; omega
            clear hl0
            go_wp2_with fail
            refine (HC1.out _ (Below.refl _ _)).mono ?_
            intro e w4 hm
            obtain ⟨S1, us1, A1, c1, rfl, hS1, hbm1, hl1, hif1, hb⟩ := made_open hm
            replace HB := hid (below_both HB.out hb)
            have HW4 := hid hb
            have M1 := hid hbm1
            have HS1 := hid hS1
            have HIF1 := hid hif1
            clear hb hm hbm1 hS1 hif1
            go_wp2_with fail
            obtain ⟨w5, heq⟩ : ∃ X, w4.alloc (.cells #[.int .i64 S1, .slice A1 us1.length c1] 24) = X := ⟨_, rfl⟩
            have hb : Below w4.heap.size w4 w5 := by rw [← heq]; exact al1 _ _
            replace M1 := hid (M1.out.below hb)
            replace HB := hid (below_both HB.out hb)
            have HW5 := hid hb
            have B1 : Hid (Box w5 w4.heap.size S1 A1 us1.length c1) := hid (by rw [← heq]; exact box_new _ _ _ _ _)
            rw [heq]
            clear hb heq
            obtain ⟨B1c0, B1c1, B1c2⟩ := B1.out.facts
            refine (HC2.out _ (below_both HW4.out HW5.out)).mono ?_
            intro e w6 hm
            obtain ⟨A1', c1', rfl, hbm1, hb⟩ := made_again hm HS1.out HIF1.out M1.out.2.1
            replace B1 := hid (B1.out.below hb)
            replace M1 := hid (M1.out.below hb)
            replace HB := hid (below_both HB.out hb)
            clear B1c0 B1c1 B1c2
            obtain ⟨B1c0, B1c1, B1c2⟩ := B1.out.facts
            have M1' := hid hbm1
            clear hb hm hbm1
            go_wp2_with fail
            obtain ⟨w7, heq⟩ : ∃ X, w6.alloc (.cells #[.int .i64 S1, .slice A1' us1.length c1'] 24) = X := ⟨_, rfl⟩
            have hb : Below w6.heap.size w6 w7 := by rw [← heq]; exact al1 _ _
            replace B1 := hid (B1.out.below hb)
            replace M1 := hid (M1.out.below hb)
            replace M1' := hid (M1'.out.below hb)
            replace HB := hid (below_both HB.out hb)
            have B2 : Hid (Box w7 w6.heap.size S1 A1' us1.length c1') := hid (by rw [← heq]; exact box_new _ _ _ _ _)
            rw [heq]
            clear hb heq
            clear B1c0 B1c1 B1c2
            obtain ⟨B1c0, B1c1, B1c2⟩ := B1.out.facts
            obtain ⟨B2c0, B2c1, B2c2⟩ := B2.out.facts
            refine (same_true S1 us1 _ _ _ M1.out M1'.out hl1).mono ?_
            rintro e w8 ⟨rfl, hb⟩
            replace B1 := hid (B1.out.below hb)
            replace B2 := hid (B2.out.below hb)
            replace M1 := hid (M1.out.below hb)
            replace M1' := hid (M1'.out.below hb)
            replace HB := hid (below_both HB.out hb)
            clear B1c0 B1c1 B1c2
            clear B2c0 B2c1 B2c2
            obtain ⟨B1c0, B1c1, B1c2⟩ := B1.out.facts
            obtain ⟨B2c0, B2c1, B2c2⟩ := B2.out.facts
            clear hb
            clear B2 M1' B2c0 B2c1 B2c2 HC1 HC2 HW4 HW5 HBK HFE
            obtain ⟨hA1, hbl⟩ := hA (by have := HL0.out; omega)
            subst hA1
            obtain ⟨⟨a, c⟩, he⟩ : ∃ e, l[0]? = some e := ⟨l[0]'(by have := HL0.out; omega), List.getElem?_eq_getElem (by have := HL0.out; omega)⟩
            have hc1 := (HB.out.cell (p := ⟨b, off + 0 * 2, none⟩) hbl).trans (HC.out 0 _ he).1
            have hc2 := (HB.out.cell (p := ⟨b, off + 0 * 2 + 1, none⟩) hbl).trans (HC.out 0 _ he).2
            rw [Nat.zero_mul, Nat.add_zero] at hc1 hc2
            dsimp only at hc1 hc2
            have hrac := HR.out _ (List.mem_of_getElem? he)
            have HRAC := hid hrac
            have HE := hid he
            obtain rfl : S1 = (N : Int) := by simpa using HS1.out
            have hgb : Good (N : Int) us1 ∧ ∀ i : Nat, (i : Int) < (N : Int) → bit us1 i = inL l i := by simpa using HIF1.out
            have HGB := hid hgb
            have hfall := HFA.out trivial
            have hclr := clear_ok hgb.1 (HFA.out trivial) he
            have HCL := hid (fun W (h : Below w8.heap.size w8 W) => clear_at h hclr (clear_any (N : Int) a c us1 _ W (M1.out.below h) HRAC.out.1 HRAC.out.2))
            clear hgb hclr HIF1 HS1 HFA
            have h0l := HL0.out
            clear dl
            have hl12 := HC.out 0 _ he
            rw [Nat.zero_mul, Nat.add_zero] at hl12
            have HL12 := hid hl12
            have hfit := fitsB_mem hfall he
            have HFIT : Hid (0 ≤ a ∧ 0 ≤ c ∧ c ≤ (N : Int) - a) := hid (by unfold fitsB at hfit; exact of_decide_eq_true hfit)
            clear hl12 hfit hfall
            have HAL := hid (al1 w8 (.cells #[.int .i64 0, .slice none 0 0] 24))
            have hb8 : b < w8.heap.size := Nat.lt_of_lt_of_le hbl HB.out.size
            have n1 : b ≠ w8.heap.size := by omega
            have n2 : w8.heap.size ≠ b := by omega
            have n3 : w4.heap.size ≠ w8.heap.size := by omega
            have n4 : w8.heap.size ≠ w4.heap.size := by omega
            clear he hrac
            go_wp2_with fail
            go_region_held3 (fun W => W.cell? ⟨w4.heap.size, 0, none⟩ = some (.int .i64 (N : Int)) ∧ W.cell? ⟨w4.heap.size, 1, none⟩ = some (.slice A1 us1.length c1) ∧ W.cell? ⟨b, off, none⟩ = some (.int .i64 a) ∧ W.cell? ⟨b, off + 1, none⟩ = some (.int .i64 c))
              (go_keep)
              (first | (go_at_call 26; refine (HCL.out w8.drew ⟨rfl, rfl, rfl, Nat.le_refl _, fun _ _ => rfl⟩).mono ?_; rintro e w10 ⟨us9, A9, c9, rfl, hbm9, hif9, hb9, hw9⟩; have M9 := hid hbm9; have x0 := (hb9.cell (p := ⟨w4.heap.size, 0, none⟩) B1c2).trans B1c0; have x1 := (hb9.cell (p := ⟨w4.heap.size, 1, none⟩) B1c2).trans B1c1; have x2 := (hb9.cell (p := ⟨b, off, none⟩) hb8).trans hc1; have x3 := (hb9.cell (p := ⟨b, off + 1, none⟩) hb8).trans hc2; have HIF9 := hid hif9; have HB9 := hid hb9; clear hbm9 hif9 hb9 hw9) | (go_at_call 26; refine (HCL.out (w8.alloc (.cells #[.int .i64 0, .slice none 0 0] 24)).drew ⟨HAL.out.os, HAL.out.tape, HAL.out.output, HAL.out.size, HAL.out.block⟩).mono ?_; rintro e w10 ⟨us9, A9, c9, rfl, hbm9, hif9, hb9, hw9⟩; have M9 := hid hbm9; have x0 := (hb9.cell (p := ⟨w4.heap.size, 0, none⟩) B1c2).trans B1c0; have x1 := (hb9.cell (p := ⟨w4.heap.size, 1, none⟩) B1c2).trans B1c1; have x2 := (hb9.cell (p := ⟨b, off, none⟩) hb8).trans hc1; have x3 := (hb9.cell (p := ⟨b, off + 1, none⟩) hb8).trans hc2; have HIF9 := hid hif9; have HB9 := hid hb9; have hz9 : w10.heap[w8.heap.size]? = some (.cells #[.int .i64 0, .slice none 0 0] 24 (0, 0)) := (hw9.block w8.heap.size (by simp)).trans (heap_alloc_new w8 _); have y0 := cell_of_row _ _ 0 _ _ _ hz9; have y1 := cell_of_row _ _ 1 _ _ _ hz9; have fz0 := frozen_of_row _ _ 0 _ _ hz9; have fz1 := frozen_of_row _ _ 1 _ _ hz9; simp at y0 y1; have HZ9 := hid hz9; clear hbm9 hif9 hb9 hw9 hz9))
            · obtain ⟨W11, hW11⟩ : ∃ W11, w10.alloc (.cells #[.int .i64 (N : Int), .slice A9 us9.length c9] 24) = W11 := ⟨_, rfl⟩
              have hal : Below w10.heap.size w10 W11 := by rw [← hW11]; exact al1 _ _
              have BZ : Hid (Box W11 w10.heap.size (N : Int) A9 us9.length c9) := by rw [← hW11]; exact hid (box_new _ _ _ _ _)
              have BX : Hid (Box W11 w4.heap.size (N : Int) A1 us1.length c1) := hid ((B1.out.below HB9.out).below hal)
              have MX := hid ((M1.out.below HB9.out).below hal)
              have MZ := hid (M9.out.below hal)
              have HBW := hid (below_both (below_both HB.out HB9.out) hal)
              rw [hW11]
              obtain ⟨gz, hgz⟩ : ∃ gz, w10.heap.size = gz := ⟨_, rfl⟩
              rw [hgz] at BZ ⊢
              clear hW11 hal hgz x0 x1 x2 x3 B1 M1 M9 HB9 HB B1c0 B1c1 B1c2 hc1 hc2 n1 n2 n3 n4
              go_wp2
              go_loopw [14] (fun i wr => ∃ k : Nat, k ≤ N ∧ i = .int .i64 (k : Int) ∧ Hid (Below W11.heap.size W11 wr)) (fun i _ => N - (intOf i).toNat)
              case atStart => exact ⟨0, by omega, rfl, hid (Below.refl _ _)⟩
              case round =>
                obtain ⟨k, hk, rfl, HX⟩ := hrel
                by_cases hkN : k < N
                · have hkI : (k : Int) < (N : Int) := by omega
                  have hbW : b < W11.heap.size := Nat.lt_of_lt_of_le hbl HBW.out.size
                  have hy1 := (HX.out.cell (p := ⟨b, off, none⟩) hbW).trans ((HBW.out.cell (p := ⟨b, off, none⟩) hbl).trans HL12.out.1)
                  have hy2 := (HX.out.cell (p := ⟨b, off + 1, none⟩) hbW).trans ((HBW.out.cell (p := ⟨b, off + 1, none⟩) hbl).trans HL12.out.2)
                  obtain ⟨hfa, hfc, hfd⟩ := HFIT.out
                  have hwr := IntWalk.i64_in (a + c) (by omega)
                  have hkR : R64 (k : Int) := by unfold R64; omega
                  have hu9 := HIF9.out.2 k hkI
                  have hu1 := HGB.out.2 k hkI
                  have hg9 := getB_yes (chk_good HIF9.out.1) hkI
                  have hg1 := getB_yes (chk_good HGB.out.1) hkI
                  rw [inL_one] at hu9
                  have HGZ0 := hid (fun (W : World) (h : Below W11.heap.size W11 W) => get_any (N : Int) us9 _ (k : Int) W (MZ.out.below h) hkR)
                  have HGX0 := hid (fun (W : World) (h : Below W11.heap.size W11 W) => get_any (N : Int) us1 _ (k : Int) W (MX.out.below h) hkR)
                  rw [hg9] at HGZ0
                  rw [hg1] at HGX0
                  clear hg9 hg1
                  by_cases hin : a ≤ (k : Int) ∧ (k : Int) < a + c
                  · have e1 : bit us1 k = true := by rw [hu1]; exact inL_mem HE.out hin
                    have e9 : bit us9 k = false := by rw [hu9, decide_eq_true hin]; simp
                    rw [e9] at HGZ0
                    rw [e1] at HGX0
                    have HGZ := hid HGZ0.out
                    have HGX := hid HGX0.out
                    have d1 : decide (a ≤ (k : Int)) = true := decide_eq_true hin.1
                    have d2 : decide ((k : Int) < a + c) = true := decide_eq_true hin.2
                    clear e1 e9 hu9 hu1 hin HGZ0 HGX0
                    go_wp2
                    go_quiet (fail)
                    rename_i nq
                    obtain ⟨W12, hW12⟩ : ∃ W12, wr.drewN nq = W12 := ⟨_, rfl⟩
                    have HX0 : Hid (Below W11.heap.size W11 W12) := by rw [← hW12]; exact hid (below_drewN HX.out nq)
                    rw [hW12]
                    clear hW12 HX hy1 hy2
                    obtain ⟨z0, z1, z2⟩ := (BZ.out.below HX0.out).facts
                    obtain ⟨x0, x1, x2⟩ := (BX.out.below HX0.out).facts
                    have HXD : Hid (Below W11.heap.size W11 W12.drew) := hid ⟨HX0.out.os, HX0.out.tape, HX0.out.output, HX0.out.size, HX0.out.block⟩
                    go_wp2_with fail
                    refine wp_region_held_drew (S := (fun W : World => W.cell? ⟨gz, 0, none⟩ = some (.int .i64 (N : Int)) ∧ W.cell? ⟨gz, 1, none⟩ = some (.slice A9 us9.length c9) ∧ W.cell? ⟨w4.heap.size, 0, none⟩ = some (.int .i64 (N : Int)) ∧ W.cell? ⟨w4.heap.size, 1, none⟩ = some (.slice A1 us1.length c1))) (by kernel_rfl) ⟨z0, z1, x0, x1⟩ (fun hHeld => ?_)
                    refine' wpAnyH_take (i := 0) (oi := ?oi1) (v := ?v1) ?hi1 (by kernel_rfl) (by kernel_rfl) (by kernel_rfl) ?hq1 ?hy1 (by assumption) ?rest1
                    case hi1 => (simp only [List.getElem?_toArray, List.getElem?_cons_zero]; rfl)
                    case hq1 => exact fun _ _ _ h => h
                    case hy1 => (refine Or.inl ⟨by rfl, ?_⟩; intro w' hSw; (try dsimp only at hSw); go_simp; try with_reducible rfl)
                    (try simp only [Act.put, List.setIfInBounds_toArray, List.set_cons_zero, List.set_cons_succ])
                    refine' wpAnyH_take (i := 1) (oi := ?oi2) (v := ?v2) ?hi2 (by kernel_rfl) (by kernel_rfl) (by kernel_rfl) ?hq2 ?hy2 (by assumption) ?rest2
                    case hi2 => (simp only [List.getElem?_toArray, List.getElem?_cons_zero, List.getElem?_cons_succ]; rfl)
                    case hq2 => exact fun _ _ _ h => h
                    case hy2 => (refine Or.inl ⟨by rfl, ?_⟩; intro w' hSw; (try dsimp only at hSw); go_simp; try with_reducible rfl)
                    (try simp only [Act.put, List.setIfInBounds_toArray, List.set_cons_zero, List.set_cons_succ])
                    refine' wpAnyH_take (i := 3) (oi := ?oi3) (v := ?v3) ?hi3 (by kernel_rfl) (by kernel_rfl) (by kernel_rfl) ?hq3 ?hy3 (by assumption) ?rest3
                    case hi3 => (simp only [List.getElem?_toArray, List.getElem?_cons_zero, List.getElem?_cons_succ]; rfl)
                    case hq3 => exact fun _ _ _ h => h
                    case hy3 => (refine Or.inl ⟨by rfl, ?_⟩; intro w' hSw; (try dsimp only at hSw); go_simp; try with_reducible rfl)
                    (try simp only [Act.put, List.setIfInBounds_toArray, List.set_cons_zero, List.set_cons_succ])
                    refine' wpAnyH_take (i := 4) (oi := ?oi4) (v := ?v4) ?hi4 (by kernel_rfl) (by kernel_rfl) (by kernel_rfl) ?hq4 ?hy4 (by assumption) ?rest4
                    case hi4 => (simp only [List.getElem?_toArray, List.getElem?_cons_zero, List.getElem?_cons_succ]; rfl)
                    case hq4 => exact fun _ _ _ h => h
                    case hy4 => (refine Or.inl ⟨by rfl, ?_⟩; intro w' hSw; (try dsimp only at hSw); go_simp; try with_reducible rfl)
                    (try simp only [Act.put, List.setIfInBounds_toArray, List.set_cons_zero, List.set_cons_succ])
                    refine wpAnyH_ready (rs := [2]) (by kernel_rfl) (by simp) ?_
                    refine' AllReadyH.cons (o := ?oi5) ?hi5 (fun K hK => ?st5) AllReadyH.nil
                    case hi5 => (simp only [List.getElem?_toArray, List.getElem?_cons_zero, List.getElem?_cons_succ]; rfl)
                    go_simp
                    refine (HGZ.out _ HXD.out).mono ?_
                    rintro e w13 ⟨rfl, hb9⟩
                    have HX1 := hid (below_both HXD.out hb9)
                    clear hb9
                    clear z0 z1 z2 x0 x1 x2
                    obtain ⟨z0, z1, z2⟩ := (BZ.out.below HX1.out).facts
                    obtain ⟨x0, x1, x2⟩ := (BX.out.below HX1.out).facts
                    refine hK.out _ _ ⟨z0, z1, x0, x1⟩ (fun hHeld => ?_)
                    clear hK K
                    (try simp only [Act.put, List.setIfInBounds_toArray, List.set_cons_zero, List.set_cons_succ])
                    refine wpAnyH_ready (rs := [5]) (by kernel_rfl) (by simp) ?_
                    refine' AllReadyH.cons (o := ?oi6) ?hi6 (fun K hK => ?st6) AllReadyH.nil
                    case hi6 => (simp only [List.getElem?_toArray, List.getElem?_cons_zero, List.getElem?_cons_succ]; rfl)
                    go_simp
                    refine (HGX.out _ HX1.out).mono ?_
                    rintro e w14 ⟨rfl, hb9⟩
                    have HX2 := hid (below_both HX1.out hb9)
                    clear hb9
                    clear z0 z1 z2 x0 x1 x2
                    obtain ⟨z0, z1, z2⟩ := (BZ.out.below HX2.out).facts
                    obtain ⟨x0, x1, x2⟩ := (BX.out.below HX2.out).facts
                    refine hK.out _ _ ⟨z0, z1, x0, x1⟩ (fun hHeld => ?_)
                    clear hK K
                    (try simp only [Act.put, List.setIfInBounds_toArray, List.set_cons_zero, List.set_cons_succ])
                    refine' wpAnyH_take (i := 6) (oi := ?oi7) (v := ?v7) ?hi7 (by kernel_rfl) (by kernel_rfl) (by kernel_rfl) ?hq7 ?hy7 (by assumption) ?rest7
                    case hi7 => (simp only [List.getElem?_toArray, List.getElem?_cons_zero, List.getElem?_cons_succ]; rfl)
                    case hq7 => exact fun _ _ _ h => h
                    case hy7 => (refine Or.inl ⟨by rfl, ?_⟩; intro w' hSw; (try dsimp only at hSw); go_simp; try with_reducible rfl)
                    (try simp only [Act.put, List.setIfInBounds_toArray, List.set_cons_zero, List.set_cons_succ])
                    refine' wpAnyH_take (i := 7) (oi := ?oi8) (v := ?v8) ?hi8 (by kernel_rfl) (by kernel_rfl) (by kernel_rfl) ?hq8 ?hy8 (by assumption) ?rest8
                    case hi8 => (simp only [List.getElem?_toArray, List.getElem?_cons_zero, List.getElem?_cons_succ]; rfl)
                    case hq8 => exact fun _ _ _ h => h
                    case hy8 => (refine Or.inl ⟨by rfl, ?_⟩; intro w' hSw; (try dsimp only at hSw); go_simp; try with_reducible rfl)
                    (try simp only [Act.put, List.setIfInBounds_toArray, List.set_cons_zero, List.set_cons_succ])
                    refine' wpAnyH_take (i := 8) (oi := ?oi9) (v := ?v9) ?hi9 (by kernel_rfl) (by kernel_rfl) (by kernel_rfl) ?hq9 ?hy9 (by assumption) ?rest9
                    case hi9 => (simp only [List.getElem?_toArray, List.getElem?_cons_zero, List.getElem?_cons_succ]; rfl)
                    case hq9 => exact fun _ _ _ h => h
                    case hy9 => (refine Or.inl ⟨by rfl, ?_⟩; intro w' hSw; (try dsimp only at hSw); go_simp; try with_reducible rfl)
                    (try simp only [Act.put, List.setIfInBounds_toArray, List.set_cons_zero, List.set_cons_succ])
                    refine' wpAnyH_take (i := 9) (oi := ?oi10) (v := ?v10) ?hi10 (by kernel_rfl) (by kernel_rfl) (by kernel_rfl) ?hq10 ?hy10 (by assumption) ?rest10
                    case hi10 => (simp only [List.getElem?_toArray, List.getElem?_cons_zero, List.getElem?_cons_succ]; rfl)
                    case hq10 => exact fun _ _ _ h => h
                    case hy10 => (refine Or.inl ⟨by rfl, ?_⟩; intro w' hSw; (try dsimp only at hSw); go_simp; try with_reducible rfl)
                    (try simp only [Act.put, List.setIfInBounds_toArray, List.set_cons_zero, List.set_cons_succ])
                    refine' wpAnyH_take (i := 10) (oi := ?oi11) (v := ?v11) ?hi11 (by kernel_rfl) (by kernel_rfl) (by kernel_rfl) ?hq11 ?hy11 (by assumption) ?rest11
                    case hi11 => (simp only [List.getElem?_toArray, List.getElem?_cons_zero, List.getElem?_cons_succ]; rfl)
                    case hq11 => exact fun _ _ _ h => h
                    case hy11 => (refine Or.inl ⟨by rfl, ?_⟩; intro w' hSw; (try dsimp only at hSw); go_simp; try with_reducible rfl)
                    (try simp only [Act.put, List.setIfInBounds_toArray, List.set_cons_zero, List.set_cons_succ])
                    refine' wpAnyH_take (i := 11) (oi := ?oi12) (v := ?v12) ?hi12 (by kernel_rfl) (by kernel_rfl) (by kernel_rfl) ?hq12 ?hy12 (by assumption) ?rest12
                    case hi12 => (simp only [List.getElem?_toArray, List.getElem?_cons_zero, List.getElem?_cons_succ]; rfl)
                    case hq12 => exact fun _ _ _ h => h
                    case hy12 => (refine Or.inl ⟨by rfl, ?_⟩; intro w' hSw; (try dsimp only at hSw); go_simp; try with_reducible rfl)
                    (try simp only [Act.put, List.setIfInBounds_toArray, List.set_cons_zero, List.set_cons_succ])
                    refine' wpAnyH_take (i := 12) (oi := ?oi13) (v := ?v13) ?hi13 (by kernel_rfl) (by kernel_rfl) (by kernel_rfl) ?hq13 ?hy13 (by assumption) ?rest13
                    case hi13 => (simp only [List.getElem?_toArray, List.getElem?_cons_zero, List.getElem?_cons_succ]; rfl)
                    case hq13 => exact fun _ _ _ h => h
                    case hy13 => (refine Or.inl ⟨by rfl, ?_⟩; intro w' hSw; (try dsimp only at hSw); go_simp; try with_reducible rfl)
                    (try simp only [Act.put, List.setIfInBounds_toArray, List.set_cons_zero, List.set_cons_succ])
                    refine' wpAnyH_take (i := 13) (oi := ?oi14) (v := ?v14) ?hi14 (by kernel_rfl) (by kernel_rfl) (by kernel_rfl) ?hq14 ?hy14 (by assumption) ?rest14
                    case hi14 => (simp only [List.getElem?_toArray, List.getElem?_cons_zero, List.getElem?_cons_succ]; rfl)
                    case hq14 => exact fun _ _ _ h => h
                    case hy14 => (refine Or.inl ⟨by rfl, ?_⟩; intro w' hSw; (try dsimp only at hSw); go_simp; try with_reducible rfl)
                    (try simp only [Act.put, List.setIfInBounds_toArray, List.set_cons_zero, List.set_cons_succ])
                    refine' wpAnyH_take (i := 14) (oi := ?oi15) (v := ?v15) ?hi15 (by kernel_rfl) (by kernel_rfl) (by kernel_rfl) ?hq15 ?hy15 (by assumption) ?rest15
                    case hi15 => (simp only [List.getElem?_toArray, List.getElem?_cons_zero, List.getElem?_cons_succ]; rfl)
                    case hq15 => exact fun _ _ _ h => h
                    case hy15 => (refine Or.inl ⟨by rfl, ?_⟩; intro w' hSw; (try dsimp only at hSw); go_simp; try with_reducible rfl)
                    (try simp only [Act.put, List.setIfInBounds_toArray, List.set_cons_zero, List.set_cons_succ])
                    refine' wpAnyH_take (i := 15) (oi := ?oi16) (v := ?v16) ?hi16 (by kernel_rfl) (by kernel_rfl) (by kernel_rfl) ?hq16 ?hy16 (by assumption) ?rest16
                    case hi16 => (simp only [List.getElem?_toArray, List.getElem?_cons_zero, List.getElem?_cons_succ]; rfl)
                    case hq16 => exact fun _ _ _ h => h
                    case hy16 => (refine Or.inl ⟨by rfl, ?_⟩; intro w' hSw; (try dsimp only at hSw); go_simp; try with_reducible rfl)
                    (try simp only [Act.put, List.setIfInBounds_toArray, List.set_cons_zero, List.set_cons_succ])
                    refine wpAnyH_ready (rs := [16]) (by kernel_rfl) (by simp) ?_
                    refine' AllReadyH.cons (o := ?oi17) ?hi17 (fun K hK => ?st17) AllReadyH.nil
                    case hi17 => (simp only [List.getElem?_toArray, List.getElem?_cons_zero, List.getElem?_cons_succ]; rfl)
                    go_simp
                    refine (HGX.out _ HX2.out).mono ?_
                    rintro e w15 ⟨rfl, hb9⟩
                    have HX3 := hid (below_both HX2.out hb9)
                    clear hb9
                    clear z0 z1 z2 x0 x1 x2
                    obtain ⟨z0, z1, z2⟩ := (BZ.out.below HX3.out).facts
                    obtain ⟨x0, x1, x2⟩ := (BX.out.below HX3.out).facts
                    refine hK.out _ _ ⟨z0, z1, x0, x1⟩ (fun hHeld => ?_)
                    clear hK K
                    (try simp only [Act.put, List.setIfInBounds_toArray, List.set_cons_zero, List.set_cons_succ])
                    refine' wpAnyH_take (i := 17) (oi := ?oi18) (v := ?v18) ?hi18 (by kernel_rfl) (by kernel_rfl) (by kernel_rfl) ?hq18 ?hy18 (by assumption) ?rest18
                    case hi18 => (simp only [List.getElem?_toArray, List.getElem?_cons_zero, List.getElem?_cons_succ]; rfl)
                    case hq18 => exact fun _ _ _ h => h
                    case hy18 => (refine Or.inl ⟨by rfl, ?_⟩; intro w' hSw; (try dsimp only at hSw); go_simp; try with_reducible rfl)
                    (try simp only [Act.put, List.setIfInBounds_toArray, List.set_cons_zero, List.set_cons_succ])
                    refine' wpAnyH_take (i := 18) (oi := ?oi19) (v := ?v19) ?hi19 (by kernel_rfl) (by kernel_rfl) (by kernel_rfl) ?hq19 ?hy19 (by assumption) ?rest19
                    case hi19 => (simp only [List.getElem?_toArray, List.getElem?_cons_zero, List.getElem?_cons_succ]; rfl)
                    case hq19 => exact fun _ _ _ h => h
                    case hy19 => (refine Or.inl ⟨by rfl, ?_⟩; intro w' hSw; (try dsimp only at hSw); go_simp; try with_reducible rfl)
                    (try simp only [Act.put, List.setIfInBounds_toArray, List.set_cons_zero, List.set_cons_succ])
                    refine' wpAnyH_take (i := 19) (oi := ?oi20) (v := ?v20) ?hi20 (by kernel_rfl) (by kernel_rfl) (by kernel_rfl) ?hq20 ?hy20 (by assumption) ?rest20
                    case hi20 => (simp only [List.getElem?_toArray, List.getElem?_cons_zero, List.getElem?_cons_succ]; rfl)
                    case hq20 => exact fun _ _ _ h => h
                    case hy20 => (refine Or.inl ⟨by rfl, ?_⟩; intro w' hSw; (try dsimp only at hSw); go_simp; try with_reducible rfl)
                    (try simp only [Act.put, List.setIfInBounds_toArray, List.set_cons_zero, List.set_cons_succ])
                    refine wpAnyH_done (by kernel_rfl) ?_ _
                    go_wp2
                    go_roundw
                    case rel => exact ⟨k + 1, by omega, by go_num, HX3⟩
                    case measure => simp [intOf]; omega
                  · have e9 : bit us9 k = bit us1 k := by rw [hu9, decide_eq_false hin]; simp
                    rw [e9] at HGZ0
                    clear e9 hu9 hu1
                    obtain ⟨gb, hgb⟩ : ∃ gb, bit us1 k = gb := ⟨_, rfl⟩
                    rw [hgb] at HGZ0 HGX0
                    have HGZ := hid HGZ0.out
                    have HGX := hid HGX0.out
                    clear hgb HGZ0 HGX0
                    by_cases h1 : a ≤ (k : Int)
                    · have d1 : decide (a ≤ (k : Int)) = true := decide_eq_true h1
                      have d2 : decide ((k : Int) < a + c) = false := decide_eq_false (fun h2 => hin ⟨h1, h2⟩)
                      clear hin
                      rcases gb with _ | _
                      · go_wp2
                        go_quiet (fail)
                        rename_i nq
                        obtain ⟨W12, hW12⟩ : ∃ W12, wr.drewN nq = W12 := ⟨_, rfl⟩
                        have HX0 : Hid (Below W11.heap.size W11 W12) := by rw [← hW12]; exact hid (below_drewN HX.out nq)
                        rw [hW12]
                        clear hW12 HX hy1 hy2
                        obtain ⟨z0, z1, z2⟩ := (BZ.out.below HX0.out).facts
                        obtain ⟨x0, x1, x2⟩ := (BX.out.below HX0.out).facts
                        have HXD : Hid (Below W11.heap.size W11 W12.drew) := hid ⟨HX0.out.os, HX0.out.tape, HX0.out.output, HX0.out.size, HX0.out.block⟩
                        go_wp2_with fail
                        refine wp_region_held_drew (S := (fun W : World => W.cell? ⟨gz, 0, none⟩ = some (.int .i64 (N : Int)) ∧ W.cell? ⟨gz, 1, none⟩ = some (.slice A9 us9.length c9) ∧ W.cell? ⟨w4.heap.size, 0, none⟩ = some (.int .i64 (N : Int)) ∧ W.cell? ⟨w4.heap.size, 1, none⟩ = some (.slice A1 us1.length c1))) (by kernel_rfl) ⟨z0, z1, x0, x1⟩ (fun hHeld => ?_)
                        refine' wpAnyH_take (i := 0) (oi := ?oi21) (v := ?v21) ?hi21 (by kernel_rfl) (by kernel_rfl) (by kernel_rfl) ?hq21 ?hy21 (by assumption) ?rest21
                        case hi21 => (simp only [List.getElem?_toArray, List.getElem?_cons_zero]; rfl)
                        case hq21 => exact fun _ _ _ h => h
                        case hy21 => (refine Or.inl ⟨by rfl, ?_⟩; intro w' hSw; (try dsimp only at hSw); go_simp; try with_reducible rfl)
                        (try simp only [Act.put, List.setIfInBounds_toArray, List.set_cons_zero, List.set_cons_succ])
                        refine' wpAnyH_take (i := 1) (oi := ?oi22) (v := ?v22) ?hi22 (by kernel_rfl) (by kernel_rfl) (by kernel_rfl) ?hq22 ?hy22 (by assumption) ?rest22
                        case hi22 => (simp only [List.getElem?_toArray, List.getElem?_cons_zero, List.getElem?_cons_succ]; rfl)
                        case hq22 => exact fun _ _ _ h => h
                        case hy22 => (refine Or.inl ⟨by rfl, ?_⟩; intro w' hSw; (try dsimp only at hSw); go_simp; try with_reducible rfl)
                        (try simp only [Act.put, List.setIfInBounds_toArray, List.set_cons_zero, List.set_cons_succ])
                        refine' wpAnyH_take (i := 3) (oi := ?oi23) (v := ?v23) ?hi23 (by kernel_rfl) (by kernel_rfl) (by kernel_rfl) ?hq23 ?hy23 (by assumption) ?rest23
                        case hi23 => (simp only [List.getElem?_toArray, List.getElem?_cons_zero, List.getElem?_cons_succ]; rfl)
                        case hq23 => exact fun _ _ _ h => h
                        case hy23 => (refine Or.inl ⟨by rfl, ?_⟩; intro w' hSw; (try dsimp only at hSw); go_simp; try with_reducible rfl)
                        (try simp only [Act.put, List.setIfInBounds_toArray, List.set_cons_zero, List.set_cons_succ])
                        refine' wpAnyH_take (i := 4) (oi := ?oi24) (v := ?v24) ?hi24 (by kernel_rfl) (by kernel_rfl) (by kernel_rfl) ?hq24 ?hy24 (by assumption) ?rest24
                        case hi24 => (simp only [List.getElem?_toArray, List.getElem?_cons_zero, List.getElem?_cons_succ]; rfl)
                        case hq24 => exact fun _ _ _ h => h
                        case hy24 => (refine Or.inl ⟨by rfl, ?_⟩; intro w' hSw; (try dsimp only at hSw); go_simp; try with_reducible rfl)
                        (try simp only [Act.put, List.setIfInBounds_toArray, List.set_cons_zero, List.set_cons_succ])
                        refine wpAnyH_ready (rs := [2]) (by kernel_rfl) (by simp) ?_
                        refine' AllReadyH.cons (o := ?oi25) ?hi25 (fun K hK => ?st25) AllReadyH.nil
                        case hi25 => (simp only [List.getElem?_toArray, List.getElem?_cons_zero, List.getElem?_cons_succ]; rfl)
                        go_simp
                        refine (HGZ.out _ HXD.out).mono ?_
                        rintro e w13 ⟨rfl, hb9⟩
                        have HX1 := hid (below_both HXD.out hb9)
                        clear hb9
                        clear z0 z1 z2 x0 x1 x2
                        obtain ⟨z0, z1, z2⟩ := (BZ.out.below HX1.out).facts
                        obtain ⟨x0, x1, x2⟩ := (BX.out.below HX1.out).facts
                        refine hK.out _ _ ⟨z0, z1, x0, x1⟩ (fun hHeld => ?_)
                        clear hK K
                        (try simp only [Act.put, List.setIfInBounds_toArray, List.set_cons_zero, List.set_cons_succ])
                        refine wpAnyH_ready (rs := [5]) (by kernel_rfl) (by simp) ?_
                        refine' AllReadyH.cons (o := ?oi26) ?hi26 (fun K hK => ?st26) AllReadyH.nil
                        case hi26 => (simp only [List.getElem?_toArray, List.getElem?_cons_zero, List.getElem?_cons_succ]; rfl)
                        go_simp
                        refine (HGX.out _ HX1.out).mono ?_
                        rintro e w14 ⟨rfl, hb9⟩
                        have HX2 := hid (below_both HX1.out hb9)
                        clear hb9
                        clear z0 z1 z2 x0 x1 x2
                        obtain ⟨z0, z1, z2⟩ := (BZ.out.below HX2.out).facts
                        obtain ⟨x0, x1, x2⟩ := (BX.out.below HX2.out).facts
                        refine hK.out _ _ ⟨z0, z1, x0, x1⟩ (fun hHeld => ?_)
                        clear hK K
                        (try simp only [Act.put, List.setIfInBounds_toArray, List.set_cons_zero, List.set_cons_succ])
                        refine' wpAnyH_take (i := 6) (oi := ?oi27) (v := ?v27) ?hi27 (by kernel_rfl) (by kernel_rfl) (by kernel_rfl) ?hq27 ?hy27 (by assumption) ?rest27
                        case hi27 => (simp only [List.getElem?_toArray, List.getElem?_cons_zero, List.getElem?_cons_succ]; rfl)
                        case hq27 => exact fun _ _ _ h => h
                        case hy27 => (refine Or.inl ⟨by rfl, ?_⟩; intro w' hSw; (try dsimp only at hSw); go_simp; try with_reducible rfl)
                        (try simp only [Act.put, List.setIfInBounds_toArray, List.set_cons_zero, List.set_cons_succ])
                        refine' wpAnyH_take (i := 7) (oi := ?oi28) (v := undef) ?hi28 (by kernel_rfl) (by kernel_rfl) (by kernel_rfl) ?hq28 ?hy28 (by assumption) ?rest28
                        case hi28 => (simp only [List.getElem?_toArray, List.getElem?_cons_zero, List.getElem?_cons_succ]; rfl)
                        case hq28 => exact fun _ _ _ h => h
                        case hy28 => exact Or.inr ⟨by rfl, rfl⟩
                        (try simp only [Act.put, List.setIfInBounds_toArray, List.set_cons_zero, List.set_cons_succ])
                        refine' wpAnyH_take (i := 8) (oi := ?oi29) (v := undef) ?hi29 (by kernel_rfl) (by kernel_rfl) (by kernel_rfl) ?hq29 ?hy29 (by assumption) ?rest29
                        case hi29 => (simp only [List.getElem?_toArray, List.getElem?_cons_zero, List.getElem?_cons_succ]; rfl)
                        case hq29 => exact fun _ _ _ h => h
                        case hy29 => exact Or.inr ⟨by rfl, rfl⟩
                        (try simp only [Act.put, List.setIfInBounds_toArray, List.set_cons_zero, List.set_cons_succ])
                        refine' wpAnyH_take (i := 9) (oi := ?oi30) (v := ?v30) ?hi30 (by kernel_rfl) (by kernel_rfl) (by kernel_rfl) ?hq30 ?hy30 (by assumption) ?rest30
                        case hi30 => (simp only [List.getElem?_toArray, List.getElem?_cons_zero, List.getElem?_cons_succ]; rfl)
                        case hq30 => exact fun _ _ _ h => h
                        case hy30 => (refine Or.inl ⟨by rfl, ?_⟩; intro w' hSw; (try dsimp only at hSw); go_simp; try with_reducible rfl)
                        (try simp only [Act.put, List.setIfInBounds_toArray, List.set_cons_zero, List.set_cons_succ])
                        refine' wpAnyH_take (i := 10) (oi := ?oi31) (v := ?v31) ?hi31 (by kernel_rfl) (by kernel_rfl) (by kernel_rfl) ?hq31 ?hy31 (by assumption) ?rest31
                        case hi31 => (simp only [List.getElem?_toArray, List.getElem?_cons_zero, List.getElem?_cons_succ]; rfl)
                        case hq31 => exact fun _ _ _ h => h
                        case hy31 => (refine Or.inl ⟨by rfl, ?_⟩; intro w' hSw; (try dsimp only at hSw); go_simp; try with_reducible rfl)
                        (try simp only [Act.put, List.setIfInBounds_toArray, List.set_cons_zero, List.set_cons_succ])
                        refine' wpAnyH_take (i := 11) (oi := ?oi32) (v := ?v32) ?hi32 (by kernel_rfl) (by kernel_rfl) (by kernel_rfl) ?hq32 ?hy32 (by assumption) ?rest32
                        case hi32 => (simp only [List.getElem?_toArray, List.getElem?_cons_zero, List.getElem?_cons_succ]; rfl)
                        case hq32 => exact fun _ _ _ h => h
                        case hy32 => (refine Or.inl ⟨by rfl, ?_⟩; intro w' hSw; (try dsimp only at hSw); go_simp; try with_reducible rfl)
                        (try simp only [Act.put, List.setIfInBounds_toArray, List.set_cons_zero, List.set_cons_succ])
                        refine' wpAnyH_take (i := 12) (oi := ?oi33) (v := ?v33) ?hi33 (by kernel_rfl) (by kernel_rfl) (by kernel_rfl) ?hq33 ?hy33 (by assumption) ?rest33
                        case hi33 => (simp only [List.getElem?_toArray, List.getElem?_cons_zero, List.getElem?_cons_succ]; rfl)
                        case hq33 => exact fun _ _ _ h => h
                        case hy33 => (refine Or.inl ⟨by rfl, ?_⟩; intro w' hSw; (try dsimp only at hSw); go_simp; try with_reducible rfl)
                        (try simp only [Act.put, List.setIfInBounds_toArray, List.set_cons_zero, List.set_cons_succ])
                        refine' wpAnyH_take (i := 13) (oi := ?oi34) (v := ?v34) ?hi34 (by kernel_rfl) (by kernel_rfl) (by kernel_rfl) ?hq34 ?hy34 (by assumption) ?rest34
                        case hi34 => (simp only [List.getElem?_toArray, List.getElem?_cons_zero, List.getElem?_cons_succ]; rfl)
                        case hq34 => exact fun _ _ _ h => h
                        case hy34 => (refine Or.inl ⟨by rfl, ?_⟩; intro w' hSw; (try dsimp only at hSw); go_simp; try with_reducible rfl)
                        (try simp only [Act.put, List.setIfInBounds_toArray, List.set_cons_zero, List.set_cons_succ])
                        refine' wpAnyH_take (i := 14) (oi := ?oi35) (v := undef) ?hi35 (by kernel_rfl) (by kernel_rfl) (by kernel_rfl) ?hq35 ?hy35 (by assumption) ?rest35
                        case hi35 => (simp only [List.getElem?_toArray, List.getElem?_cons_zero, List.getElem?_cons_succ]; rfl)
                        case hq35 => exact fun _ _ _ h => h
                        case hy35 => exact Or.inr ⟨by rfl, rfl⟩
                        (try simp only [Act.put, List.setIfInBounds_toArray, List.set_cons_zero, List.set_cons_succ])
                        refine' wpAnyH_take (i := 15) (oi := ?oi36) (v := undef) ?hi36 (by kernel_rfl) (by kernel_rfl) (by kernel_rfl) ?hq36 ?hy36 (by assumption) ?rest36
                        case hi36 => (simp only [List.getElem?_toArray, List.getElem?_cons_zero, List.getElem?_cons_succ]; rfl)
                        case hq36 => exact fun _ _ _ h => h
                        case hy36 => exact Or.inr ⟨by rfl, rfl⟩
                        (try simp only [Act.put, List.setIfInBounds_toArray, List.set_cons_zero, List.set_cons_succ])
                        refine' wpAnyH_take (i := 16) (oi := ?oi37) (v := undef) ?hi37 (by kernel_rfl) (by kernel_rfl) (by kernel_rfl) ?hq37 ?hy37 (by assumption) ?rest37
                        case hi37 => (simp only [List.getElem?_toArray, List.getElem?_cons_zero, List.getElem?_cons_succ]; rfl)
                        case hq37 => exact fun _ _ _ h => h
                        case hy37 => exact Or.inr ⟨by rfl, rfl⟩
                        (try simp only [Act.put, List.setIfInBounds_toArray, List.set_cons_zero, List.set_cons_succ])
                        refine' wpAnyH_take (i := 17) (oi := ?oi38) (v := undef) ?hi38 (by kernel_rfl) (by kernel_rfl) (by kernel_rfl) ?hq38 ?hy38 (by assumption) ?rest38
                        case hi38 => (simp only [List.getElem?_toArray, List.getElem?_cons_zero, List.getElem?_cons_succ]; rfl)
                        case hq38 => exact fun _ _ _ h => h
                        case hy38 => exact Or.inr ⟨by rfl, rfl⟩
                        (try simp only [Act.put, List.setIfInBounds_toArray, List.set_cons_zero, List.set_cons_succ])
                        refine' wpAnyH_take (i := 18) (oi := ?oi39) (v := ?v39) ?hi39 (by kernel_rfl) (by kernel_rfl) (by kernel_rfl) ?hq39 ?hy39 (by assumption) ?rest39
                        case hi39 => (simp only [List.getElem?_toArray, List.getElem?_cons_zero, List.getElem?_cons_succ]; rfl)
                        case hq39 => exact fun _ _ _ h => h
                        case hy39 => (refine Or.inl ⟨by rfl, ?_⟩; intro w' hSw; (try dsimp only at hSw); go_simp; try with_reducible rfl)
                        (try simp only [Act.put, List.setIfInBounds_toArray, List.set_cons_zero, List.set_cons_succ])
                        refine' wpAnyH_take (i := 19) (oi := ?oi40) (v := ?v40) ?hi40 (by kernel_rfl) (by kernel_rfl) (by kernel_rfl) ?hq40 ?hy40 (by assumption) ?rest40
                        case hi40 => (simp only [List.getElem?_toArray, List.getElem?_cons_zero, List.getElem?_cons_succ]; rfl)
                        case hq40 => exact fun _ _ _ h => h
                        case hy40 => (refine Or.inl ⟨by rfl, ?_⟩; intro w' hSw; (try dsimp only at hSw); go_simp; try with_reducible rfl)
                        (try simp only [Act.put, List.setIfInBounds_toArray, List.set_cons_zero, List.set_cons_succ])
                        refine wpAnyH_done (by kernel_rfl) ?_ _
                        go_wp2
                        go_roundw
                        case rel => exact ⟨k + 1, by omega, by go_num, HX2⟩
                        case measure => simp [intOf]; omega
                      · go_wp2
                        go_quiet (fail)
                        rename_i nq
                        obtain ⟨W12, hW12⟩ : ∃ W12, wr.drewN nq = W12 := ⟨_, rfl⟩
                        have HX0 : Hid (Below W11.heap.size W11 W12) := by rw [← hW12]; exact hid (below_drewN HX.out nq)
                        rw [hW12]
                        clear hW12 HX hy1 hy2
                        obtain ⟨z0, z1, z2⟩ := (BZ.out.below HX0.out).facts
                        obtain ⟨x0, x1, x2⟩ := (BX.out.below HX0.out).facts
                        have HXD : Hid (Below W11.heap.size W11 W12.drew) := hid ⟨HX0.out.os, HX0.out.tape, HX0.out.output, HX0.out.size, HX0.out.block⟩
                        go_wp2_with fail
                        refine wp_region_held_drew (S := (fun W : World => W.cell? ⟨gz, 0, none⟩ = some (.int .i64 (N : Int)) ∧ W.cell? ⟨gz, 1, none⟩ = some (.slice A9 us9.length c9) ∧ W.cell? ⟨w4.heap.size, 0, none⟩ = some (.int .i64 (N : Int)) ∧ W.cell? ⟨w4.heap.size, 1, none⟩ = some (.slice A1 us1.length c1))) (by kernel_rfl) ⟨z0, z1, x0, x1⟩ (fun hHeld => ?_)
                        refine' wpAnyH_take (i := 0) (oi := ?oi41) (v := ?v41) ?hi41 (by kernel_rfl) (by kernel_rfl) (by kernel_rfl) ?hq41 ?hy41 (by assumption) ?rest41
                        case hi41 => (simp only [List.getElem?_toArray, List.getElem?_cons_zero]; rfl)
                        case hq41 => exact fun _ _ _ h => h
                        case hy41 => (refine Or.inl ⟨by rfl, ?_⟩; intro w' hSw; (try dsimp only at hSw); go_simp; try with_reducible rfl)
                        (try simp only [Act.put, List.setIfInBounds_toArray, List.set_cons_zero, List.set_cons_succ])
                        refine' wpAnyH_take (i := 1) (oi := ?oi42) (v := ?v42) ?hi42 (by kernel_rfl) (by kernel_rfl) (by kernel_rfl) ?hq42 ?hy42 (by assumption) ?rest42
                        case hi42 => (simp only [List.getElem?_toArray, List.getElem?_cons_zero, List.getElem?_cons_succ]; rfl)
                        case hq42 => exact fun _ _ _ h => h
                        case hy42 => (refine Or.inl ⟨by rfl, ?_⟩; intro w' hSw; (try dsimp only at hSw); go_simp; try with_reducible rfl)
                        (try simp only [Act.put, List.setIfInBounds_toArray, List.set_cons_zero, List.set_cons_succ])
                        refine' wpAnyH_take (i := 3) (oi := ?oi43) (v := ?v43) ?hi43 (by kernel_rfl) (by kernel_rfl) (by kernel_rfl) ?hq43 ?hy43 (by assumption) ?rest43
                        case hi43 => (simp only [List.getElem?_toArray, List.getElem?_cons_zero, List.getElem?_cons_succ]; rfl)
                        case hq43 => exact fun _ _ _ h => h
                        case hy43 => (refine Or.inl ⟨by rfl, ?_⟩; intro w' hSw; (try dsimp only at hSw); go_simp; try with_reducible rfl)
                        (try simp only [Act.put, List.setIfInBounds_toArray, List.set_cons_zero, List.set_cons_succ])
                        refine' wpAnyH_take (i := 4) (oi := ?oi44) (v := ?v44) ?hi44 (by kernel_rfl) (by kernel_rfl) (by kernel_rfl) ?hq44 ?hy44 (by assumption) ?rest44
                        case hi44 => (simp only [List.getElem?_toArray, List.getElem?_cons_zero, List.getElem?_cons_succ]; rfl)
                        case hq44 => exact fun _ _ _ h => h
                        case hy44 => (refine Or.inl ⟨by rfl, ?_⟩; intro w' hSw; (try dsimp only at hSw); go_simp; try with_reducible rfl)
                        (try simp only [Act.put, List.setIfInBounds_toArray, List.set_cons_zero, List.set_cons_succ])
                        refine wpAnyH_ready (rs := [2]) (by kernel_rfl) (by simp) ?_
                        refine' AllReadyH.cons (o := ?oi45) ?hi45 (fun K hK => ?st45) AllReadyH.nil
                        case hi45 => (simp only [List.getElem?_toArray, List.getElem?_cons_zero, List.getElem?_cons_succ]; rfl)
                        go_simp
                        refine (HGZ.out _ HXD.out).mono ?_
                        rintro e w13 ⟨rfl, hb9⟩
                        have HX1 := hid (below_both HXD.out hb9)
                        clear hb9
                        clear z0 z1 z2 x0 x1 x2
                        obtain ⟨z0, z1, z2⟩ := (BZ.out.below HX1.out).facts
                        obtain ⟨x0, x1, x2⟩ := (BX.out.below HX1.out).facts
                        refine hK.out _ _ ⟨z0, z1, x0, x1⟩ (fun hHeld => ?_)
                        clear hK K
                        (try simp only [Act.put, List.setIfInBounds_toArray, List.set_cons_zero, List.set_cons_succ])
                        refine wpAnyH_ready (rs := [5]) (by kernel_rfl) (by simp) ?_
                        refine' AllReadyH.cons (o := ?oi46) ?hi46 (fun K hK => ?st46) AllReadyH.nil
                        case hi46 => (simp only [List.getElem?_toArray, List.getElem?_cons_zero, List.getElem?_cons_succ]; rfl)
                        go_simp
                        refine (HGX.out _ HX1.out).mono ?_
                        rintro e w14 ⟨rfl, hb9⟩
                        have HX2 := hid (below_both HX1.out hb9)
                        clear hb9
                        clear z0 z1 z2 x0 x1 x2
                        obtain ⟨z0, z1, z2⟩ := (BZ.out.below HX2.out).facts
                        obtain ⟨x0, x1, x2⟩ := (BX.out.below HX2.out).facts
                        refine hK.out _ _ ⟨z0, z1, x0, x1⟩ (fun hHeld => ?_)
                        clear hK K
                        (try simp only [Act.put, List.setIfInBounds_toArray, List.set_cons_zero, List.set_cons_succ])
                        refine' wpAnyH_take (i := 6) (oi := ?oi47) (v := ?v47) ?hi47 (by kernel_rfl) (by kernel_rfl) (by kernel_rfl) ?hq47 ?hy47 (by assumption) ?rest47
                        case hi47 => (simp only [List.getElem?_toArray, List.getElem?_cons_zero, List.getElem?_cons_succ]; rfl)
                        case hq47 => exact fun _ _ _ h => h
                        case hy47 => (refine Or.inl ⟨by rfl, ?_⟩; intro w' hSw; (try dsimp only at hSw); go_simp; try with_reducible rfl)
                        (try simp only [Act.put, List.setIfInBounds_toArray, List.set_cons_zero, List.set_cons_succ])
                        refine' wpAnyH_take (i := 7) (oi := ?oi48) (v := ?v48) ?hi48 (by kernel_rfl) (by kernel_rfl) (by kernel_rfl) ?hq48 ?hy48 (by assumption) ?rest48
                        case hi48 => (simp only [List.getElem?_toArray, List.getElem?_cons_zero, List.getElem?_cons_succ]; rfl)
                        case hq48 => exact fun _ _ _ h => h
                        case hy48 => (refine Or.inl ⟨by rfl, ?_⟩; intro w' hSw; (try dsimp only at hSw); go_simp; try with_reducible rfl)
                        (try simp only [Act.put, List.setIfInBounds_toArray, List.set_cons_zero, List.set_cons_succ])
                        refine' wpAnyH_take (i := 8) (oi := ?oi49) (v := ?v49) ?hi49 (by kernel_rfl) (by kernel_rfl) (by kernel_rfl) ?hq49 ?hy49 (by assumption) ?rest49
                        case hi49 => (simp only [List.getElem?_toArray, List.getElem?_cons_zero, List.getElem?_cons_succ]; rfl)
                        case hq49 => exact fun _ _ _ h => h
                        case hy49 => (refine Or.inl ⟨by rfl, ?_⟩; intro w' hSw; (try dsimp only at hSw); go_simp; try with_reducible rfl)
                        (try simp only [Act.put, List.setIfInBounds_toArray, List.set_cons_zero, List.set_cons_succ])
                        refine' wpAnyH_take (i := 9) (oi := ?oi50) (v := ?v50) ?hi50 (by kernel_rfl) (by kernel_rfl) (by kernel_rfl) ?hq50 ?hy50 (by assumption) ?rest50
                        case hi50 => (simp only [List.getElem?_toArray, List.getElem?_cons_zero, List.getElem?_cons_succ]; rfl)
                        case hq50 => exact fun _ _ _ h => h
                        case hy50 => (refine Or.inl ⟨by rfl, ?_⟩; intro w' hSw; (try dsimp only at hSw); go_simp; try with_reducible rfl)
                        (try simp only [Act.put, List.setIfInBounds_toArray, List.set_cons_zero, List.set_cons_succ])
                        refine' wpAnyH_take (i := 10) (oi := ?oi51) (v := ?v51) ?hi51 (by kernel_rfl) (by kernel_rfl) (by kernel_rfl) ?hq51 ?hy51 (by assumption) ?rest51
                        case hi51 => (simp only [List.getElem?_toArray, List.getElem?_cons_zero, List.getElem?_cons_succ]; rfl)
                        case hq51 => exact fun _ _ _ h => h
                        case hy51 => (refine Or.inl ⟨by rfl, ?_⟩; intro w' hSw; (try dsimp only at hSw); go_simp; try with_reducible rfl)
                        (try simp only [Act.put, List.setIfInBounds_toArray, List.set_cons_zero, List.set_cons_succ])
                        refine' wpAnyH_take (i := 11) (oi := ?oi52) (v := ?v52) ?hi52 (by kernel_rfl) (by kernel_rfl) (by kernel_rfl) ?hq52 ?hy52 (by assumption) ?rest52
                        case hi52 => (simp only [List.getElem?_toArray, List.getElem?_cons_zero, List.getElem?_cons_succ]; rfl)
                        case hq52 => exact fun _ _ _ h => h
                        case hy52 => (refine Or.inl ⟨by rfl, ?_⟩; intro w' hSw; (try dsimp only at hSw); go_simp; try with_reducible rfl)
                        (try simp only [Act.put, List.setIfInBounds_toArray, List.set_cons_zero, List.set_cons_succ])
                        refine' wpAnyH_take (i := 12) (oi := ?oi53) (v := ?v53) ?hi53 (by kernel_rfl) (by kernel_rfl) (by kernel_rfl) ?hq53 ?hy53 (by assumption) ?rest53
                        case hi53 => (simp only [List.getElem?_toArray, List.getElem?_cons_zero, List.getElem?_cons_succ]; rfl)
                        case hq53 => exact fun _ _ _ h => h
                        case hy53 => (refine Or.inl ⟨by rfl, ?_⟩; intro w' hSw; (try dsimp only at hSw); go_simp; try with_reducible rfl)
                        (try simp only [Act.put, List.setIfInBounds_toArray, List.set_cons_zero, List.set_cons_succ])
                        refine' wpAnyH_take (i := 13) (oi := ?oi54) (v := ?v54) ?hi54 (by kernel_rfl) (by kernel_rfl) (by kernel_rfl) ?hq54 ?hy54 (by assumption) ?rest54
                        case hi54 => (simp only [List.getElem?_toArray, List.getElem?_cons_zero, List.getElem?_cons_succ]; rfl)
                        case hq54 => exact fun _ _ _ h => h
                        case hy54 => (refine Or.inl ⟨by rfl, ?_⟩; intro w' hSw; (try dsimp only at hSw); go_simp; try with_reducible rfl)
                        (try simp only [Act.put, List.setIfInBounds_toArray, List.set_cons_zero, List.set_cons_succ])
                        refine' wpAnyH_take (i := 14) (oi := ?oi55) (v := undef) ?hi55 (by kernel_rfl) (by kernel_rfl) (by kernel_rfl) ?hq55 ?hy55 (by assumption) ?rest55
                        case hi55 => (simp only [List.getElem?_toArray, List.getElem?_cons_zero, List.getElem?_cons_succ]; rfl)
                        case hq55 => exact fun _ _ _ h => h
                        case hy55 => exact Or.inr ⟨by rfl, rfl⟩
                        (try simp only [Act.put, List.setIfInBounds_toArray, List.set_cons_zero, List.set_cons_succ])
                        refine' wpAnyH_take (i := 15) (oi := ?oi56) (v := undef) ?hi56 (by kernel_rfl) (by kernel_rfl) (by kernel_rfl) ?hq56 ?hy56 (by assumption) ?rest56
                        case hi56 => (simp only [List.getElem?_toArray, List.getElem?_cons_zero, List.getElem?_cons_succ]; rfl)
                        case hq56 => exact fun _ _ _ h => h
                        case hy56 => exact Or.inr ⟨by rfl, rfl⟩
                        (try simp only [Act.put, List.setIfInBounds_toArray, List.set_cons_zero, List.set_cons_succ])
                        refine' wpAnyH_take (i := 16) (oi := ?oi57) (v := undef) ?hi57 (by kernel_rfl) (by kernel_rfl) (by kernel_rfl) ?hq57 ?hy57 (by assumption) ?rest57
                        case hi57 => (simp only [List.getElem?_toArray, List.getElem?_cons_zero, List.getElem?_cons_succ]; rfl)
                        case hq57 => exact fun _ _ _ h => h
                        case hy57 => exact Or.inr ⟨by rfl, rfl⟩
                        (try simp only [Act.put, List.setIfInBounds_toArray, List.set_cons_zero, List.set_cons_succ])
                        refine' wpAnyH_take (i := 17) (oi := ?oi58) (v := undef) ?hi58 (by kernel_rfl) (by kernel_rfl) (by kernel_rfl) ?hq58 ?hy58 (by assumption) ?rest58
                        case hi58 => (simp only [List.getElem?_toArray, List.getElem?_cons_zero, List.getElem?_cons_succ]; rfl)
                        case hq58 => exact fun _ _ _ h => h
                        case hy58 => exact Or.inr ⟨by rfl, rfl⟩
                        (try simp only [Act.put, List.setIfInBounds_toArray, List.set_cons_zero, List.set_cons_succ])
                        refine' wpAnyH_take (i := 18) (oi := ?oi59) (v := ?v59) ?hi59 (by kernel_rfl) (by kernel_rfl) (by kernel_rfl) ?hq59 ?hy59 (by assumption) ?rest59
                        case hi59 => (simp only [List.getElem?_toArray, List.getElem?_cons_zero, List.getElem?_cons_succ]; rfl)
                        case hq59 => exact fun _ _ _ h => h
                        case hy59 => (refine Or.inl ⟨by rfl, ?_⟩; intro w' hSw; (try dsimp only at hSw); go_simp; try with_reducible rfl)
                        (try simp only [Act.put, List.setIfInBounds_toArray, List.set_cons_zero, List.set_cons_succ])
                        refine' wpAnyH_take (i := 19) (oi := ?oi60) (v := ?v60) ?hi60 (by kernel_rfl) (by kernel_rfl) (by kernel_rfl) ?hq60 ?hy60 (by assumption) ?rest60
                        case hi60 => (simp only [List.getElem?_toArray, List.getElem?_cons_zero, List.getElem?_cons_succ]; rfl)
                        case hq60 => exact fun _ _ _ h => h
                        case hy60 => (refine Or.inl ⟨by rfl, ?_⟩; intro w' hSw; (try dsimp only at hSw); go_simp; try with_reducible rfl)
                        (try simp only [Act.put, List.setIfInBounds_toArray, List.set_cons_zero, List.set_cons_succ])
                        refine wpAnyH_done (by kernel_rfl) ?_ _
                        go_wp2
                        go_roundw
                        case rel => exact ⟨k + 1, by omega, by go_num, HX2⟩
                        case measure => simp [intOf]; omega
                    · have d1 : decide (a ≤ (k : Int)) = false := decide_eq_false h1
                      clear hin h1
                      rcases gb with _ | _
                      · go_wp2
                        go_quiet (fail)
                        rename_i nq
                        obtain ⟨W12, hW12⟩ : ∃ W12, wr.drewN nq = W12 := ⟨_, rfl⟩
                        have HX0 : Hid (Below W11.heap.size W11 W12) := by rw [← hW12]; exact hid (below_drewN HX.out nq)
                        rw [hW12]
                        clear hW12 HX hy1 hy2
                        obtain ⟨z0, z1, z2⟩ := (BZ.out.below HX0.out).facts
                        obtain ⟨x0, x1, x2⟩ := (BX.out.below HX0.out).facts
                        have HXD : Hid (Below W11.heap.size W11 W12.drew) := hid ⟨HX0.out.os, HX0.out.tape, HX0.out.output, HX0.out.size, HX0.out.block⟩
                        go_wp2_with fail
                        refine wp_region_held_drew (S := (fun W : World => W.cell? ⟨gz, 0, none⟩ = some (.int .i64 (N : Int)) ∧ W.cell? ⟨gz, 1, none⟩ = some (.slice A9 us9.length c9) ∧ W.cell? ⟨w4.heap.size, 0, none⟩ = some (.int .i64 (N : Int)) ∧ W.cell? ⟨w4.heap.size, 1, none⟩ = some (.slice A1 us1.length c1))) (by kernel_rfl) ⟨z0, z1, x0, x1⟩ (fun hHeld => ?_)
                        refine' wpAnyH_take (i := 0) (oi := ?oi61) (v := ?v61) ?hi61 (by kernel_rfl) (by kernel_rfl) (by kernel_rfl) ?hq61 ?hy61 (by assumption) ?rest61
                        case hi61 => (simp only [List.getElem?_toArray, List.getElem?_cons_zero]; rfl)
                        case hq61 => exact fun _ _ _ h => h
                        case hy61 => (refine Or.inl ⟨by rfl, ?_⟩; intro w' hSw; (try dsimp only at hSw); go_simp; try with_reducible rfl)
                        (try simp only [Act.put, List.setIfInBounds_toArray, List.set_cons_zero, List.set_cons_succ])
                        refine' wpAnyH_take (i := 1) (oi := ?oi62) (v := ?v62) ?hi62 (by kernel_rfl) (by kernel_rfl) (by kernel_rfl) ?hq62 ?hy62 (by assumption) ?rest62
                        case hi62 => (simp only [List.getElem?_toArray, List.getElem?_cons_zero, List.getElem?_cons_succ]; rfl)
                        case hq62 => exact fun _ _ _ h => h
                        case hy62 => (refine Or.inl ⟨by rfl, ?_⟩; intro w' hSw; (try dsimp only at hSw); go_simp; try with_reducible rfl)
                        (try simp only [Act.put, List.setIfInBounds_toArray, List.set_cons_zero, List.set_cons_succ])
                        refine' wpAnyH_take (i := 3) (oi := ?oi63) (v := ?v63) ?hi63 (by kernel_rfl) (by kernel_rfl) (by kernel_rfl) ?hq63 ?hy63 (by assumption) ?rest63
                        case hi63 => (simp only [List.getElem?_toArray, List.getElem?_cons_zero, List.getElem?_cons_succ]; rfl)
                        case hq63 => exact fun _ _ _ h => h
                        case hy63 => (refine Or.inl ⟨by rfl, ?_⟩; intro w' hSw; (try dsimp only at hSw); go_simp; try with_reducible rfl)
                        (try simp only [Act.put, List.setIfInBounds_toArray, List.set_cons_zero, List.set_cons_succ])
                        refine' wpAnyH_take (i := 4) (oi := ?oi64) (v := ?v64) ?hi64 (by kernel_rfl) (by kernel_rfl) (by kernel_rfl) ?hq64 ?hy64 (by assumption) ?rest64
                        case hi64 => (simp only [List.getElem?_toArray, List.getElem?_cons_zero, List.getElem?_cons_succ]; rfl)
                        case hq64 => exact fun _ _ _ h => h
                        case hy64 => (refine Or.inl ⟨by rfl, ?_⟩; intro w' hSw; (try dsimp only at hSw); go_simp; try with_reducible rfl)
                        (try simp only [Act.put, List.setIfInBounds_toArray, List.set_cons_zero, List.set_cons_succ])
                        refine wpAnyH_ready (rs := [2]) (by kernel_rfl) (by simp) ?_
                        refine' AllReadyH.cons (o := ?oi65) ?hi65 (fun K hK => ?st65) AllReadyH.nil
                        case hi65 => (simp only [List.getElem?_toArray, List.getElem?_cons_zero, List.getElem?_cons_succ]; rfl)
                        go_simp
                        refine (HGZ.out _ HXD.out).mono ?_
                        rintro e w13 ⟨rfl, hb9⟩
                        have HX1 := hid (below_both HXD.out hb9)
                        clear hb9
                        clear z0 z1 z2 x0 x1 x2
                        obtain ⟨z0, z1, z2⟩ := (BZ.out.below HX1.out).facts
                        obtain ⟨x0, x1, x2⟩ := (BX.out.below HX1.out).facts
                        refine hK.out _ _ ⟨z0, z1, x0, x1⟩ (fun hHeld => ?_)
                        clear hK K
                        (try simp only [Act.put, List.setIfInBounds_toArray, List.set_cons_zero, List.set_cons_succ])
                        refine wpAnyH_ready (rs := [5]) (by kernel_rfl) (by simp) ?_
                        refine' AllReadyH.cons (o := ?oi66) ?hi66 (fun K hK => ?st66) AllReadyH.nil
                        case hi66 => (simp only [List.getElem?_toArray, List.getElem?_cons_zero, List.getElem?_cons_succ]; rfl)
                        go_simp
                        refine (HGX.out _ HX1.out).mono ?_
                        rintro e w14 ⟨rfl, hb9⟩
                        have HX2 := hid (below_both HX1.out hb9)
                        clear hb9
                        clear z0 z1 z2 x0 x1 x2
                        obtain ⟨z0, z1, z2⟩ := (BZ.out.below HX2.out).facts
                        obtain ⟨x0, x1, x2⟩ := (BX.out.below HX2.out).facts
                        refine hK.out _ _ ⟨z0, z1, x0, x1⟩ (fun hHeld => ?_)
                        clear hK K
                        (try simp only [Act.put, List.setIfInBounds_toArray, List.set_cons_zero, List.set_cons_succ])
                        refine' wpAnyH_take (i := 6) (oi := ?oi67) (v := ?v67) ?hi67 (by kernel_rfl) (by kernel_rfl) (by kernel_rfl) ?hq67 ?hy67 (by assumption) ?rest67
                        case hi67 => (simp only [List.getElem?_toArray, List.getElem?_cons_zero, List.getElem?_cons_succ]; rfl)
                        case hq67 => exact fun _ _ _ h => h
                        case hy67 => (refine Or.inl ⟨by rfl, ?_⟩; intro w' hSw; (try dsimp only at hSw); go_simp; try with_reducible rfl)
                        (try simp only [Act.put, List.setIfInBounds_toArray, List.set_cons_zero, List.set_cons_succ])
                        refine' wpAnyH_take (i := 7) (oi := ?oi68) (v := undef) ?hi68 (by kernel_rfl) (by kernel_rfl) (by kernel_rfl) ?hq68 ?hy68 (by assumption) ?rest68
                        case hi68 => (simp only [List.getElem?_toArray, List.getElem?_cons_zero, List.getElem?_cons_succ]; rfl)
                        case hq68 => exact fun _ _ _ h => h
                        case hy68 => exact Or.inr ⟨by rfl, rfl⟩
                        (try simp only [Act.put, List.setIfInBounds_toArray, List.set_cons_zero, List.set_cons_succ])
                        refine' wpAnyH_take (i := 8) (oi := ?oi69) (v := undef) ?hi69 (by kernel_rfl) (by kernel_rfl) (by kernel_rfl) ?hq69 ?hy69 (by assumption) ?rest69
                        case hi69 => (simp only [List.getElem?_toArray, List.getElem?_cons_zero, List.getElem?_cons_succ]; rfl)
                        case hq69 => exact fun _ _ _ h => h
                        case hy69 => exact Or.inr ⟨by rfl, rfl⟩
                        (try simp only [Act.put, List.setIfInBounds_toArray, List.set_cons_zero, List.set_cons_succ])
                        refine' wpAnyH_take (i := 9) (oi := ?oi70) (v := ?v70) ?hi70 (by kernel_rfl) (by kernel_rfl) (by kernel_rfl) ?hq70 ?hy70 (by assumption) ?rest70
                        case hi70 => (simp only [List.getElem?_toArray, List.getElem?_cons_zero, List.getElem?_cons_succ]; rfl)
                        case hq70 => exact fun _ _ _ h => h
                        case hy70 => (refine Or.inl ⟨by rfl, ?_⟩; intro w' hSw; (try dsimp only at hSw); go_simp; try with_reducible rfl)
                        (try simp only [Act.put, List.setIfInBounds_toArray, List.set_cons_zero, List.set_cons_succ])
                        refine' wpAnyH_take (i := 10) (oi := ?oi71) (v := ?v71) ?hi71 (by kernel_rfl) (by kernel_rfl) (by kernel_rfl) ?hq71 ?hy71 (by assumption) ?rest71
                        case hi71 => (simp only [List.getElem?_toArray, List.getElem?_cons_zero, List.getElem?_cons_succ]; rfl)
                        case hq71 => exact fun _ _ _ h => h
                        case hy71 => (refine Or.inl ⟨by rfl, ?_⟩; intro w' hSw; (try dsimp only at hSw); go_simp; try with_reducible rfl)
                        (try simp only [Act.put, List.setIfInBounds_toArray, List.set_cons_zero, List.set_cons_succ])
                        refine' wpAnyH_take (i := 11) (oi := ?oi72) (v := ?v72) ?hi72 (by kernel_rfl) (by kernel_rfl) (by kernel_rfl) ?hq72 ?hy72 (by assumption) ?rest72
                        case hi72 => (simp only [List.getElem?_toArray, List.getElem?_cons_zero, List.getElem?_cons_succ]; rfl)
                        case hq72 => exact fun _ _ _ h => h
                        case hy72 => (refine Or.inl ⟨by rfl, ?_⟩; intro w' hSw; (try dsimp only at hSw); go_simp; try with_reducible rfl)
                        (try simp only [Act.put, List.setIfInBounds_toArray, List.set_cons_zero, List.set_cons_succ])
                        refine' wpAnyH_take (i := 12) (oi := ?oi73) (v := ?v73) ?hi73 (by kernel_rfl) (by kernel_rfl) (by kernel_rfl) ?hq73 ?hy73 (by assumption) ?rest73
                        case hi73 => (simp only [List.getElem?_toArray, List.getElem?_cons_zero, List.getElem?_cons_succ]; rfl)
                        case hq73 => exact fun _ _ _ h => h
                        case hy73 => (refine Or.inl ⟨by rfl, ?_⟩; intro w' hSw; (try dsimp only at hSw); go_simp; try with_reducible rfl)
                        (try simp only [Act.put, List.setIfInBounds_toArray, List.set_cons_zero, List.set_cons_succ])
                        refine' wpAnyH_take (i := 13) (oi := ?oi74) (v := ?v74) ?hi74 (by kernel_rfl) (by kernel_rfl) (by kernel_rfl) ?hq74 ?hy74 (by assumption) ?rest74
                        case hi74 => (simp only [List.getElem?_toArray, List.getElem?_cons_zero, List.getElem?_cons_succ]; rfl)
                        case hq74 => exact fun _ _ _ h => h
                        case hy74 => (refine Or.inl ⟨by rfl, ?_⟩; intro w' hSw; (try dsimp only at hSw); go_simp; try with_reducible rfl)
                        (try simp only [Act.put, List.setIfInBounds_toArray, List.set_cons_zero, List.set_cons_succ])
                        refine' wpAnyH_take (i := 14) (oi := ?oi75) (v := undef) ?hi75 (by kernel_rfl) (by kernel_rfl) (by kernel_rfl) ?hq75 ?hy75 (by assumption) ?rest75
                        case hi75 => (simp only [List.getElem?_toArray, List.getElem?_cons_zero, List.getElem?_cons_succ]; rfl)
                        case hq75 => exact fun _ _ _ h => h
                        case hy75 => exact Or.inr ⟨by rfl, rfl⟩
                        (try simp only [Act.put, List.setIfInBounds_toArray, List.set_cons_zero, List.set_cons_succ])
                        refine' wpAnyH_take (i := 15) (oi := ?oi76) (v := undef) ?hi76 (by kernel_rfl) (by kernel_rfl) (by kernel_rfl) ?hq76 ?hy76 (by assumption) ?rest76
                        case hi76 => (simp only [List.getElem?_toArray, List.getElem?_cons_zero, List.getElem?_cons_succ]; rfl)
                        case hq76 => exact fun _ _ _ h => h
                        case hy76 => exact Or.inr ⟨by rfl, rfl⟩
                        (try simp only [Act.put, List.setIfInBounds_toArray, List.set_cons_zero, List.set_cons_succ])
                        refine' wpAnyH_take (i := 16) (oi := ?oi77) (v := undef) ?hi77 (by kernel_rfl) (by kernel_rfl) (by kernel_rfl) ?hq77 ?hy77 (by assumption) ?rest77
                        case hi77 => (simp only [List.getElem?_toArray, List.getElem?_cons_zero, List.getElem?_cons_succ]; rfl)
                        case hq77 => exact fun _ _ _ h => h
                        case hy77 => exact Or.inr ⟨by rfl, rfl⟩
                        (try simp only [Act.put, List.setIfInBounds_toArray, List.set_cons_zero, List.set_cons_succ])
                        refine' wpAnyH_take (i := 17) (oi := ?oi78) (v := undef) ?hi78 (by kernel_rfl) (by kernel_rfl) (by kernel_rfl) ?hq78 ?hy78 (by assumption) ?rest78
                        case hi78 => (simp only [List.getElem?_toArray, List.getElem?_cons_zero, List.getElem?_cons_succ]; rfl)
                        case hq78 => exact fun _ _ _ h => h
                        case hy78 => exact Or.inr ⟨by rfl, rfl⟩
                        (try simp only [Act.put, List.setIfInBounds_toArray, List.set_cons_zero, List.set_cons_succ])
                        refine' wpAnyH_take (i := 18) (oi := ?oi79) (v := ?v79) ?hi79 (by kernel_rfl) (by kernel_rfl) (by kernel_rfl) ?hq79 ?hy79 (by assumption) ?rest79
                        case hi79 => (simp only [List.getElem?_toArray, List.getElem?_cons_zero, List.getElem?_cons_succ]; rfl)
                        case hq79 => exact fun _ _ _ h => h
                        case hy79 => (refine Or.inl ⟨by rfl, ?_⟩; intro w' hSw; (try dsimp only at hSw); go_simp; try with_reducible rfl)
                        (try simp only [Act.put, List.setIfInBounds_toArray, List.set_cons_zero, List.set_cons_succ])
                        refine' wpAnyH_take (i := 19) (oi := ?oi80) (v := ?v80) ?hi80 (by kernel_rfl) (by kernel_rfl) (by kernel_rfl) ?hq80 ?hy80 (by assumption) ?rest80
                        case hi80 => (simp only [List.getElem?_toArray, List.getElem?_cons_zero, List.getElem?_cons_succ]; rfl)
                        case hq80 => exact fun _ _ _ h => h
                        case hy80 => (refine Or.inl ⟨by rfl, ?_⟩; intro w' hSw; (try dsimp only at hSw); go_simp; try with_reducible rfl)
                        (try simp only [Act.put, List.setIfInBounds_toArray, List.set_cons_zero, List.set_cons_succ])
                        refine wpAnyH_done (by kernel_rfl) ?_ _
                        go_wp2
                        go_roundw
                        case rel => exact ⟨k + 1, by omega, by go_num, HX2⟩
                        case measure => simp [intOf]; omega
                      · go_wp2
                        go_quiet (fail)
                        rename_i nq
                        obtain ⟨W12, hW12⟩ : ∃ W12, wr.drewN nq = W12 := ⟨_, rfl⟩
                        have HX0 : Hid (Below W11.heap.size W11 W12) := by rw [← hW12]; exact hid (below_drewN HX.out nq)
                        rw [hW12]
                        clear hW12 HX hy1 hy2
                        obtain ⟨z0, z1, z2⟩ := (BZ.out.below HX0.out).facts
                        obtain ⟨x0, x1, x2⟩ := (BX.out.below HX0.out).facts
                        have HXD : Hid (Below W11.heap.size W11 W12.drew) := hid ⟨HX0.out.os, HX0.out.tape, HX0.out.output, HX0.out.size, HX0.out.block⟩
                        go_wp2_with fail
                        refine wp_region_held_drew (S := (fun W : World => W.cell? ⟨gz, 0, none⟩ = some (.int .i64 (N : Int)) ∧ W.cell? ⟨gz, 1, none⟩ = some (.slice A9 us9.length c9) ∧ W.cell? ⟨w4.heap.size, 0, none⟩ = some (.int .i64 (N : Int)) ∧ W.cell? ⟨w4.heap.size, 1, none⟩ = some (.slice A1 us1.length c1))) (by kernel_rfl) ⟨z0, z1, x0, x1⟩ (fun hHeld => ?_)
                        refine' wpAnyH_take (i := 0) (oi := ?oi81) (v := ?v81) ?hi81 (by kernel_rfl) (by kernel_rfl) (by kernel_rfl) ?hq81 ?hy81 (by assumption) ?rest81
                        case hi81 => (simp only [List.getElem?_toArray, List.getElem?_cons_zero]; rfl)
                        case hq81 => exact fun _ _ _ h => h
                        case hy81 => (refine Or.inl ⟨by rfl, ?_⟩; intro w' hSw; (try dsimp only at hSw); go_simp; try with_reducible rfl)
                        (try simp only [Act.put, List.setIfInBounds_toArray, List.set_cons_zero, List.set_cons_succ])
                        refine' wpAnyH_take (i := 1) (oi := ?oi82) (v := ?v82) ?hi82 (by kernel_rfl) (by kernel_rfl) (by kernel_rfl) ?hq82 ?hy82 (by assumption) ?rest82
                        case hi82 => (simp only [List.getElem?_toArray, List.getElem?_cons_zero, List.getElem?_cons_succ]; rfl)
                        case hq82 => exact fun _ _ _ h => h
                        case hy82 => (refine Or.inl ⟨by rfl, ?_⟩; intro w' hSw; (try dsimp only at hSw); go_simp; try with_reducible rfl)
                        (try simp only [Act.put, List.setIfInBounds_toArray, List.set_cons_zero, List.set_cons_succ])
                        refine' wpAnyH_take (i := 3) (oi := ?oi83) (v := ?v83) ?hi83 (by kernel_rfl) (by kernel_rfl) (by kernel_rfl) ?hq83 ?hy83 (by assumption) ?rest83
                        case hi83 => (simp only [List.getElem?_toArray, List.getElem?_cons_zero, List.getElem?_cons_succ]; rfl)
                        case hq83 => exact fun _ _ _ h => h
                        case hy83 => (refine Or.inl ⟨by rfl, ?_⟩; intro w' hSw; (try dsimp only at hSw); go_simp; try with_reducible rfl)
                        (try simp only [Act.put, List.setIfInBounds_toArray, List.set_cons_zero, List.set_cons_succ])
                        refine' wpAnyH_take (i := 4) (oi := ?oi84) (v := ?v84) ?hi84 (by kernel_rfl) (by kernel_rfl) (by kernel_rfl) ?hq84 ?hy84 (by assumption) ?rest84
                        case hi84 => (simp only [List.getElem?_toArray, List.getElem?_cons_zero, List.getElem?_cons_succ]; rfl)
                        case hq84 => exact fun _ _ _ h => h
                        case hy84 => (refine Or.inl ⟨by rfl, ?_⟩; intro w' hSw; (try dsimp only at hSw); go_simp; try with_reducible rfl)
                        (try simp only [Act.put, List.setIfInBounds_toArray, List.set_cons_zero, List.set_cons_succ])
                        refine wpAnyH_ready (rs := [2]) (by kernel_rfl) (by simp) ?_
                        refine' AllReadyH.cons (o := ?oi85) ?hi85 (fun K hK => ?st85) AllReadyH.nil
                        case hi85 => (simp only [List.getElem?_toArray, List.getElem?_cons_zero, List.getElem?_cons_succ]; rfl)
                        go_simp
                        refine (HGZ.out _ HXD.out).mono ?_
                        rintro e w13 ⟨rfl, hb9⟩
                        have HX1 := hid (below_both HXD.out hb9)
                        clear hb9
                        clear z0 z1 z2 x0 x1 x2
                        obtain ⟨z0, z1, z2⟩ := (BZ.out.below HX1.out).facts
                        obtain ⟨x0, x1, x2⟩ := (BX.out.below HX1.out).facts
                        refine hK.out _ _ ⟨z0, z1, x0, x1⟩ (fun hHeld => ?_)
                        clear hK K
                        (try simp only [Act.put, List.setIfInBounds_toArray, List.set_cons_zero, List.set_cons_succ])
                        refine wpAnyH_ready (rs := [5]) (by kernel_rfl) (by simp) ?_
                        refine' AllReadyH.cons (o := ?oi86) ?hi86 (fun K hK => ?st86) AllReadyH.nil
                        case hi86 => (simp only [List.getElem?_toArray, List.getElem?_cons_zero, List.getElem?_cons_succ]; rfl)
                        go_simp
                        refine (HGX.out _ HX1.out).mono ?_
                        rintro e w14 ⟨rfl, hb9⟩
                        have HX2 := hid (below_both HX1.out hb9)
                        clear hb9
                        clear z0 z1 z2 x0 x1 x2
                        obtain ⟨z0, z1, z2⟩ := (BZ.out.below HX2.out).facts
                        obtain ⟨x0, x1, x2⟩ := (BX.out.below HX2.out).facts
                        refine hK.out _ _ ⟨z0, z1, x0, x1⟩ (fun hHeld => ?_)
                        clear hK K
                        (try simp only [Act.put, List.setIfInBounds_toArray, List.set_cons_zero, List.set_cons_succ])
                        refine' wpAnyH_take (i := 6) (oi := ?oi87) (v := ?v87) ?hi87 (by kernel_rfl) (by kernel_rfl) (by kernel_rfl) ?hq87 ?hy87 (by assumption) ?rest87
                        case hi87 => (simp only [List.getElem?_toArray, List.getElem?_cons_zero, List.getElem?_cons_succ]; rfl)
                        case hq87 => exact fun _ _ _ h => h
                        case hy87 => (refine Or.inl ⟨by rfl, ?_⟩; intro w' hSw; (try dsimp only at hSw); go_simp; try with_reducible rfl)
                        (try simp only [Act.put, List.setIfInBounds_toArray, List.set_cons_zero, List.set_cons_succ])
                        refine' wpAnyH_take (i := 7) (oi := ?oi88) (v := ?v88) ?hi88 (by kernel_rfl) (by kernel_rfl) (by kernel_rfl) ?hq88 ?hy88 (by assumption) ?rest88
                        case hi88 => (simp only [List.getElem?_toArray, List.getElem?_cons_zero, List.getElem?_cons_succ]; rfl)
                        case hq88 => exact fun _ _ _ h => h
                        case hy88 => (refine Or.inl ⟨by rfl, ?_⟩; intro w' hSw; (try dsimp only at hSw); go_simp; try with_reducible rfl)
                        (try simp only [Act.put, List.setIfInBounds_toArray, List.set_cons_zero, List.set_cons_succ])
                        refine' wpAnyH_take (i := 8) (oi := ?oi89) (v := ?v89) ?hi89 (by kernel_rfl) (by kernel_rfl) (by kernel_rfl) ?hq89 ?hy89 (by assumption) ?rest89
                        case hi89 => (simp only [List.getElem?_toArray, List.getElem?_cons_zero, List.getElem?_cons_succ]; rfl)
                        case hq89 => exact fun _ _ _ h => h
                        case hy89 => (refine Or.inl ⟨by rfl, ?_⟩; intro w' hSw; (try dsimp only at hSw); go_simp; try with_reducible rfl)
                        (try simp only [Act.put, List.setIfInBounds_toArray, List.set_cons_zero, List.set_cons_succ])
                        refine' wpAnyH_take (i := 9) (oi := ?oi90) (v := ?v90) ?hi90 (by kernel_rfl) (by kernel_rfl) (by kernel_rfl) ?hq90 ?hy90 (by assumption) ?rest90
                        case hi90 => (simp only [List.getElem?_toArray, List.getElem?_cons_zero, List.getElem?_cons_succ]; rfl)
                        case hq90 => exact fun _ _ _ h => h
                        case hy90 => (refine Or.inl ⟨by rfl, ?_⟩; intro w' hSw; (try dsimp only at hSw); go_simp; try with_reducible rfl)
                        (try simp only [Act.put, List.setIfInBounds_toArray, List.set_cons_zero, List.set_cons_succ])
                        refine' wpAnyH_take (i := 10) (oi := ?oi91) (v := ?v91) ?hi91 (by kernel_rfl) (by kernel_rfl) (by kernel_rfl) ?hq91 ?hy91 (by assumption) ?rest91
                        case hi91 => (simp only [List.getElem?_toArray, List.getElem?_cons_zero, List.getElem?_cons_succ]; rfl)
                        case hq91 => exact fun _ _ _ h => h
                        case hy91 => (refine Or.inl ⟨by rfl, ?_⟩; intro w' hSw; (try dsimp only at hSw); go_simp; try with_reducible rfl)
                        (try simp only [Act.put, List.setIfInBounds_toArray, List.set_cons_zero, List.set_cons_succ])
                        refine' wpAnyH_take (i := 11) (oi := ?oi92) (v := ?v92) ?hi92 (by kernel_rfl) (by kernel_rfl) (by kernel_rfl) ?hq92 ?hy92 (by assumption) ?rest92
                        case hi92 => (simp only [List.getElem?_toArray, List.getElem?_cons_zero, List.getElem?_cons_succ]; rfl)
                        case hq92 => exact fun _ _ _ h => h
                        case hy92 => (refine Or.inl ⟨by rfl, ?_⟩; intro w' hSw; (try dsimp only at hSw); go_simp; try with_reducible rfl)
                        (try simp only [Act.put, List.setIfInBounds_toArray, List.set_cons_zero, List.set_cons_succ])
                        refine' wpAnyH_take (i := 12) (oi := ?oi93) (v := ?v93) ?hi93 (by kernel_rfl) (by kernel_rfl) (by kernel_rfl) ?hq93 ?hy93 (by assumption) ?rest93
                        case hi93 => (simp only [List.getElem?_toArray, List.getElem?_cons_zero, List.getElem?_cons_succ]; rfl)
                        case hq93 => exact fun _ _ _ h => h
                        case hy93 => (refine Or.inl ⟨by rfl, ?_⟩; intro w' hSw; (try dsimp only at hSw); go_simp; try with_reducible rfl)
                        (try simp only [Act.put, List.setIfInBounds_toArray, List.set_cons_zero, List.set_cons_succ])
                        refine' wpAnyH_take (i := 13) (oi := ?oi94) (v := ?v94) ?hi94 (by kernel_rfl) (by kernel_rfl) (by kernel_rfl) ?hq94 ?hy94 (by assumption) ?rest94
                        case hi94 => (simp only [List.getElem?_toArray, List.getElem?_cons_zero, List.getElem?_cons_succ]; rfl)
                        case hq94 => exact fun _ _ _ h => h
                        case hy94 => (refine Or.inl ⟨by rfl, ?_⟩; intro w' hSw; (try dsimp only at hSw); go_simp; try with_reducible rfl)
                        (try simp only [Act.put, List.setIfInBounds_toArray, List.set_cons_zero, List.set_cons_succ])
                        refine' wpAnyH_take (i := 14) (oi := ?oi95) (v := undef) ?hi95 (by kernel_rfl) (by kernel_rfl) (by kernel_rfl) ?hq95 ?hy95 (by assumption) ?rest95
                        case hi95 => (simp only [List.getElem?_toArray, List.getElem?_cons_zero, List.getElem?_cons_succ]; rfl)
                        case hq95 => exact fun _ _ _ h => h
                        case hy95 => exact Or.inr ⟨by rfl, rfl⟩
                        (try simp only [Act.put, List.setIfInBounds_toArray, List.set_cons_zero, List.set_cons_succ])
                        refine' wpAnyH_take (i := 15) (oi := ?oi96) (v := undef) ?hi96 (by kernel_rfl) (by kernel_rfl) (by kernel_rfl) ?hq96 ?hy96 (by assumption) ?rest96
                        case hi96 => (simp only [List.getElem?_toArray, List.getElem?_cons_zero, List.getElem?_cons_succ]; rfl)
                        case hq96 => exact fun _ _ _ h => h
                        case hy96 => exact Or.inr ⟨by rfl, rfl⟩
                        (try simp only [Act.put, List.setIfInBounds_toArray, List.set_cons_zero, List.set_cons_succ])
                        refine' wpAnyH_take (i := 16) (oi := ?oi97) (v := undef) ?hi97 (by kernel_rfl) (by kernel_rfl) (by kernel_rfl) ?hq97 ?hy97 (by assumption) ?rest97
                        case hi97 => (simp only [List.getElem?_toArray, List.getElem?_cons_zero, List.getElem?_cons_succ]; rfl)
                        case hq97 => exact fun _ _ _ h => h
                        case hy97 => exact Or.inr ⟨by rfl, rfl⟩
                        (try simp only [Act.put, List.setIfInBounds_toArray, List.set_cons_zero, List.set_cons_succ])
                        refine' wpAnyH_take (i := 17) (oi := ?oi98) (v := undef) ?hi98 (by kernel_rfl) (by kernel_rfl) (by kernel_rfl) ?hq98 ?hy98 (by assumption) ?rest98
                        case hi98 => (simp only [List.getElem?_toArray, List.getElem?_cons_zero, List.getElem?_cons_succ]; rfl)
                        case hq98 => exact fun _ _ _ h => h
                        case hy98 => exact Or.inr ⟨by rfl, rfl⟩
                        (try simp only [Act.put, List.setIfInBounds_toArray, List.set_cons_zero, List.set_cons_succ])
                        refine' wpAnyH_take (i := 18) (oi := ?oi99) (v := ?v99) ?hi99 (by kernel_rfl) (by kernel_rfl) (by kernel_rfl) ?hq99 ?hy99 (by assumption) ?rest99
                        case hi99 => (simp only [List.getElem?_toArray, List.getElem?_cons_zero, List.getElem?_cons_succ]; rfl)
                        case hq99 => exact fun _ _ _ h => h
                        case hy99 => (refine Or.inl ⟨by rfl, ?_⟩; intro w' hSw; (try dsimp only at hSw); go_simp; try with_reducible rfl)
                        (try simp only [Act.put, List.setIfInBounds_toArray, List.set_cons_zero, List.set_cons_succ])
                        refine' wpAnyH_take (i := 19) (oi := ?oi100) (v := ?v100) ?hi100 (by kernel_rfl) (by kernel_rfl) (by kernel_rfl) ?hq100 ?hy100 (by assumption) ?rest100
                        case hi100 => (simp only [List.getElem?_toArray, List.getElem?_cons_zero, List.getElem?_cons_succ]; rfl)
                        case hq100 => exact fun _ _ _ h => h
                        case hy100 => (refine Or.inl ⟨by rfl, ?_⟩; intro w' hSw; (try dsimp only at hSw); go_simp; try with_reducible rfl)
                        (try simp only [Act.put, List.setIfInBounds_toArray, List.set_cons_zero, List.set_cons_succ])
                        refine wpAnyH_done (by kernel_rfl) ?_ _
                        go_wp2
                        go_roundw
                        case rel => exact ⟨k + 1, by omega, by go_num, HX2⟩
                        case measure => simp [intOf]; omega
                · obtain rfl : k = N := by omega
                  go_wp2_with fail
                  refine (HAW.out _ (below_both HBW.out HX.out)).mono ?_
                  rintro e w16 ⟨rfl, hb16⟩
                  have HF := hid (below_both (below_both HBW.out HX.out) hb16)
                  clear hb16
                  go_wp2
                  go_ret
                  exact ⟨rfl, HF.out⟩
            · obtain ⟨W11, hW11⟩ : ∃ W11, (w10.setCell ⟨w8.heap.size, 0, none⟩ (.int .i64 (N : Int))).setCell ⟨w8.heap.size, 1, none⟩ (.slice A9 us9.length c9) = W11 := ⟨_, rfl⟩
              have hz9 : Box w10 w8.heap.size 0 none 0 0 := HZ9.out
              have BZ : Hid (Box W11 w8.heap.size (N : Int) A9 us9.length c9) := by rw [← hW11]; exact hid hz9.set
              have BX : Hid (Box W11 w4.heap.size (N : Int) A1 us1.length c1) := by rw [← hW11]; exact hid ((B1.out.below HB9.out).other n3)
              have MX : Hid (Bm W11 (.agg #[.int .i64 (N : Int), .slice A1 us1.length c1]) (N : Int) us1) := by rw [← hW11]; exact hid (hz9.bm (M1.out.below HB9.out))
              have MZ : Hid (Bm W11 (.agg #[.int .i64 (N : Int), .slice A9 us9.length c9]) (N : Int) us9) := by rw [← hW11]; exact hid (hz9.bm M9.out)
              have HBW : Hid (Below w.heap.size w W11) := by rw [← hW11]; exact hid (box2_below (below_both HB.out HB9.out) HB.out.size)
              rw [hW11]
              obtain ⟨gz, hgz⟩ : ∃ gz, w8.heap.size = gz := ⟨_, rfl⟩
              rw [hgz] at BZ ⊢
              clear hW11 hgz hz9 x0 x1 x2 x3 y0 y1 fz0 fz1 HZ9 B1 M1 M9 HB9 HB B1c0 B1c1 B1c2 hc1 hc2 n1 n2 n3 n4
              go_wp2
              go_loopw [14] (fun i wr => ∃ k : Nat, k ≤ N ∧ i = .int .i64 (k : Int) ∧ Hid (Below W11.heap.size W11 wr)) (fun i _ => N - (intOf i).toNat)
              case atStart => exact ⟨0, by omega, rfl, hid (Below.refl _ _)⟩
              case round =>
                obtain ⟨k, hk, rfl, HX⟩ := hrel
                by_cases hkN : k < N
                · have hkI : (k : Int) < (N : Int) := by omega
                  have hbW : b < W11.heap.size := Nat.lt_of_lt_of_le hbl HBW.out.size
                  have hy1 := (HX.out.cell (p := ⟨b, off, none⟩) hbW).trans ((HBW.out.cell (p := ⟨b, off, none⟩) hbl).trans HL12.out.1)
                  have hy2 := (HX.out.cell (p := ⟨b, off + 1, none⟩) hbW).trans ((HBW.out.cell (p := ⟨b, off + 1, none⟩) hbl).trans HL12.out.2)
                  obtain ⟨hfa, hfc, hfd⟩ := HFIT.out
                  have hwr := IntWalk.i64_in (a + c) (by omega)
                  have hkR : R64 (k : Int) := by unfold R64; omega
                  have hu9 := HIF9.out.2 k hkI
                  have hu1 := HGB.out.2 k hkI
                  have hg9 := getB_yes (chk_good HIF9.out.1) hkI
                  have hg1 := getB_yes (chk_good HGB.out.1) hkI
                  rw [inL_one] at hu9
                  have HGZ0 := hid (fun (W : World) (h : Below W11.heap.size W11 W) => get_any (N : Int) us9 _ (k : Int) W (MZ.out.below h) hkR)
                  have HGX0 := hid (fun (W : World) (h : Below W11.heap.size W11 W) => get_any (N : Int) us1 _ (k : Int) W (MX.out.below h) hkR)
                  rw [hg9] at HGZ0
                  rw [hg1] at HGX0
                  clear hg9 hg1
                  by_cases hin : a ≤ (k : Int) ∧ (k : Int) < a + c
                  · have e1 : bit us1 k = true := by rw [hu1]; exact inL_mem HE.out hin
                    have e9 : bit us9 k = false := by rw [hu9, decide_eq_true hin]; simp
                    rw [e9] at HGZ0
                    rw [e1] at HGX0
                    have HGZ := hid HGZ0.out
                    have HGX := hid HGX0.out
                    have d1 : decide (a ≤ (k : Int)) = true := decide_eq_true hin.1
                    have d2 : decide ((k : Int) < a + c) = true := decide_eq_true hin.2
                    clear e1 e9 hu9 hu1 hin HGZ0 HGX0
                    go_wp2
                    go_quiet (fail)
                    rename_i nq
                    obtain ⟨W12, hW12⟩ : ∃ W12, wr.drewN nq = W12 := ⟨_, rfl⟩
                    have HX0 : Hid (Below W11.heap.size W11 W12) := by rw [← hW12]; exact hid (below_drewN HX.out nq)
                    rw [hW12]
                    clear hW12 HX hy1 hy2
                    obtain ⟨z0, z1, z2⟩ := (BZ.out.below HX0.out).facts
                    obtain ⟨x0, x1, x2⟩ := (BX.out.below HX0.out).facts
                    have HXD : Hid (Below W11.heap.size W11 W12.drew) := hid ⟨HX0.out.os, HX0.out.tape, HX0.out.output, HX0.out.size, HX0.out.block⟩
                    go_wp2_with fail
                    refine wp_region_held_drew (S := (fun W : World => W.cell? ⟨gz, 0, none⟩ = some (.int .i64 (N : Int)) ∧ W.cell? ⟨gz, 1, none⟩ = some (.slice A9 us9.length c9) ∧ W.cell? ⟨w4.heap.size, 0, none⟩ = some (.int .i64 (N : Int)) ∧ W.cell? ⟨w4.heap.size, 1, none⟩ = some (.slice A1 us1.length c1))) (by kernel_rfl) ⟨z0, z1, x0, x1⟩ (fun hHeld => ?_)
                    refine' wpAnyH_take (i := 0) (oi := ?oi101) (v := ?v101) ?hi101 (by kernel_rfl) (by kernel_rfl) (by kernel_rfl) ?hq101 ?hy101 (by assumption) ?rest101
                    case hi101 => (simp only [List.getElem?_toArray, List.getElem?_cons_zero]; rfl)
                    case hq101 => exact fun _ _ _ h => h
                    case hy101 => (refine Or.inl ⟨by rfl, ?_⟩; intro w' hSw; (try dsimp only at hSw); go_simp; try with_reducible rfl)
                    (try simp only [Act.put, List.setIfInBounds_toArray, List.set_cons_zero, List.set_cons_succ])
                    refine' wpAnyH_take (i := 1) (oi := ?oi102) (v := ?v102) ?hi102 (by kernel_rfl) (by kernel_rfl) (by kernel_rfl) ?hq102 ?hy102 (by assumption) ?rest102
                    case hi102 => (simp only [List.getElem?_toArray, List.getElem?_cons_zero, List.getElem?_cons_succ]; rfl)
                    case hq102 => exact fun _ _ _ h => h
                    case hy102 => (refine Or.inl ⟨by rfl, ?_⟩; intro w' hSw; (try dsimp only at hSw); go_simp; try with_reducible rfl)
                    (try simp only [Act.put, List.setIfInBounds_toArray, List.set_cons_zero, List.set_cons_succ])
                    refine' wpAnyH_take (i := 3) (oi := ?oi103) (v := ?v103) ?hi103 (by kernel_rfl) (by kernel_rfl) (by kernel_rfl) ?hq103 ?hy103 (by assumption) ?rest103
                    case hi103 => (simp only [List.getElem?_toArray, List.getElem?_cons_zero, List.getElem?_cons_succ]; rfl)
                    case hq103 => exact fun _ _ _ h => h
                    case hy103 => (refine Or.inl ⟨by rfl, ?_⟩; intro w' hSw; (try dsimp only at hSw); go_simp; try with_reducible rfl)
                    (try simp only [Act.put, List.setIfInBounds_toArray, List.set_cons_zero, List.set_cons_succ])
                    refine' wpAnyH_take (i := 4) (oi := ?oi104) (v := ?v104) ?hi104 (by kernel_rfl) (by kernel_rfl) (by kernel_rfl) ?hq104 ?hy104 (by assumption) ?rest104
                    case hi104 => (simp only [List.getElem?_toArray, List.getElem?_cons_zero, List.getElem?_cons_succ]; rfl)
                    case hq104 => exact fun _ _ _ h => h
                    case hy104 => (refine Or.inl ⟨by rfl, ?_⟩; intro w' hSw; (try dsimp only at hSw); go_simp; try with_reducible rfl)
                    (try simp only [Act.put, List.setIfInBounds_toArray, List.set_cons_zero, List.set_cons_succ])
                    refine wpAnyH_ready (rs := [2]) (by kernel_rfl) (by simp) ?_
                    refine' AllReadyH.cons (o := ?oi105) ?hi105 (fun K hK => ?st105) AllReadyH.nil
                    case hi105 => (simp only [List.getElem?_toArray, List.getElem?_cons_zero, List.getElem?_cons_succ]; rfl)
                    go_simp
                    refine (HGZ.out _ HXD.out).mono ?_
                    rintro e w13 ⟨rfl, hb9⟩
                    have HX1 := hid (below_both HXD.out hb9)
                    clear hb9
                    clear z0 z1 z2 x0 x1 x2
                    obtain ⟨z0, z1, z2⟩ := (BZ.out.below HX1.out).facts
                    obtain ⟨x0, x1, x2⟩ := (BX.out.below HX1.out).facts
                    refine hK.out _ _ ⟨z0, z1, x0, x1⟩ (fun hHeld => ?_)
                    clear hK K
                    (try simp only [Act.put, List.setIfInBounds_toArray, List.set_cons_zero, List.set_cons_succ])
                    refine wpAnyH_ready (rs := [5]) (by kernel_rfl) (by simp) ?_
                    refine' AllReadyH.cons (o := ?oi106) ?hi106 (fun K hK => ?st106) AllReadyH.nil
                    case hi106 => (simp only [List.getElem?_toArray, List.getElem?_cons_zero, List.getElem?_cons_succ]; rfl)
                    go_simp
                    refine (HGX.out _ HX1.out).mono ?_
                    rintro e w14 ⟨rfl, hb9⟩
                    have HX2 := hid (below_both HX1.out hb9)
                    clear hb9
                    clear z0 z1 z2 x0 x1 x2
                    obtain ⟨z0, z1, z2⟩ := (BZ.out.below HX2.out).facts
                    obtain ⟨x0, x1, x2⟩ := (BX.out.below HX2.out).facts
                    refine hK.out _ _ ⟨z0, z1, x0, x1⟩ (fun hHeld => ?_)
                    clear hK K
                    (try simp only [Act.put, List.setIfInBounds_toArray, List.set_cons_zero, List.set_cons_succ])
                    refine' wpAnyH_take (i := 6) (oi := ?oi107) (v := ?v107) ?hi107 (by kernel_rfl) (by kernel_rfl) (by kernel_rfl) ?hq107 ?hy107 (by assumption) ?rest107
                    case hi107 => (simp only [List.getElem?_toArray, List.getElem?_cons_zero, List.getElem?_cons_succ]; rfl)
                    case hq107 => exact fun _ _ _ h => h
                    case hy107 => (refine Or.inl ⟨by rfl, ?_⟩; intro w' hSw; (try dsimp only at hSw); go_simp; try with_reducible rfl)
                    (try simp only [Act.put, List.setIfInBounds_toArray, List.set_cons_zero, List.set_cons_succ])
                    refine' wpAnyH_take (i := 7) (oi := ?oi108) (v := ?v108) ?hi108 (by kernel_rfl) (by kernel_rfl) (by kernel_rfl) ?hq108 ?hy108 (by assumption) ?rest108
                    case hi108 => (simp only [List.getElem?_toArray, List.getElem?_cons_zero, List.getElem?_cons_succ]; rfl)
                    case hq108 => exact fun _ _ _ h => h
                    case hy108 => (refine Or.inl ⟨by rfl, ?_⟩; intro w' hSw; (try dsimp only at hSw); go_simp; try with_reducible rfl)
                    (try simp only [Act.put, List.setIfInBounds_toArray, List.set_cons_zero, List.set_cons_succ])
                    refine' wpAnyH_take (i := 8) (oi := ?oi109) (v := ?v109) ?hi109 (by kernel_rfl) (by kernel_rfl) (by kernel_rfl) ?hq109 ?hy109 (by assumption) ?rest109
                    case hi109 => (simp only [List.getElem?_toArray, List.getElem?_cons_zero, List.getElem?_cons_succ]; rfl)
                    case hq109 => exact fun _ _ _ h => h
                    case hy109 => (refine Or.inl ⟨by rfl, ?_⟩; intro w' hSw; (try dsimp only at hSw); go_simp; try with_reducible rfl)
                    (try simp only [Act.put, List.setIfInBounds_toArray, List.set_cons_zero, List.set_cons_succ])
                    refine' wpAnyH_take (i := 9) (oi := ?oi110) (v := ?v110) ?hi110 (by kernel_rfl) (by kernel_rfl) (by kernel_rfl) ?hq110 ?hy110 (by assumption) ?rest110
                    case hi110 => (simp only [List.getElem?_toArray, List.getElem?_cons_zero, List.getElem?_cons_succ]; rfl)
                    case hq110 => exact fun _ _ _ h => h
                    case hy110 => (refine Or.inl ⟨by rfl, ?_⟩; intro w' hSw; (try dsimp only at hSw); go_simp; try with_reducible rfl)
                    (try simp only [Act.put, List.setIfInBounds_toArray, List.set_cons_zero, List.set_cons_succ])
                    refine' wpAnyH_take (i := 10) (oi := ?oi111) (v := ?v111) ?hi111 (by kernel_rfl) (by kernel_rfl) (by kernel_rfl) ?hq111 ?hy111 (by assumption) ?rest111
                    case hi111 => (simp only [List.getElem?_toArray, List.getElem?_cons_zero, List.getElem?_cons_succ]; rfl)
                    case hq111 => exact fun _ _ _ h => h
                    case hy111 => (refine Or.inl ⟨by rfl, ?_⟩; intro w' hSw; (try dsimp only at hSw); go_simp; try with_reducible rfl)
                    (try simp only [Act.put, List.setIfInBounds_toArray, List.set_cons_zero, List.set_cons_succ])
                    refine' wpAnyH_take (i := 11) (oi := ?oi112) (v := ?v112) ?hi112 (by kernel_rfl) (by kernel_rfl) (by kernel_rfl) ?hq112 ?hy112 (by assumption) ?rest112
                    case hi112 => (simp only [List.getElem?_toArray, List.getElem?_cons_zero, List.getElem?_cons_succ]; rfl)
                    case hq112 => exact fun _ _ _ h => h
                    case hy112 => (refine Or.inl ⟨by rfl, ?_⟩; intro w' hSw; (try dsimp only at hSw); go_simp; try with_reducible rfl)
                    (try simp only [Act.put, List.setIfInBounds_toArray, List.set_cons_zero, List.set_cons_succ])
                    refine' wpAnyH_take (i := 12) (oi := ?oi113) (v := ?v113) ?hi113 (by kernel_rfl) (by kernel_rfl) (by kernel_rfl) ?hq113 ?hy113 (by assumption) ?rest113
                    case hi113 => (simp only [List.getElem?_toArray, List.getElem?_cons_zero, List.getElem?_cons_succ]; rfl)
                    case hq113 => exact fun _ _ _ h => h
                    case hy113 => (refine Or.inl ⟨by rfl, ?_⟩; intro w' hSw; (try dsimp only at hSw); go_simp; try with_reducible rfl)
                    (try simp only [Act.put, List.setIfInBounds_toArray, List.set_cons_zero, List.set_cons_succ])
                    refine' wpAnyH_take (i := 13) (oi := ?oi114) (v := ?v114) ?hi114 (by kernel_rfl) (by kernel_rfl) (by kernel_rfl) ?hq114 ?hy114 (by assumption) ?rest114
                    case hi114 => (simp only [List.getElem?_toArray, List.getElem?_cons_zero, List.getElem?_cons_succ]; rfl)
                    case hq114 => exact fun _ _ _ h => h
                    case hy114 => (refine Or.inl ⟨by rfl, ?_⟩; intro w' hSw; (try dsimp only at hSw); go_simp; try with_reducible rfl)
                    (try simp only [Act.put, List.setIfInBounds_toArray, List.set_cons_zero, List.set_cons_succ])
                    refine' wpAnyH_take (i := 14) (oi := ?oi115) (v := ?v115) ?hi115 (by kernel_rfl) (by kernel_rfl) (by kernel_rfl) ?hq115 ?hy115 (by assumption) ?rest115
                    case hi115 => (simp only [List.getElem?_toArray, List.getElem?_cons_zero, List.getElem?_cons_succ]; rfl)
                    case hq115 => exact fun _ _ _ h => h
                    case hy115 => (refine Or.inl ⟨by rfl, ?_⟩; intro w' hSw; (try dsimp only at hSw); go_simp; try with_reducible rfl)
                    (try simp only [Act.put, List.setIfInBounds_toArray, List.set_cons_zero, List.set_cons_succ])
                    refine' wpAnyH_take (i := 15) (oi := ?oi116) (v := ?v116) ?hi116 (by kernel_rfl) (by kernel_rfl) (by kernel_rfl) ?hq116 ?hy116 (by assumption) ?rest116
                    case hi116 => (simp only [List.getElem?_toArray, List.getElem?_cons_zero, List.getElem?_cons_succ]; rfl)
                    case hq116 => exact fun _ _ _ h => h
                    case hy116 => (refine Or.inl ⟨by rfl, ?_⟩; intro w' hSw; (try dsimp only at hSw); go_simp; try with_reducible rfl)
                    (try simp only [Act.put, List.setIfInBounds_toArray, List.set_cons_zero, List.set_cons_succ])
                    refine wpAnyH_ready (rs := [16]) (by kernel_rfl) (by simp) ?_
                    refine' AllReadyH.cons (o := ?oi117) ?hi117 (fun K hK => ?st117) AllReadyH.nil
                    case hi117 => (simp only [List.getElem?_toArray, List.getElem?_cons_zero, List.getElem?_cons_succ]; rfl)
                    go_simp
                    refine (HGX.out _ HX2.out).mono ?_
                    rintro e w15 ⟨rfl, hb9⟩
                    have HX3 := hid (below_both HX2.out hb9)
                    clear hb9
                    clear z0 z1 z2 x0 x1 x2
                    obtain ⟨z0, z1, z2⟩ := (BZ.out.below HX3.out).facts
                    obtain ⟨x0, x1, x2⟩ := (BX.out.below HX3.out).facts
                    refine hK.out _ _ ⟨z0, z1, x0, x1⟩ (fun hHeld => ?_)
                    clear hK K
                    (try simp only [Act.put, List.setIfInBounds_toArray, List.set_cons_zero, List.set_cons_succ])
                    refine' wpAnyH_take (i := 17) (oi := ?oi118) (v := ?v118) ?hi118 (by kernel_rfl) (by kernel_rfl) (by kernel_rfl) ?hq118 ?hy118 (by assumption) ?rest118
                    case hi118 => (simp only [List.getElem?_toArray, List.getElem?_cons_zero, List.getElem?_cons_succ]; rfl)
                    case hq118 => exact fun _ _ _ h => h
                    case hy118 => (refine Or.inl ⟨by rfl, ?_⟩; intro w' hSw; (try dsimp only at hSw); go_simp; try with_reducible rfl)
                    (try simp only [Act.put, List.setIfInBounds_toArray, List.set_cons_zero, List.set_cons_succ])
                    refine' wpAnyH_take (i := 18) (oi := ?oi119) (v := ?v119) ?hi119 (by kernel_rfl) (by kernel_rfl) (by kernel_rfl) ?hq119 ?hy119 (by assumption) ?rest119
                    case hi119 => (simp only [List.getElem?_toArray, List.getElem?_cons_zero, List.getElem?_cons_succ]; rfl)
                    case hq119 => exact fun _ _ _ h => h
                    case hy119 => (refine Or.inl ⟨by rfl, ?_⟩; intro w' hSw; (try dsimp only at hSw); go_simp; try with_reducible rfl)
                    (try simp only [Act.put, List.setIfInBounds_toArray, List.set_cons_zero, List.set_cons_succ])
                    refine' wpAnyH_take (i := 19) (oi := ?oi120) (v := ?v120) ?hi120 (by kernel_rfl) (by kernel_rfl) (by kernel_rfl) ?hq120 ?hy120 (by assumption) ?rest120
                    case hi120 => (simp only [List.getElem?_toArray, List.getElem?_cons_zero, List.getElem?_cons_succ]; rfl)
                    case hq120 => exact fun _ _ _ h => h
                    case hy120 => (refine Or.inl ⟨by rfl, ?_⟩; intro w' hSw; (try dsimp only at hSw); go_simp; try with_reducible rfl)
                    (try simp only [Act.put, List.setIfInBounds_toArray, List.set_cons_zero, List.set_cons_succ])
                    refine wpAnyH_done (by kernel_rfl) ?_ _
                    go_wp2
                    go_roundw
                    case rel => exact ⟨k + 1, by omega, by go_num, HX3⟩
                    case measure => simp [intOf]; omega
                  · have e9 : bit us9 k = bit us1 k := by rw [hu9, decide_eq_false hin]; simp
                    rw [e9] at HGZ0
                    clear e9 hu9 hu1
                    obtain ⟨gb, hgb⟩ : ∃ gb, bit us1 k = gb := ⟨_, rfl⟩
                    rw [hgb] at HGZ0 HGX0
                    have HGZ := hid HGZ0.out
                    have HGX := hid HGX0.out
                    clear hgb HGZ0 HGX0
                    by_cases h1 : a ≤ (k : Int)
                    · have d1 : decide (a ≤ (k : Int)) = true := decide_eq_true h1
                      have d2 : decide ((k : Int) < a + c) = false := decide_eq_false (fun h2 => hin ⟨h1, h2⟩)
                      clear hin
                      rcases gb with _ | _
                      · go_wp2
                        go_quiet (fail)
                        rename_i nq
                        obtain ⟨W12, hW12⟩ : ∃ W12, wr.drewN nq = W12 := ⟨_, rfl⟩
                        have HX0 : Hid (Below W11.heap.size W11 W12) := by rw [← hW12]; exact hid (below_drewN HX.out nq)
                        rw [hW12]
                        clear hW12 HX hy1 hy2
                        obtain ⟨z0, z1, z2⟩ := (BZ.out.below HX0.out).facts
                        obtain ⟨x0, x1, x2⟩ := (BX.out.below HX0.out).facts
                        have HXD : Hid (Below W11.heap.size W11 W12.drew) := hid ⟨HX0.out.os, HX0.out.tape, HX0.out.output, HX0.out.size, HX0.out.block⟩
                        go_wp2_with fail
                        refine wp_region_held_drew (S := (fun W : World => W.cell? ⟨gz, 0, none⟩ = some (.int .i64 (N : Int)) ∧ W.cell? ⟨gz, 1, none⟩ = some (.slice A9 us9.length c9) ∧ W.cell? ⟨w4.heap.size, 0, none⟩ = some (.int .i64 (N : Int)) ∧ W.cell? ⟨w4.heap.size, 1, none⟩ = some (.slice A1 us1.length c1))) (by kernel_rfl) ⟨z0, z1, x0, x1⟩ (fun hHeld => ?_)
                        refine' wpAnyH_take (i := 0) (oi := ?oi121) (v := ?v121) ?hi121 (by kernel_rfl) (by kernel_rfl) (by kernel_rfl) ?hq121 ?hy121 (by assumption) ?rest121
                        case hi121 => (simp only [List.getElem?_toArray, List.getElem?_cons_zero]; rfl)
                        case hq121 => exact fun _ _ _ h => h
                        case hy121 => (refine Or.inl ⟨by rfl, ?_⟩; intro w' hSw; (try dsimp only at hSw); go_simp; try with_reducible rfl)
                        (try simp only [Act.put, List.setIfInBounds_toArray, List.set_cons_zero, List.set_cons_succ])
                        refine' wpAnyH_take (i := 1) (oi := ?oi122) (v := ?v122) ?hi122 (by kernel_rfl) (by kernel_rfl) (by kernel_rfl) ?hq122 ?hy122 (by assumption) ?rest122
                        case hi122 => (simp only [List.getElem?_toArray, List.getElem?_cons_zero, List.getElem?_cons_succ]; rfl)
                        case hq122 => exact fun _ _ _ h => h
                        case hy122 => (refine Or.inl ⟨by rfl, ?_⟩; intro w' hSw; (try dsimp only at hSw); go_simp; try with_reducible rfl)
                        (try simp only [Act.put, List.setIfInBounds_toArray, List.set_cons_zero, List.set_cons_succ])
                        refine' wpAnyH_take (i := 3) (oi := ?oi123) (v := ?v123) ?hi123 (by kernel_rfl) (by kernel_rfl) (by kernel_rfl) ?hq123 ?hy123 (by assumption) ?rest123
                        case hi123 => (simp only [List.getElem?_toArray, List.getElem?_cons_zero, List.getElem?_cons_succ]; rfl)
                        case hq123 => exact fun _ _ _ h => h
                        case hy123 => (refine Or.inl ⟨by rfl, ?_⟩; intro w' hSw; (try dsimp only at hSw); go_simp; try with_reducible rfl)
                        (try simp only [Act.put, List.setIfInBounds_toArray, List.set_cons_zero, List.set_cons_succ])
                        refine' wpAnyH_take (i := 4) (oi := ?oi124) (v := ?v124) ?hi124 (by kernel_rfl) (by kernel_rfl) (by kernel_rfl) ?hq124 ?hy124 (by assumption) ?rest124
                        case hi124 => (simp only [List.getElem?_toArray, List.getElem?_cons_zero, List.getElem?_cons_succ]; rfl)
                        case hq124 => exact fun _ _ _ h => h
                        case hy124 => (refine Or.inl ⟨by rfl, ?_⟩; intro w' hSw; (try dsimp only at hSw); go_simp; try with_reducible rfl)
                        (try simp only [Act.put, List.setIfInBounds_toArray, List.set_cons_zero, List.set_cons_succ])
                        refine wpAnyH_ready (rs := [2]) (by kernel_rfl) (by simp) ?_
                        refine' AllReadyH.cons (o := ?oi125) ?hi125 (fun K hK => ?st125) AllReadyH.nil
                        case hi125 => (simp only [List.getElem?_toArray, List.getElem?_cons_zero, List.getElem?_cons_succ]; rfl)
                        go_simp
                        refine (HGZ.out _ HXD.out).mono ?_
                        rintro e w13 ⟨rfl, hb9⟩
                        have HX1 := hid (below_both HXD.out hb9)
                        clear hb9
                        clear z0 z1 z2 x0 x1 x2
                        obtain ⟨z0, z1, z2⟩ := (BZ.out.below HX1.out).facts
                        obtain ⟨x0, x1, x2⟩ := (BX.out.below HX1.out).facts
                        refine hK.out _ _ ⟨z0, z1, x0, x1⟩ (fun hHeld => ?_)
                        clear hK K
                        (try simp only [Act.put, List.setIfInBounds_toArray, List.set_cons_zero, List.set_cons_succ])
                        refine wpAnyH_ready (rs := [5]) (by kernel_rfl) (by simp) ?_
                        refine' AllReadyH.cons (o := ?oi126) ?hi126 (fun K hK => ?st126) AllReadyH.nil
                        case hi126 => (simp only [List.getElem?_toArray, List.getElem?_cons_zero, List.getElem?_cons_succ]; rfl)
                        go_simp
                        refine (HGX.out _ HX1.out).mono ?_
                        rintro e w14 ⟨rfl, hb9⟩
                        have HX2 := hid (below_both HX1.out hb9)
                        clear hb9
                        clear z0 z1 z2 x0 x1 x2
                        obtain ⟨z0, z1, z2⟩ := (BZ.out.below HX2.out).facts
                        obtain ⟨x0, x1, x2⟩ := (BX.out.below HX2.out).facts
                        refine hK.out _ _ ⟨z0, z1, x0, x1⟩ (fun hHeld => ?_)
                        clear hK K
                        (try simp only [Act.put, List.setIfInBounds_toArray, List.set_cons_zero, List.set_cons_succ])
                        refine' wpAnyH_take (i := 6) (oi := ?oi127) (v := ?v127) ?hi127 (by kernel_rfl) (by kernel_rfl) (by kernel_rfl) ?hq127 ?hy127 (by assumption) ?rest127
                        case hi127 => (simp only [List.getElem?_toArray, List.getElem?_cons_zero, List.getElem?_cons_succ]; rfl)
                        case hq127 => exact fun _ _ _ h => h
                        case hy127 => (refine Or.inl ⟨by rfl, ?_⟩; intro w' hSw; (try dsimp only at hSw); go_simp; try with_reducible rfl)
                        (try simp only [Act.put, List.setIfInBounds_toArray, List.set_cons_zero, List.set_cons_succ])
                        refine' wpAnyH_take (i := 7) (oi := ?oi128) (v := undef) ?hi128 (by kernel_rfl) (by kernel_rfl) (by kernel_rfl) ?hq128 ?hy128 (by assumption) ?rest128
                        case hi128 => (simp only [List.getElem?_toArray, List.getElem?_cons_zero, List.getElem?_cons_succ]; rfl)
                        case hq128 => exact fun _ _ _ h => h
                        case hy128 => exact Or.inr ⟨by rfl, rfl⟩
                        (try simp only [Act.put, List.setIfInBounds_toArray, List.set_cons_zero, List.set_cons_succ])
                        refine' wpAnyH_take (i := 8) (oi := ?oi129) (v := undef) ?hi129 (by kernel_rfl) (by kernel_rfl) (by kernel_rfl) ?hq129 ?hy129 (by assumption) ?rest129
                        case hi129 => (simp only [List.getElem?_toArray, List.getElem?_cons_zero, List.getElem?_cons_succ]; rfl)
                        case hq129 => exact fun _ _ _ h => h
                        case hy129 => exact Or.inr ⟨by rfl, rfl⟩
                        (try simp only [Act.put, List.setIfInBounds_toArray, List.set_cons_zero, List.set_cons_succ])
                        refine' wpAnyH_take (i := 9) (oi := ?oi130) (v := ?v130) ?hi130 (by kernel_rfl) (by kernel_rfl) (by kernel_rfl) ?hq130 ?hy130 (by assumption) ?rest130
                        case hi130 => (simp only [List.getElem?_toArray, List.getElem?_cons_zero, List.getElem?_cons_succ]; rfl)
                        case hq130 => exact fun _ _ _ h => h
                        case hy130 => (refine Or.inl ⟨by rfl, ?_⟩; intro w' hSw; (try dsimp only at hSw); go_simp; try with_reducible rfl)
                        (try simp only [Act.put, List.setIfInBounds_toArray, List.set_cons_zero, List.set_cons_succ])
                        refine' wpAnyH_take (i := 10) (oi := ?oi131) (v := ?v131) ?hi131 (by kernel_rfl) (by kernel_rfl) (by kernel_rfl) ?hq131 ?hy131 (by assumption) ?rest131
                        case hi131 => (simp only [List.getElem?_toArray, List.getElem?_cons_zero, List.getElem?_cons_succ]; rfl)
                        case hq131 => exact fun _ _ _ h => h
                        case hy131 => (refine Or.inl ⟨by rfl, ?_⟩; intro w' hSw; (try dsimp only at hSw); go_simp; try with_reducible rfl)
                        (try simp only [Act.put, List.setIfInBounds_toArray, List.set_cons_zero, List.set_cons_succ])
                        refine' wpAnyH_take (i := 11) (oi := ?oi132) (v := ?v132) ?hi132 (by kernel_rfl) (by kernel_rfl) (by kernel_rfl) ?hq132 ?hy132 (by assumption) ?rest132
                        case hi132 => (simp only [List.getElem?_toArray, List.getElem?_cons_zero, List.getElem?_cons_succ]; rfl)
                        case hq132 => exact fun _ _ _ h => h
                        case hy132 => (refine Or.inl ⟨by rfl, ?_⟩; intro w' hSw; (try dsimp only at hSw); go_simp; try with_reducible rfl)
                        (try simp only [Act.put, List.setIfInBounds_toArray, List.set_cons_zero, List.set_cons_succ])
                        refine' wpAnyH_take (i := 12) (oi := ?oi133) (v := ?v133) ?hi133 (by kernel_rfl) (by kernel_rfl) (by kernel_rfl) ?hq133 ?hy133 (by assumption) ?rest133
                        case hi133 => (simp only [List.getElem?_toArray, List.getElem?_cons_zero, List.getElem?_cons_succ]; rfl)
                        case hq133 => exact fun _ _ _ h => h
                        case hy133 => (refine Or.inl ⟨by rfl, ?_⟩; intro w' hSw; (try dsimp only at hSw); go_simp; try with_reducible rfl)
                        (try simp only [Act.put, List.setIfInBounds_toArray, List.set_cons_zero, List.set_cons_succ])
                        refine' wpAnyH_take (i := 13) (oi := ?oi134) (v := ?v134) ?hi134 (by kernel_rfl) (by kernel_rfl) (by kernel_rfl) ?hq134 ?hy134 (by assumption) ?rest134
                        case hi134 => (simp only [List.getElem?_toArray, List.getElem?_cons_zero, List.getElem?_cons_succ]; rfl)
                        case hq134 => exact fun _ _ _ h => h
                        case hy134 => (refine Or.inl ⟨by rfl, ?_⟩; intro w' hSw; (try dsimp only at hSw); go_simp; try with_reducible rfl)
                        (try simp only [Act.put, List.setIfInBounds_toArray, List.set_cons_zero, List.set_cons_succ])
                        refine' wpAnyH_take (i := 14) (oi := ?oi135) (v := undef) ?hi135 (by kernel_rfl) (by kernel_rfl) (by kernel_rfl) ?hq135 ?hy135 (by assumption) ?rest135
                        case hi135 => (simp only [List.getElem?_toArray, List.getElem?_cons_zero, List.getElem?_cons_succ]; rfl)
                        case hq135 => exact fun _ _ _ h => h
                        case hy135 => exact Or.inr ⟨by rfl, rfl⟩
                        (try simp only [Act.put, List.setIfInBounds_toArray, List.set_cons_zero, List.set_cons_succ])
                        refine' wpAnyH_take (i := 15) (oi := ?oi136) (v := undef) ?hi136 (by kernel_rfl) (by kernel_rfl) (by kernel_rfl) ?hq136 ?hy136 (by assumption) ?rest136
                        case hi136 => (simp only [List.getElem?_toArray, List.getElem?_cons_zero, List.getElem?_cons_succ]; rfl)
                        case hq136 => exact fun _ _ _ h => h
                        case hy136 => exact Or.inr ⟨by rfl, rfl⟩
                        (try simp only [Act.put, List.setIfInBounds_toArray, List.set_cons_zero, List.set_cons_succ])
                        refine' wpAnyH_take (i := 16) (oi := ?oi137) (v := undef) ?hi137 (by kernel_rfl) (by kernel_rfl) (by kernel_rfl) ?hq137 ?hy137 (by assumption) ?rest137
                        case hi137 => (simp only [List.getElem?_toArray, List.getElem?_cons_zero, List.getElem?_cons_succ]; rfl)
                        case hq137 => exact fun _ _ _ h => h
                        case hy137 => exact Or.inr ⟨by rfl, rfl⟩
                        (try simp only [Act.put, List.setIfInBounds_toArray, List.set_cons_zero, List.set_cons_succ])
                        refine' wpAnyH_take (i := 17) (oi := ?oi138) (v := undef) ?hi138 (by kernel_rfl) (by kernel_rfl) (by kernel_rfl) ?hq138 ?hy138 (by assumption) ?rest138
                        case hi138 => (simp only [List.getElem?_toArray, List.getElem?_cons_zero, List.getElem?_cons_succ]; rfl)
                        case hq138 => exact fun _ _ _ h => h
                        case hy138 => exact Or.inr ⟨by rfl, rfl⟩
                        (try simp only [Act.put, List.setIfInBounds_toArray, List.set_cons_zero, List.set_cons_succ])
                        refine' wpAnyH_take (i := 18) (oi := ?oi139) (v := ?v139) ?hi139 (by kernel_rfl) (by kernel_rfl) (by kernel_rfl) ?hq139 ?hy139 (by assumption) ?rest139
                        case hi139 => (simp only [List.getElem?_toArray, List.getElem?_cons_zero, List.getElem?_cons_succ]; rfl)
                        case hq139 => exact fun _ _ _ h => h
                        case hy139 => (refine Or.inl ⟨by rfl, ?_⟩; intro w' hSw; (try dsimp only at hSw); go_simp; try with_reducible rfl)
                        (try simp only [Act.put, List.setIfInBounds_toArray, List.set_cons_zero, List.set_cons_succ])
                        refine' wpAnyH_take (i := 19) (oi := ?oi140) (v := ?v140) ?hi140 (by kernel_rfl) (by kernel_rfl) (by kernel_rfl) ?hq140 ?hy140 (by assumption) ?rest140
                        case hi140 => (simp only [List.getElem?_toArray, List.getElem?_cons_zero, List.getElem?_cons_succ]; rfl)
                        case hq140 => exact fun _ _ _ h => h
                        case hy140 => (refine Or.inl ⟨by rfl, ?_⟩; intro w' hSw; (try dsimp only at hSw); go_simp; try with_reducible rfl)
                        (try simp only [Act.put, List.setIfInBounds_toArray, List.set_cons_zero, List.set_cons_succ])
                        refine wpAnyH_done (by kernel_rfl) ?_ _
                        go_wp2
                        go_roundw
                        case rel => exact ⟨k + 1, by omega, by go_num, HX2⟩
                        case measure => simp [intOf]; omega
                      · go_wp2
                        go_quiet (fail)
                        rename_i nq
                        obtain ⟨W12, hW12⟩ : ∃ W12, wr.drewN nq = W12 := ⟨_, rfl⟩
                        have HX0 : Hid (Below W11.heap.size W11 W12) := by rw [← hW12]; exact hid (below_drewN HX.out nq)
                        rw [hW12]
                        clear hW12 HX hy1 hy2
                        obtain ⟨z0, z1, z2⟩ := (BZ.out.below HX0.out).facts
                        obtain ⟨x0, x1, x2⟩ := (BX.out.below HX0.out).facts
                        have HXD : Hid (Below W11.heap.size W11 W12.drew) := hid ⟨HX0.out.os, HX0.out.tape, HX0.out.output, HX0.out.size, HX0.out.block⟩
                        go_wp2_with fail
                        refine wp_region_held_drew (S := (fun W : World => W.cell? ⟨gz, 0, none⟩ = some (.int .i64 (N : Int)) ∧ W.cell? ⟨gz, 1, none⟩ = some (.slice A9 us9.length c9) ∧ W.cell? ⟨w4.heap.size, 0, none⟩ = some (.int .i64 (N : Int)) ∧ W.cell? ⟨w4.heap.size, 1, none⟩ = some (.slice A1 us1.length c1))) (by kernel_rfl) ⟨z0, z1, x0, x1⟩ (fun hHeld => ?_)
                        refine' wpAnyH_take (i := 0) (oi := ?oi141) (v := ?v141) ?hi141 (by kernel_rfl) (by kernel_rfl) (by kernel_rfl) ?hq141 ?hy141 (by assumption) ?rest141
                        case hi141 => (simp only [List.getElem?_toArray, List.getElem?_cons_zero]; rfl)
                        case hq141 => exact fun _ _ _ h => h
                        case hy141 => (refine Or.inl ⟨by rfl, ?_⟩; intro w' hSw; (try dsimp only at hSw); go_simp; try with_reducible rfl)
                        (try simp only [Act.put, List.setIfInBounds_toArray, List.set_cons_zero, List.set_cons_succ])
                        refine' wpAnyH_take (i := 1) (oi := ?oi142) (v := ?v142) ?hi142 (by kernel_rfl) (by kernel_rfl) (by kernel_rfl) ?hq142 ?hy142 (by assumption) ?rest142
                        case hi142 => (simp only [List.getElem?_toArray, List.getElem?_cons_zero, List.getElem?_cons_succ]; rfl)
                        case hq142 => exact fun _ _ _ h => h
                        case hy142 => (refine Or.inl ⟨by rfl, ?_⟩; intro w' hSw; (try dsimp only at hSw); go_simp; try with_reducible rfl)
                        (try simp only [Act.put, List.setIfInBounds_toArray, List.set_cons_zero, List.set_cons_succ])
                        refine' wpAnyH_take (i := 3) (oi := ?oi143) (v := ?v143) ?hi143 (by kernel_rfl) (by kernel_rfl) (by kernel_rfl) ?hq143 ?hy143 (by assumption) ?rest143
                        case hi143 => (simp only [List.getElem?_toArray, List.getElem?_cons_zero, List.getElem?_cons_succ]; rfl)
                        case hq143 => exact fun _ _ _ h => h
                        case hy143 => (refine Or.inl ⟨by rfl, ?_⟩; intro w' hSw; (try dsimp only at hSw); go_simp; try with_reducible rfl)
                        (try simp only [Act.put, List.setIfInBounds_toArray, List.set_cons_zero, List.set_cons_succ])
                        refine' wpAnyH_take (i := 4) (oi := ?oi144) (v := ?v144) ?hi144 (by kernel_rfl) (by kernel_rfl) (by kernel_rfl) ?hq144 ?hy144 (by assumption) ?rest144
                        case hi144 => (simp only [List.getElem?_toArray, List.getElem?_cons_zero, List.getElem?_cons_succ]; rfl)
                        case hq144 => exact fun _ _ _ h => h
                        case hy144 => (refine Or.inl ⟨by rfl, ?_⟩; intro w' hSw; (try dsimp only at hSw); go_simp; try with_reducible rfl)
                        (try simp only [Act.put, List.setIfInBounds_toArray, List.set_cons_zero, List.set_cons_succ])
                        refine wpAnyH_ready (rs := [2]) (by kernel_rfl) (by simp) ?_
                        refine' AllReadyH.cons (o := ?oi145) ?hi145 (fun K hK => ?st145) AllReadyH.nil
                        case hi145 => (simp only [List.getElem?_toArray, List.getElem?_cons_zero, List.getElem?_cons_succ]; rfl)
                        go_simp
                        refine (HGZ.out _ HXD.out).mono ?_
                        rintro e w13 ⟨rfl, hb9⟩
                        have HX1 := hid (below_both HXD.out hb9)
                        clear hb9
                        clear z0 z1 z2 x0 x1 x2
                        obtain ⟨z0, z1, z2⟩ := (BZ.out.below HX1.out).facts
                        obtain ⟨x0, x1, x2⟩ := (BX.out.below HX1.out).facts
                        refine hK.out _ _ ⟨z0, z1, x0, x1⟩ (fun hHeld => ?_)
                        clear hK K
                        (try simp only [Act.put, List.setIfInBounds_toArray, List.set_cons_zero, List.set_cons_succ])
                        refine wpAnyH_ready (rs := [5]) (by kernel_rfl) (by simp) ?_
                        refine' AllReadyH.cons (o := ?oi146) ?hi146 (fun K hK => ?st146) AllReadyH.nil
                        case hi146 => (simp only [List.getElem?_toArray, List.getElem?_cons_zero, List.getElem?_cons_succ]; rfl)
                        go_simp
                        refine (HGX.out _ HX1.out).mono ?_
                        rintro e w14 ⟨rfl, hb9⟩
                        have HX2 := hid (below_both HX1.out hb9)
                        clear hb9
                        clear z0 z1 z2 x0 x1 x2
                        obtain ⟨z0, z1, z2⟩ := (BZ.out.below HX2.out).facts
                        obtain ⟨x0, x1, x2⟩ := (BX.out.below HX2.out).facts
                        refine hK.out _ _ ⟨z0, z1, x0, x1⟩ (fun hHeld => ?_)
                        clear hK K
                        (try simp only [Act.put, List.setIfInBounds_toArray, List.set_cons_zero, List.set_cons_succ])
                        refine' wpAnyH_take (i := 6) (oi := ?oi147) (v := ?v147) ?hi147 (by kernel_rfl) (by kernel_rfl) (by kernel_rfl) ?hq147 ?hy147 (by assumption) ?rest147
                        case hi147 => (simp only [List.getElem?_toArray, List.getElem?_cons_zero, List.getElem?_cons_succ]; rfl)
                        case hq147 => exact fun _ _ _ h => h
                        case hy147 => (refine Or.inl ⟨by rfl, ?_⟩; intro w' hSw; (try dsimp only at hSw); go_simp; try with_reducible rfl)
                        (try simp only [Act.put, List.setIfInBounds_toArray, List.set_cons_zero, List.set_cons_succ])
                        refine' wpAnyH_take (i := 7) (oi := ?oi148) (v := ?v148) ?hi148 (by kernel_rfl) (by kernel_rfl) (by kernel_rfl) ?hq148 ?hy148 (by assumption) ?rest148
                        case hi148 => (simp only [List.getElem?_toArray, List.getElem?_cons_zero, List.getElem?_cons_succ]; rfl)
                        case hq148 => exact fun _ _ _ h => h
                        case hy148 => (refine Or.inl ⟨by rfl, ?_⟩; intro w' hSw; (try dsimp only at hSw); go_simp; try with_reducible rfl)
                        (try simp only [Act.put, List.setIfInBounds_toArray, List.set_cons_zero, List.set_cons_succ])
                        refine' wpAnyH_take (i := 8) (oi := ?oi149) (v := ?v149) ?hi149 (by kernel_rfl) (by kernel_rfl) (by kernel_rfl) ?hq149 ?hy149 (by assumption) ?rest149
                        case hi149 => (simp only [List.getElem?_toArray, List.getElem?_cons_zero, List.getElem?_cons_succ]; rfl)
                        case hq149 => exact fun _ _ _ h => h
                        case hy149 => (refine Or.inl ⟨by rfl, ?_⟩; intro w' hSw; (try dsimp only at hSw); go_simp; try with_reducible rfl)
                        (try simp only [Act.put, List.setIfInBounds_toArray, List.set_cons_zero, List.set_cons_succ])
                        refine' wpAnyH_take (i := 9) (oi := ?oi150) (v := ?v150) ?hi150 (by kernel_rfl) (by kernel_rfl) (by kernel_rfl) ?hq150 ?hy150 (by assumption) ?rest150
                        case hi150 => (simp only [List.getElem?_toArray, List.getElem?_cons_zero, List.getElem?_cons_succ]; rfl)
                        case hq150 => exact fun _ _ _ h => h
                        case hy150 => (refine Or.inl ⟨by rfl, ?_⟩; intro w' hSw; (try dsimp only at hSw); go_simp; try with_reducible rfl)
                        (try simp only [Act.put, List.setIfInBounds_toArray, List.set_cons_zero, List.set_cons_succ])
                        refine' wpAnyH_take (i := 10) (oi := ?oi151) (v := ?v151) ?hi151 (by kernel_rfl) (by kernel_rfl) (by kernel_rfl) ?hq151 ?hy151 (by assumption) ?rest151
                        case hi151 => (simp only [List.getElem?_toArray, List.getElem?_cons_zero, List.getElem?_cons_succ]; rfl)
                        case hq151 => exact fun _ _ _ h => h
                        case hy151 => (refine Or.inl ⟨by rfl, ?_⟩; intro w' hSw; (try dsimp only at hSw); go_simp; try with_reducible rfl)
                        (try simp only [Act.put, List.setIfInBounds_toArray, List.set_cons_zero, List.set_cons_succ])
                        refine' wpAnyH_take (i := 11) (oi := ?oi152) (v := ?v152) ?hi152 (by kernel_rfl) (by kernel_rfl) (by kernel_rfl) ?hq152 ?hy152 (by assumption) ?rest152
                        case hi152 => (simp only [List.getElem?_toArray, List.getElem?_cons_zero, List.getElem?_cons_succ]; rfl)
                        case hq152 => exact fun _ _ _ h => h
                        case hy152 => (refine Or.inl ⟨by rfl, ?_⟩; intro w' hSw; (try dsimp only at hSw); go_simp; try with_reducible rfl)
                        (try simp only [Act.put, List.setIfInBounds_toArray, List.set_cons_zero, List.set_cons_succ])
                        refine' wpAnyH_take (i := 12) (oi := ?oi153) (v := ?v153) ?hi153 (by kernel_rfl) (by kernel_rfl) (by kernel_rfl) ?hq153 ?hy153 (by assumption) ?rest153
                        case hi153 => (simp only [List.getElem?_toArray, List.getElem?_cons_zero, List.getElem?_cons_succ]; rfl)
                        case hq153 => exact fun _ _ _ h => h
                        case hy153 => (refine Or.inl ⟨by rfl, ?_⟩; intro w' hSw; (try dsimp only at hSw); go_simp; try with_reducible rfl)
                        (try simp only [Act.put, List.setIfInBounds_toArray, List.set_cons_zero, List.set_cons_succ])
                        refine' wpAnyH_take (i := 13) (oi := ?oi154) (v := ?v154) ?hi154 (by kernel_rfl) (by kernel_rfl) (by kernel_rfl) ?hq154 ?hy154 (by assumption) ?rest154
                        case hi154 => (simp only [List.getElem?_toArray, List.getElem?_cons_zero, List.getElem?_cons_succ]; rfl)
                        case hq154 => exact fun _ _ _ h => h
                        case hy154 => (refine Or.inl ⟨by rfl, ?_⟩; intro w' hSw; (try dsimp only at hSw); go_simp; try with_reducible rfl)
                        (try simp only [Act.put, List.setIfInBounds_toArray, List.set_cons_zero, List.set_cons_succ])
                        refine' wpAnyH_take (i := 14) (oi := ?oi155) (v := undef) ?hi155 (by kernel_rfl) (by kernel_rfl) (by kernel_rfl) ?hq155 ?hy155 (by assumption) ?rest155
                        case hi155 => (simp only [List.getElem?_toArray, List.getElem?_cons_zero, List.getElem?_cons_succ]; rfl)
                        case hq155 => exact fun _ _ _ h => h
                        case hy155 => exact Or.inr ⟨by rfl, rfl⟩
                        (try simp only [Act.put, List.setIfInBounds_toArray, List.set_cons_zero, List.set_cons_succ])
                        refine' wpAnyH_take (i := 15) (oi := ?oi156) (v := undef) ?hi156 (by kernel_rfl) (by kernel_rfl) (by kernel_rfl) ?hq156 ?hy156 (by assumption) ?rest156
                        case hi156 => (simp only [List.getElem?_toArray, List.getElem?_cons_zero, List.getElem?_cons_succ]; rfl)
                        case hq156 => exact fun _ _ _ h => h
                        case hy156 => exact Or.inr ⟨by rfl, rfl⟩
                        (try simp only [Act.put, List.setIfInBounds_toArray, List.set_cons_zero, List.set_cons_succ])
                        refine' wpAnyH_take (i := 16) (oi := ?oi157) (v := undef) ?hi157 (by kernel_rfl) (by kernel_rfl) (by kernel_rfl) ?hq157 ?hy157 (by assumption) ?rest157
                        case hi157 => (simp only [List.getElem?_toArray, List.getElem?_cons_zero, List.getElem?_cons_succ]; rfl)
                        case hq157 => exact fun _ _ _ h => h
                        case hy157 => exact Or.inr ⟨by rfl, rfl⟩
                        (try simp only [Act.put, List.setIfInBounds_toArray, List.set_cons_zero, List.set_cons_succ])
                        refine' wpAnyH_take (i := 17) (oi := ?oi158) (v := undef) ?hi158 (by kernel_rfl) (by kernel_rfl) (by kernel_rfl) ?hq158 ?hy158 (by assumption) ?rest158
                        case hi158 => (simp only [List.getElem?_toArray, List.getElem?_cons_zero, List.getElem?_cons_succ]; rfl)
                        case hq158 => exact fun _ _ _ h => h
                        case hy158 => exact Or.inr ⟨by rfl, rfl⟩
                        (try simp only [Act.put, List.setIfInBounds_toArray, List.set_cons_zero, List.set_cons_succ])
                        refine' wpAnyH_take (i := 18) (oi := ?oi159) (v := ?v159) ?hi159 (by kernel_rfl) (by kernel_rfl) (by kernel_rfl) ?hq159 ?hy159 (by assumption) ?rest159
                        case hi159 => (simp only [List.getElem?_toArray, List.getElem?_cons_zero, List.getElem?_cons_succ]; rfl)
                        case hq159 => exact fun _ _ _ h => h
                        case hy159 => (refine Or.inl ⟨by rfl, ?_⟩; intro w' hSw; (try dsimp only at hSw); go_simp; try with_reducible rfl)
                        (try simp only [Act.put, List.setIfInBounds_toArray, List.set_cons_zero, List.set_cons_succ])
                        refine' wpAnyH_take (i := 19) (oi := ?oi160) (v := ?v160) ?hi160 (by kernel_rfl) (by kernel_rfl) (by kernel_rfl) ?hq160 ?hy160 (by assumption) ?rest160
                        case hi160 => (simp only [List.getElem?_toArray, List.getElem?_cons_zero, List.getElem?_cons_succ]; rfl)
                        case hq160 => exact fun _ _ _ h => h
                        case hy160 => (refine Or.inl ⟨by rfl, ?_⟩; intro w' hSw; (try dsimp only at hSw); go_simp; try with_reducible rfl)
                        (try simp only [Act.put, List.setIfInBounds_toArray, List.set_cons_zero, List.set_cons_succ])
                        refine wpAnyH_done (by kernel_rfl) ?_ _
                        go_wp2
                        go_roundw
                        case rel => exact ⟨k + 1, by omega, by go_num, HX2⟩
                        case measure => simp [intOf]; omega
                    · have d1 : decide (a ≤ (k : Int)) = false := decide_eq_false h1
                      clear hin h1
                      rcases gb with _ | _
                      · go_wp2
                        go_quiet (fail)
                        rename_i nq
                        obtain ⟨W12, hW12⟩ : ∃ W12, wr.drewN nq = W12 := ⟨_, rfl⟩
                        have HX0 : Hid (Below W11.heap.size W11 W12) := by rw [← hW12]; exact hid (below_drewN HX.out nq)
                        rw [hW12]
                        clear hW12 HX hy1 hy2
                        obtain ⟨z0, z1, z2⟩ := (BZ.out.below HX0.out).facts
                        obtain ⟨x0, x1, x2⟩ := (BX.out.below HX0.out).facts
                        have HXD : Hid (Below W11.heap.size W11 W12.drew) := hid ⟨HX0.out.os, HX0.out.tape, HX0.out.output, HX0.out.size, HX0.out.block⟩
                        go_wp2_with fail
                        refine wp_region_held_drew (S := (fun W : World => W.cell? ⟨gz, 0, none⟩ = some (.int .i64 (N : Int)) ∧ W.cell? ⟨gz, 1, none⟩ = some (.slice A9 us9.length c9) ∧ W.cell? ⟨w4.heap.size, 0, none⟩ = some (.int .i64 (N : Int)) ∧ W.cell? ⟨w4.heap.size, 1, none⟩ = some (.slice A1 us1.length c1))) (by kernel_rfl) ⟨z0, z1, x0, x1⟩ (fun hHeld => ?_)
                        refine' wpAnyH_take (i := 0) (oi := ?oi161) (v := ?v161) ?hi161 (by kernel_rfl) (by kernel_rfl) (by kernel_rfl) ?hq161 ?hy161 (by assumption) ?rest161
                        case hi161 => (simp only [List.getElem?_toArray, List.getElem?_cons_zero]; rfl)
                        case hq161 => exact fun _ _ _ h => h
                        case hy161 => (refine Or.inl ⟨by rfl, ?_⟩; intro w' hSw; (try dsimp only at hSw); go_simp; try with_reducible rfl)
                        (try simp only [Act.put, List.setIfInBounds_toArray, List.set_cons_zero, List.set_cons_succ])
                        refine' wpAnyH_take (i := 1) (oi := ?oi162) (v := ?v162) ?hi162 (by kernel_rfl) (by kernel_rfl) (by kernel_rfl) ?hq162 ?hy162 (by assumption) ?rest162
                        case hi162 => (simp only [List.getElem?_toArray, List.getElem?_cons_zero, List.getElem?_cons_succ]; rfl)
                        case hq162 => exact fun _ _ _ h => h
                        case hy162 => (refine Or.inl ⟨by rfl, ?_⟩; intro w' hSw; (try dsimp only at hSw); go_simp; try with_reducible rfl)
                        (try simp only [Act.put, List.setIfInBounds_toArray, List.set_cons_zero, List.set_cons_succ])
                        refine' wpAnyH_take (i := 3) (oi := ?oi163) (v := ?v163) ?hi163 (by kernel_rfl) (by kernel_rfl) (by kernel_rfl) ?hq163 ?hy163 (by assumption) ?rest163
                        case hi163 => (simp only [List.getElem?_toArray, List.getElem?_cons_zero, List.getElem?_cons_succ]; rfl)
                        case hq163 => exact fun _ _ _ h => h
                        case hy163 => (refine Or.inl ⟨by rfl, ?_⟩; intro w' hSw; (try dsimp only at hSw); go_simp; try with_reducible rfl)
                        (try simp only [Act.put, List.setIfInBounds_toArray, List.set_cons_zero, List.set_cons_succ])
                        refine' wpAnyH_take (i := 4) (oi := ?oi164) (v := ?v164) ?hi164 (by kernel_rfl) (by kernel_rfl) (by kernel_rfl) ?hq164 ?hy164 (by assumption) ?rest164
                        case hi164 => (simp only [List.getElem?_toArray, List.getElem?_cons_zero, List.getElem?_cons_succ]; rfl)
                        case hq164 => exact fun _ _ _ h => h
                        case hy164 => (refine Or.inl ⟨by rfl, ?_⟩; intro w' hSw; (try dsimp only at hSw); go_simp; try with_reducible rfl)
                        (try simp only [Act.put, List.setIfInBounds_toArray, List.set_cons_zero, List.set_cons_succ])
                        refine wpAnyH_ready (rs := [2]) (by kernel_rfl) (by simp) ?_
                        refine' AllReadyH.cons (o := ?oi165) ?hi165 (fun K hK => ?st165) AllReadyH.nil
                        case hi165 => (simp only [List.getElem?_toArray, List.getElem?_cons_zero, List.getElem?_cons_succ]; rfl)
                        go_simp
                        refine (HGZ.out _ HXD.out).mono ?_
                        rintro e w13 ⟨rfl, hb9⟩
                        have HX1 := hid (below_both HXD.out hb9)
                        clear hb9
                        clear z0 z1 z2 x0 x1 x2
                        obtain ⟨z0, z1, z2⟩ := (BZ.out.below HX1.out).facts
                        obtain ⟨x0, x1, x2⟩ := (BX.out.below HX1.out).facts
                        refine hK.out _ _ ⟨z0, z1, x0, x1⟩ (fun hHeld => ?_)
                        clear hK K
                        (try simp only [Act.put, List.setIfInBounds_toArray, List.set_cons_zero, List.set_cons_succ])
                        refine wpAnyH_ready (rs := [5]) (by kernel_rfl) (by simp) ?_
                        refine' AllReadyH.cons (o := ?oi166) ?hi166 (fun K hK => ?st166) AllReadyH.nil
                        case hi166 => (simp only [List.getElem?_toArray, List.getElem?_cons_zero, List.getElem?_cons_succ]; rfl)
                        go_simp
                        refine (HGX.out _ HX1.out).mono ?_
                        rintro e w14 ⟨rfl, hb9⟩
                        have HX2 := hid (below_both HX1.out hb9)
                        clear hb9
                        clear z0 z1 z2 x0 x1 x2
                        obtain ⟨z0, z1, z2⟩ := (BZ.out.below HX2.out).facts
                        obtain ⟨x0, x1, x2⟩ := (BX.out.below HX2.out).facts
                        refine hK.out _ _ ⟨z0, z1, x0, x1⟩ (fun hHeld => ?_)
                        clear hK K
                        (try simp only [Act.put, List.setIfInBounds_toArray, List.set_cons_zero, List.set_cons_succ])
                        refine' wpAnyH_take (i := 6) (oi := ?oi167) (v := ?v167) ?hi167 (by kernel_rfl) (by kernel_rfl) (by kernel_rfl) ?hq167 ?hy167 (by assumption) ?rest167
                        case hi167 => (simp only [List.getElem?_toArray, List.getElem?_cons_zero, List.getElem?_cons_succ]; rfl)
                        case hq167 => exact fun _ _ _ h => h
                        case hy167 => (refine Or.inl ⟨by rfl, ?_⟩; intro w' hSw; (try dsimp only at hSw); go_simp; try with_reducible rfl)
                        (try simp only [Act.put, List.setIfInBounds_toArray, List.set_cons_zero, List.set_cons_succ])
                        refine' wpAnyH_take (i := 7) (oi := ?oi168) (v := undef) ?hi168 (by kernel_rfl) (by kernel_rfl) (by kernel_rfl) ?hq168 ?hy168 (by assumption) ?rest168
                        case hi168 => (simp only [List.getElem?_toArray, List.getElem?_cons_zero, List.getElem?_cons_succ]; rfl)
                        case hq168 => exact fun _ _ _ h => h
                        case hy168 => exact Or.inr ⟨by rfl, rfl⟩
                        (try simp only [Act.put, List.setIfInBounds_toArray, List.set_cons_zero, List.set_cons_succ])
                        refine' wpAnyH_take (i := 8) (oi := ?oi169) (v := undef) ?hi169 (by kernel_rfl) (by kernel_rfl) (by kernel_rfl) ?hq169 ?hy169 (by assumption) ?rest169
                        case hi169 => (simp only [List.getElem?_toArray, List.getElem?_cons_zero, List.getElem?_cons_succ]; rfl)
                        case hq169 => exact fun _ _ _ h => h
                        case hy169 => exact Or.inr ⟨by rfl, rfl⟩
                        (try simp only [Act.put, List.setIfInBounds_toArray, List.set_cons_zero, List.set_cons_succ])
                        refine' wpAnyH_take (i := 9) (oi := ?oi170) (v := ?v170) ?hi170 (by kernel_rfl) (by kernel_rfl) (by kernel_rfl) ?hq170 ?hy170 (by assumption) ?rest170
                        case hi170 => (simp only [List.getElem?_toArray, List.getElem?_cons_zero, List.getElem?_cons_succ]; rfl)
                        case hq170 => exact fun _ _ _ h => h
                        case hy170 => (refine Or.inl ⟨by rfl, ?_⟩; intro w' hSw; (try dsimp only at hSw); go_simp; try with_reducible rfl)
                        (try simp only [Act.put, List.setIfInBounds_toArray, List.set_cons_zero, List.set_cons_succ])
                        refine' wpAnyH_take (i := 10) (oi := ?oi171) (v := ?v171) ?hi171 (by kernel_rfl) (by kernel_rfl) (by kernel_rfl) ?hq171 ?hy171 (by assumption) ?rest171
                        case hi171 => (simp only [List.getElem?_toArray, List.getElem?_cons_zero, List.getElem?_cons_succ]; rfl)
                        case hq171 => exact fun _ _ _ h => h
                        case hy171 => (refine Or.inl ⟨by rfl, ?_⟩; intro w' hSw; (try dsimp only at hSw); go_simp; try with_reducible rfl)
                        (try simp only [Act.put, List.setIfInBounds_toArray, List.set_cons_zero, List.set_cons_succ])
                        refine' wpAnyH_take (i := 11) (oi := ?oi172) (v := ?v172) ?hi172 (by kernel_rfl) (by kernel_rfl) (by kernel_rfl) ?hq172 ?hy172 (by assumption) ?rest172
                        case hi172 => (simp only [List.getElem?_toArray, List.getElem?_cons_zero, List.getElem?_cons_succ]; rfl)
                        case hq172 => exact fun _ _ _ h => h
                        case hy172 => (refine Or.inl ⟨by rfl, ?_⟩; intro w' hSw; (try dsimp only at hSw); go_simp; try with_reducible rfl)
                        (try simp only [Act.put, List.setIfInBounds_toArray, List.set_cons_zero, List.set_cons_succ])
                        refine' wpAnyH_take (i := 12) (oi := ?oi173) (v := ?v173) ?hi173 (by kernel_rfl) (by kernel_rfl) (by kernel_rfl) ?hq173 ?hy173 (by assumption) ?rest173
                        case hi173 => (simp only [List.getElem?_toArray, List.getElem?_cons_zero, List.getElem?_cons_succ]; rfl)
                        case hq173 => exact fun _ _ _ h => h
                        case hy173 => (refine Or.inl ⟨by rfl, ?_⟩; intro w' hSw; (try dsimp only at hSw); go_simp; try with_reducible rfl)
                        (try simp only [Act.put, List.setIfInBounds_toArray, List.set_cons_zero, List.set_cons_succ])
                        refine' wpAnyH_take (i := 13) (oi := ?oi174) (v := ?v174) ?hi174 (by kernel_rfl) (by kernel_rfl) (by kernel_rfl) ?hq174 ?hy174 (by assumption) ?rest174
                        case hi174 => (simp only [List.getElem?_toArray, List.getElem?_cons_zero, List.getElem?_cons_succ]; rfl)
                        case hq174 => exact fun _ _ _ h => h
                        case hy174 => (refine Or.inl ⟨by rfl, ?_⟩; intro w' hSw; (try dsimp only at hSw); go_simp; try with_reducible rfl)
                        (try simp only [Act.put, List.setIfInBounds_toArray, List.set_cons_zero, List.set_cons_succ])
                        refine' wpAnyH_take (i := 14) (oi := ?oi175) (v := undef) ?hi175 (by kernel_rfl) (by kernel_rfl) (by kernel_rfl) ?hq175 ?hy175 (by assumption) ?rest175
                        case hi175 => (simp only [List.getElem?_toArray, List.getElem?_cons_zero, List.getElem?_cons_succ]; rfl)
                        case hq175 => exact fun _ _ _ h => h
                        case hy175 => exact Or.inr ⟨by rfl, rfl⟩
                        (try simp only [Act.put, List.setIfInBounds_toArray, List.set_cons_zero, List.set_cons_succ])
                        refine' wpAnyH_take (i := 15) (oi := ?oi176) (v := undef) ?hi176 (by kernel_rfl) (by kernel_rfl) (by kernel_rfl) ?hq176 ?hy176 (by assumption) ?rest176
                        case hi176 => (simp only [List.getElem?_toArray, List.getElem?_cons_zero, List.getElem?_cons_succ]; rfl)
                        case hq176 => exact fun _ _ _ h => h
                        case hy176 => exact Or.inr ⟨by rfl, rfl⟩
                        (try simp only [Act.put, List.setIfInBounds_toArray, List.set_cons_zero, List.set_cons_succ])
                        refine' wpAnyH_take (i := 16) (oi := ?oi177) (v := undef) ?hi177 (by kernel_rfl) (by kernel_rfl) (by kernel_rfl) ?hq177 ?hy177 (by assumption) ?rest177
                        case hi177 => (simp only [List.getElem?_toArray, List.getElem?_cons_zero, List.getElem?_cons_succ]; rfl)
                        case hq177 => exact fun _ _ _ h => h
                        case hy177 => exact Or.inr ⟨by rfl, rfl⟩
                        (try simp only [Act.put, List.setIfInBounds_toArray, List.set_cons_zero, List.set_cons_succ])
                        refine' wpAnyH_take (i := 17) (oi := ?oi178) (v := undef) ?hi178 (by kernel_rfl) (by kernel_rfl) (by kernel_rfl) ?hq178 ?hy178 (by assumption) ?rest178
                        case hi178 => (simp only [List.getElem?_toArray, List.getElem?_cons_zero, List.getElem?_cons_succ]; rfl)
                        case hq178 => exact fun _ _ _ h => h
                        case hy178 => exact Or.inr ⟨by rfl, rfl⟩
                        (try simp only [Act.put, List.setIfInBounds_toArray, List.set_cons_zero, List.set_cons_succ])
                        refine' wpAnyH_take (i := 18) (oi := ?oi179) (v := ?v179) ?hi179 (by kernel_rfl) (by kernel_rfl) (by kernel_rfl) ?hq179 ?hy179 (by assumption) ?rest179
                        case hi179 => (simp only [List.getElem?_toArray, List.getElem?_cons_zero, List.getElem?_cons_succ]; rfl)
                        case hq179 => exact fun _ _ _ h => h
                        case hy179 => (refine Or.inl ⟨by rfl, ?_⟩; intro w' hSw; (try dsimp only at hSw); go_simp; try with_reducible rfl)
                        (try simp only [Act.put, List.setIfInBounds_toArray, List.set_cons_zero, List.set_cons_succ])
                        refine' wpAnyH_take (i := 19) (oi := ?oi180) (v := ?v180) ?hi180 (by kernel_rfl) (by kernel_rfl) (by kernel_rfl) ?hq180 ?hy180 (by assumption) ?rest180
                        case hi180 => (simp only [List.getElem?_toArray, List.getElem?_cons_zero, List.getElem?_cons_succ]; rfl)
                        case hq180 => exact fun _ _ _ h => h
                        case hy180 => (refine Or.inl ⟨by rfl, ?_⟩; intro w' hSw; (try dsimp only at hSw); go_simp; try with_reducible rfl)
                        (try simp only [Act.put, List.setIfInBounds_toArray, List.set_cons_zero, List.set_cons_succ])
                        refine wpAnyH_done (by kernel_rfl) ?_ _
                        go_wp2
                        go_roundw
                        case rel => exact ⟨k + 1, by omega, by go_num, HX2⟩
                        case measure => simp [intOf]; omega
                      · go_wp2
                        go_quiet (fail)
                        rename_i nq
                        obtain ⟨W12, hW12⟩ : ∃ W12, wr.drewN nq = W12 := ⟨_, rfl⟩
                        have HX0 : Hid (Below W11.heap.size W11 W12) := by rw [← hW12]; exact hid (below_drewN HX.out nq)
                        rw [hW12]
                        clear hW12 HX hy1 hy2
                        obtain ⟨z0, z1, z2⟩ := (BZ.out.below HX0.out).facts
                        obtain ⟨x0, x1, x2⟩ := (BX.out.below HX0.out).facts
                        have HXD : Hid (Below W11.heap.size W11 W12.drew) := hid ⟨HX0.out.os, HX0.out.tape, HX0.out.output, HX0.out.size, HX0.out.block⟩
                        go_wp2_with fail
                        refine wp_region_held_drew (S := (fun W : World => W.cell? ⟨gz, 0, none⟩ = some (.int .i64 (N : Int)) ∧ W.cell? ⟨gz, 1, none⟩ = some (.slice A9 us9.length c9) ∧ W.cell? ⟨w4.heap.size, 0, none⟩ = some (.int .i64 (N : Int)) ∧ W.cell? ⟨w4.heap.size, 1, none⟩ = some (.slice A1 us1.length c1))) (by kernel_rfl) ⟨z0, z1, x0, x1⟩ (fun hHeld => ?_)
                        refine' wpAnyH_take (i := 0) (oi := ?oi181) (v := ?v181) ?hi181 (by kernel_rfl) (by kernel_rfl) (by kernel_rfl) ?hq181 ?hy181 (by assumption) ?rest181
                        case hi181 => (simp only [List.getElem?_toArray, List.getElem?_cons_zero]; rfl)
                        case hq181 => exact fun _ _ _ h => h
                        case hy181 => (refine Or.inl ⟨by rfl, ?_⟩; intro w' hSw; (try dsimp only at hSw); go_simp; try with_reducible rfl)
                        (try simp only [Act.put, List.setIfInBounds_toArray, List.set_cons_zero, List.set_cons_succ])
                        refine' wpAnyH_take (i := 1) (oi := ?oi182) (v := ?v182) ?hi182 (by kernel_rfl) (by kernel_rfl) (by kernel_rfl) ?hq182 ?hy182 (by assumption) ?rest182
                        case hi182 => (simp only [List.getElem?_toArray, List.getElem?_cons_zero, List.getElem?_cons_succ]; rfl)
                        case hq182 => exact fun _ _ _ h => h
                        case hy182 => (refine Or.inl ⟨by rfl, ?_⟩; intro w' hSw; (try dsimp only at hSw); go_simp; try with_reducible rfl)
                        (try simp only [Act.put, List.setIfInBounds_toArray, List.set_cons_zero, List.set_cons_succ])
                        refine' wpAnyH_take (i := 3) (oi := ?oi183) (v := ?v183) ?hi183 (by kernel_rfl) (by kernel_rfl) (by kernel_rfl) ?hq183 ?hy183 (by assumption) ?rest183
                        case hi183 => (simp only [List.getElem?_toArray, List.getElem?_cons_zero, List.getElem?_cons_succ]; rfl)
                        case hq183 => exact fun _ _ _ h => h
                        case hy183 => (refine Or.inl ⟨by rfl, ?_⟩; intro w' hSw; (try dsimp only at hSw); go_simp; try with_reducible rfl)
                        (try simp only [Act.put, List.setIfInBounds_toArray, List.set_cons_zero, List.set_cons_succ])
                        refine' wpAnyH_take (i := 4) (oi := ?oi184) (v := ?v184) ?hi184 (by kernel_rfl) (by kernel_rfl) (by kernel_rfl) ?hq184 ?hy184 (by assumption) ?rest184
                        case hi184 => (simp only [List.getElem?_toArray, List.getElem?_cons_zero, List.getElem?_cons_succ]; rfl)
                        case hq184 => exact fun _ _ _ h => h
                        case hy184 => (refine Or.inl ⟨by rfl, ?_⟩; intro w' hSw; (try dsimp only at hSw); go_simp; try with_reducible rfl)
                        (try simp only [Act.put, List.setIfInBounds_toArray, List.set_cons_zero, List.set_cons_succ])
                        refine wpAnyH_ready (rs := [2]) (by kernel_rfl) (by simp) ?_
                        refine' AllReadyH.cons (o := ?oi185) ?hi185 (fun K hK => ?st185) AllReadyH.nil
                        case hi185 => (simp only [List.getElem?_toArray, List.getElem?_cons_zero, List.getElem?_cons_succ]; rfl)
                        go_simp
                        refine (HGZ.out _ HXD.out).mono ?_
                        rintro e w13 ⟨rfl, hb9⟩
                        have HX1 := hid (below_both HXD.out hb9)
                        clear hb9
                        clear z0 z1 z2 x0 x1 x2
                        obtain ⟨z0, z1, z2⟩ := (BZ.out.below HX1.out).facts
                        obtain ⟨x0, x1, x2⟩ := (BX.out.below HX1.out).facts
                        refine hK.out _ _ ⟨z0, z1, x0, x1⟩ (fun hHeld => ?_)
                        clear hK K
                        (try simp only [Act.put, List.setIfInBounds_toArray, List.set_cons_zero, List.set_cons_succ])
                        refine wpAnyH_ready (rs := [5]) (by kernel_rfl) (by simp) ?_
                        refine' AllReadyH.cons (o := ?oi186) ?hi186 (fun K hK => ?st186) AllReadyH.nil
                        case hi186 => (simp only [List.getElem?_toArray, List.getElem?_cons_zero, List.getElem?_cons_succ]; rfl)
                        go_simp
                        refine (HGX.out _ HX1.out).mono ?_
                        rintro e w14 ⟨rfl, hb9⟩
                        have HX2 := hid (below_both HX1.out hb9)
                        clear hb9
                        clear z0 z1 z2 x0 x1 x2
                        obtain ⟨z0, z1, z2⟩ := (BZ.out.below HX2.out).facts
                        obtain ⟨x0, x1, x2⟩ := (BX.out.below HX2.out).facts
                        refine hK.out _ _ ⟨z0, z1, x0, x1⟩ (fun hHeld => ?_)
                        clear hK K
                        (try simp only [Act.put, List.setIfInBounds_toArray, List.set_cons_zero, List.set_cons_succ])
                        refine' wpAnyH_take (i := 6) (oi := ?oi187) (v := ?v187) ?hi187 (by kernel_rfl) (by kernel_rfl) (by kernel_rfl) ?hq187 ?hy187 (by assumption) ?rest187
                        case hi187 => (simp only [List.getElem?_toArray, List.getElem?_cons_zero, List.getElem?_cons_succ]; rfl)
                        case hq187 => exact fun _ _ _ h => h
                        case hy187 => (refine Or.inl ⟨by rfl, ?_⟩; intro w' hSw; (try dsimp only at hSw); go_simp; try with_reducible rfl)
                        (try simp only [Act.put, List.setIfInBounds_toArray, List.set_cons_zero, List.set_cons_succ])
                        refine' wpAnyH_take (i := 7) (oi := ?oi188) (v := ?v188) ?hi188 (by kernel_rfl) (by kernel_rfl) (by kernel_rfl) ?hq188 ?hy188 (by assumption) ?rest188
                        case hi188 => (simp only [List.getElem?_toArray, List.getElem?_cons_zero, List.getElem?_cons_succ]; rfl)
                        case hq188 => exact fun _ _ _ h => h
                        case hy188 => (refine Or.inl ⟨by rfl, ?_⟩; intro w' hSw; (try dsimp only at hSw); go_simp; try with_reducible rfl)
                        (try simp only [Act.put, List.setIfInBounds_toArray, List.set_cons_zero, List.set_cons_succ])
                        refine' wpAnyH_take (i := 8) (oi := ?oi189) (v := ?v189) ?hi189 (by kernel_rfl) (by kernel_rfl) (by kernel_rfl) ?hq189 ?hy189 (by assumption) ?rest189
                        case hi189 => (simp only [List.getElem?_toArray, List.getElem?_cons_zero, List.getElem?_cons_succ]; rfl)
                        case hq189 => exact fun _ _ _ h => h
                        case hy189 => (refine Or.inl ⟨by rfl, ?_⟩; intro w' hSw; (try dsimp only at hSw); go_simp; try with_reducible rfl)
                        (try simp only [Act.put, List.setIfInBounds_toArray, List.set_cons_zero, List.set_cons_succ])
                        refine' wpAnyH_take (i := 9) (oi := ?oi190) (v := ?v190) ?hi190 (by kernel_rfl) (by kernel_rfl) (by kernel_rfl) ?hq190 ?hy190 (by assumption) ?rest190
                        case hi190 => (simp only [List.getElem?_toArray, List.getElem?_cons_zero, List.getElem?_cons_succ]; rfl)
                        case hq190 => exact fun _ _ _ h => h
                        case hy190 => (refine Or.inl ⟨by rfl, ?_⟩; intro w' hSw; (try dsimp only at hSw); go_simp; try with_reducible rfl)
                        (try simp only [Act.put, List.setIfInBounds_toArray, List.set_cons_zero, List.set_cons_succ])
                        refine' wpAnyH_take (i := 10) (oi := ?oi191) (v := ?v191) ?hi191 (by kernel_rfl) (by kernel_rfl) (by kernel_rfl) ?hq191 ?hy191 (by assumption) ?rest191
                        case hi191 => (simp only [List.getElem?_toArray, List.getElem?_cons_zero, List.getElem?_cons_succ]; rfl)
                        case hq191 => exact fun _ _ _ h => h
                        case hy191 => (refine Or.inl ⟨by rfl, ?_⟩; intro w' hSw; (try dsimp only at hSw); go_simp; try with_reducible rfl)
                        (try simp only [Act.put, List.setIfInBounds_toArray, List.set_cons_zero, List.set_cons_succ])
                        refine' wpAnyH_take (i := 11) (oi := ?oi192) (v := ?v192) ?hi192 (by kernel_rfl) (by kernel_rfl) (by kernel_rfl) ?hq192 ?hy192 (by assumption) ?rest192
                        case hi192 => (simp only [List.getElem?_toArray, List.getElem?_cons_zero, List.getElem?_cons_succ]; rfl)
                        case hq192 => exact fun _ _ _ h => h
                        case hy192 => (refine Or.inl ⟨by rfl, ?_⟩; intro w' hSw; (try dsimp only at hSw); go_simp; try with_reducible rfl)
                        (try simp only [Act.put, List.setIfInBounds_toArray, List.set_cons_zero, List.set_cons_succ])
                        refine' wpAnyH_take (i := 12) (oi := ?oi193) (v := ?v193) ?hi193 (by kernel_rfl) (by kernel_rfl) (by kernel_rfl) ?hq193 ?hy193 (by assumption) ?rest193
                        case hi193 => (simp only [List.getElem?_toArray, List.getElem?_cons_zero, List.getElem?_cons_succ]; rfl)
                        case hq193 => exact fun _ _ _ h => h
                        case hy193 => (refine Or.inl ⟨by rfl, ?_⟩; intro w' hSw; (try dsimp only at hSw); go_simp; try with_reducible rfl)
                        (try simp only [Act.put, List.setIfInBounds_toArray, List.set_cons_zero, List.set_cons_succ])
                        refine' wpAnyH_take (i := 13) (oi := ?oi194) (v := ?v194) ?hi194 (by kernel_rfl) (by kernel_rfl) (by kernel_rfl) ?hq194 ?hy194 (by assumption) ?rest194
                        case hi194 => (simp only [List.getElem?_toArray, List.getElem?_cons_zero, List.getElem?_cons_succ]; rfl)
                        case hq194 => exact fun _ _ _ h => h
                        case hy194 => (refine Or.inl ⟨by rfl, ?_⟩; intro w' hSw; (try dsimp only at hSw); go_simp; try with_reducible rfl)
                        (try simp only [Act.put, List.setIfInBounds_toArray, List.set_cons_zero, List.set_cons_succ])
                        refine' wpAnyH_take (i := 14) (oi := ?oi195) (v := undef) ?hi195 (by kernel_rfl) (by kernel_rfl) (by kernel_rfl) ?hq195 ?hy195 (by assumption) ?rest195
                        case hi195 => (simp only [List.getElem?_toArray, List.getElem?_cons_zero, List.getElem?_cons_succ]; rfl)
                        case hq195 => exact fun _ _ _ h => h
                        case hy195 => exact Or.inr ⟨by rfl, rfl⟩
                        (try simp only [Act.put, List.setIfInBounds_toArray, List.set_cons_zero, List.set_cons_succ])
                        refine' wpAnyH_take (i := 15) (oi := ?oi196) (v := undef) ?hi196 (by kernel_rfl) (by kernel_rfl) (by kernel_rfl) ?hq196 ?hy196 (by assumption) ?rest196
                        case hi196 => (simp only [List.getElem?_toArray, List.getElem?_cons_zero, List.getElem?_cons_succ]; rfl)
                        case hq196 => exact fun _ _ _ h => h
                        case hy196 => exact Or.inr ⟨by rfl, rfl⟩
                        (try simp only [Act.put, List.setIfInBounds_toArray, List.set_cons_zero, List.set_cons_succ])
                        refine' wpAnyH_take (i := 16) (oi := ?oi197) (v := undef) ?hi197 (by kernel_rfl) (by kernel_rfl) (by kernel_rfl) ?hq197 ?hy197 (by assumption) ?rest197
                        case hi197 => (simp only [List.getElem?_toArray, List.getElem?_cons_zero, List.getElem?_cons_succ]; rfl)
                        case hq197 => exact fun _ _ _ h => h
                        case hy197 => exact Or.inr ⟨by rfl, rfl⟩
                        (try simp only [Act.put, List.setIfInBounds_toArray, List.set_cons_zero, List.set_cons_succ])
                        refine' wpAnyH_take (i := 17) (oi := ?oi198) (v := undef) ?hi198 (by kernel_rfl) (by kernel_rfl) (by kernel_rfl) ?hq198 ?hy198 (by assumption) ?rest198
                        case hi198 => (simp only [List.getElem?_toArray, List.getElem?_cons_zero, List.getElem?_cons_succ]; rfl)
                        case hq198 => exact fun _ _ _ h => h
                        case hy198 => exact Or.inr ⟨by rfl, rfl⟩
                        (try simp only [Act.put, List.setIfInBounds_toArray, List.set_cons_zero, List.set_cons_succ])
                        refine' wpAnyH_take (i := 18) (oi := ?oi199) (v := ?v199) ?hi199 (by kernel_rfl) (by kernel_rfl) (by kernel_rfl) ?hq199 ?hy199 (by assumption) ?rest199
                        case hi199 => (simp only [List.getElem?_toArray, List.getElem?_cons_zero, List.getElem?_cons_succ]; rfl)
                        case hq199 => exact fun _ _ _ h => h
                        case hy199 => (refine Or.inl ⟨by rfl, ?_⟩; intro w' hSw; (try dsimp only at hSw); go_simp; try with_reducible rfl)
                        (try simp only [Act.put, List.setIfInBounds_toArray, List.set_cons_zero, List.set_cons_succ])
                        refine' wpAnyH_take (i := 19) (oi := ?oi200) (v := ?v200) ?hi200 (by kernel_rfl) (by kernel_rfl) (by kernel_rfl) ?hq200 ?hy200 (by assumption) ?rest200
                        case hi200 => (simp only [List.getElem?_toArray, List.getElem?_cons_zero, List.getElem?_cons_succ]; rfl)
                        case hq200 => exact fun _ _ _ h => h
                        case hy200 => (refine Or.inl ⟨by rfl, ?_⟩; intro w' hSw; (try dsimp only at hSw); go_simp; try with_reducible rfl)
                        (try simp only [Act.put, List.setIfInBounds_toArray, List.set_cons_zero, List.set_cons_succ])
                        refine wpAnyH_done (by kernel_rfl) ?_ _
                        go_wp2
                        go_roundw
                        case rel => exact ⟨k + 1, by omega, by go_num, HX2⟩
                        case measure => simp [intOf]; omega
                · obtain rfl : k = N := by omega
                  go_wp2_with fail
                  refine (HAW.out _ (below_both HBW.out HX.out)).mono ?_
                  rintro e w16 ⟨rfl, hb16⟩
                  have HF := hid (below_both (below_both HBW.out HX.out) hb16)
                  clear hb16
                  go_wp2
                  go_ret
                  exact ⟨rfl, HF.out⟩
        · go_wp2_with fail
          refine (HC1.out _ (Below.refl _ _)).mono ?_
          intro e w4 hm
          obtain ⟨S1, us1, A1, c1, rfl, hS1, hbm1, hl1, hif1, hb⟩ := made_open hm
          replace HB := hid (below_both HB.out hb)
          have HW4 := hid hb
          have M1 := hid hbm1
          have HS1 := hid hS1
          have HIF1 := hid hif1
          clear hb hm hbm1 hS1 hif1
          go_wp2_with fail
          obtain ⟨w5, heq⟩ : ∃ X, w4.alloc (.cells #[.int .i64 S1, .slice A1 us1.length c1] 24) = X := ⟨_, rfl⟩
          have hb : Below w4.heap.size w4 w5 := by rw [← heq]; exact al1 _ _
          replace M1 := hid (M1.out.below hb)
          replace HB := hid (below_both HB.out hb)
          have HW5 := hid hb
          have B1 : Hid (Box w5 w4.heap.size S1 A1 us1.length c1) := hid (by rw [← heq]; exact box_new _ _ _ _ _)
          rw [heq]
          clear hb heq
          obtain ⟨B1c0, B1c1, B1c2⟩ := B1.out.facts
          refine (HC2.out _ (below_both HW4.out HW5.out)).mono ?_
          intro e w6 hm
          obtain ⟨A1', c1', rfl, hbm1, hb⟩ := made_again hm HS1.out HIF1.out M1.out.2.1
          replace B1 := hid (B1.out.below hb)
          replace M1 := hid (M1.out.below hb)
          replace HB := hid (below_both HB.out hb)
          clear B1c0 B1c1 B1c2
          obtain ⟨B1c0, B1c1, B1c2⟩ := B1.out.facts
          have M1' := hid hbm1
          clear hb hm hbm1
          go_wp2_with fail
          obtain ⟨w7, heq⟩ : ∃ X, w6.alloc (.cells #[.int .i64 S1, .slice A1' us1.length c1'] 24) = X := ⟨_, rfl⟩
          have hb : Below w6.heap.size w6 w7 := by rw [← heq]; exact al1 _ _
          replace B1 := hid (B1.out.below hb)
          replace M1 := hid (M1.out.below hb)
          replace M1' := hid (M1'.out.below hb)
          replace HB := hid (below_both HB.out hb)
          have B2 : Hid (Box w7 w6.heap.size S1 A1' us1.length c1') := hid (by rw [← heq]; exact box_new _ _ _ _ _)
          rw [heq]
          clear hb heq
          clear B1c0 B1c1 B1c2
          obtain ⟨B1c0, B1c1, B1c2⟩ := B1.out.facts
          obtain ⟨B2c0, B2c1, B2c2⟩ := B2.out.facts
          refine (same_true S1 us1 _ _ _ M1.out M1'.out hl1).mono ?_
          rintro e w8 ⟨rfl, hb⟩
          replace B1 := hid (B1.out.below hb)
          replace B2 := hid (B2.out.below hb)
          replace M1 := hid (M1.out.below hb)
          replace M1' := hid (M1'.out.below hb)
          replace HB := hid (below_both HB.out hb)
          clear B1c0 B1c1 B1c2
          clear B2c0 B2c1 B2c2
          obtain ⟨B1c0, B1c1, B1c2⟩ := B1.out.facts
          obtain ⟨B2c0, B2c1, B2c2⟩ := B2.out.facts
          clear hb
          go_wp2_with fail
          refine (HAW.out _ HB.out).mono ?_
          rintro e w9 ⟨rfl, hb⟩
          replace B1 := hid (B1.out.below hb)
          replace B2 := hid (B2.out.below hb)
          replace M1 := hid (M1.out.below hb)
          replace M1' := hid (M1'.out.below hb)
          replace HB := hid (below_both HB.out hb)
          clear B1c0 B1c1 B1c2
          clear B2c0 B2c1 B2c2
          obtain ⟨B1c0, B1c1, B1c2⟩ := B1.out.facts
          obtain ⟨B2c0, B2c1, B2c2⟩ := B2.out.facts
          clear hb
          go_wp2_with fail
          refine (same_true S1 us1 _ _ _ M1.out M1'.out hl1).mono ?_
          rintro e w10 ⟨rfl, hb⟩
          replace B1 := hid (B1.out.below hb)
          replace B2 := hid (B2.out.below hb)
          replace M1 := hid (M1.out.below hb)
          replace M1' := hid (M1'.out.below hb)
          replace HB := hid (below_both HB.out hb)
          clear B1c0 B1c1 B1c2
          clear B2c0 B2c1 B2c2
          obtain ⟨B1c0, B1c1, B1c2⟩ := B1.out.facts
          obtain ⟨B2c0, B2c1, B2c2⟩ := B2.out.facts
          clear hb
          go_wp2
          go_ret
          exact ⟨rfl, HB.out⟩
      · obtain ⟨hA1, hbl⟩ := hA (by omega)
        subst hA1
        obtain ⟨⟨a, c⟩, he⟩ : ∃ e, l[k]? = some e := ⟨l[k]'(by omega), List.getElem?_eq_getElem (by omega)⟩
        have hc1 := (HB.out.cell (p := ⟨b, off + k * 2, none⟩) hbl).trans (HC.out k _ he).1
        have hc2 := (HB.out.cell (p := ⟨b, off + k * 2 + 1, none⟩) hbl).trans (HC.out k _ he).2
        dsimp only at hc1 hc2
        have HST := hid (bk_step he)
        have hkl : k < l.length := by omega
        obtain ⟨av, cv, rfl⟩ := own_form HO.out
        clear he
        go_wp2_with (at_builtin; refine wpList_append_own _ rfl _ _ 45 rfl w.heap.size 39 i0 (.agg #[.int .i64 0, .int .i64 0]) 2 16 Tryd.underlying45 hinf hz0 hz1 hz2 rfl (by decide) _ _ _ rfl (HO.out.alloc _) ⟨wr.heap.size, 0, none⟩ 1 1 _ rfl (xflat_length [(a, c)]) (cells_new wr 39 _) (one_cells _ _) (by unfold maxLen; omega) (by omega) (by simp; omega) ?_; intro v' w4 hown' hgrow _; have HO4 : Hid (w4.ownsRow w.heap.size 39 2 v' (n + 1) (xflat (bk l k))) := hid (by rw [HST.out, xflat_append]; exact hown'); have HB4 := hid (below_own HB.out HO.out hgrow hBs (Nat.le_refl _)); clear hown' hgrow)
        go_roundw
        case rel => exact ⟨k, n + 1, by omega, hid (by cases k with
          | zero => exact .inl ⟨rfl, int_eq (by omega)⟩
          | succ m => exact .inr ⟨m, rfl, int_eq (by omega)⟩), HO4, HB4⟩
        case measure => simp [intOf]
  · have hl2 : 12 < l.length := by omega
    go_enter Tryd.func10, Tryd.ntmps10
    go_wp2_with fail
    refine (HAW.out _ (Below.refl _ _)).mono ?_
    rintro e w5 ⟨rfl, hb⟩
    have HB := hid hb
    clear hb
    go_wp2
    go_ret
    exact ⟨rfl, HB.out⟩
end Go.Proofs.YtbifhcjkdfocaaaDoor
