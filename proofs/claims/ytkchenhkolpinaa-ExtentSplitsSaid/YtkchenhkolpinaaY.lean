/- The reference's Union, Intersect, Subtract and Complement. -/
import Derived.Test.YtkchenhkolpinaaW
namespace Go.Proofs.Ytkchenhkolpinaa
open Go.RowKit

/-- The marks after k rounds. -/
def upd (f : Bool → Bool → Bool) (m m' : Int → Bool) (k : Nat) (x : Int) : Bool := if x < (k : Int) then f (m x) (m' x) else m x
theorem upd_zero (f : Bool → Bool → Bool) (m m' : Int → Bool) (i : Nat) : upd f m m' 0 i = m i := by
  unfold upd; rw [if_neg (by omega)]
theorem upd_at (f : Bool → Bool → Bool) (m m' : Int → Bool) (k : Nat) : upd f m m' k k = m k := by
  unfold upd; rw [if_neg (by omega)]
theorem upd_succ (f : Bool → Bool → Bool) (m m' : Int → Bool) (k i : Nat) (v : Bool) (hv : f (m k) (m' k) = v) : (if (i : Int) = k then v else upd f m m' k i) = upd f m m' (k + 1) i := by
  unfold upd
  by_cases e : i = k
  · subst e
    rw [if_pos rfl, if_pos (by omega), hv]
  · rw [if_neg (by omega)]
    by_cases h : i < k
    · rw [if_pos (by omega), if_pos (by omega)]
    · rw [if_neg (by omega), if_neg (by omega)]
theorem upd_end (f : Bool → Bool → Bool) (m m' : Int → Bool) (n : Nat) (x : Int) : (decide (0 ≤ x ∧ x < (n : Int)) && upd f m m' n x) = (decide (0 ≤ x ∧ x < (n : Int)) && f (m x) (m' x)) := by
  by_cases h : 0 ≤ x ∧ x < (n : Int)
  · unfold upd; rw [if_pos h.2]
  · rw [decide_eq_false h, Bool.false_and, Bool.false_and]
theorem both_range (f : Bool → Bool → Bool) (h0 : f false false = false) (a b : List (Int × Int)) (x : Int) : (decide (0 ≤ x ∧ x < ((4096 : Nat) : Int)) && f (mem a x) (mem b x)) = f (mem a x) (mem b x) := by
  by_cases h : 0 ≤ x ∧ x < ((4096 : Nat) : Int)
  · rw [decide_eq_true h, Bool.true_and]
  · have ha : mem a x = false := by
      cases e : mem a x with
      | false => rfl
      | true => exact absurd (mem_range e) (by omega)
    have hb : mem b x = false := by
      cases e : mem b x with
      | false => rfl
      | true => exact absurd (mem_range e) (by omega)
    rw [ha, hb, h0, Bool.and_false]
theorem Made.of_eq {w : World} {p q : Int → Bool} (h : ∀ x, p x = q x) {e : Ending} {w' : World} (hm : Made w p e w') : Made w q e w' := by
  obtain ⟨v, l, h1, h2, h3, h4, h5⟩ := hm
  exact ⟨v, l, h1, h2, fun x => (h3 x).trans (h x), h4, h5⟩
theorem Made.from {w w1 : World} {p : Int → Bool} {e : Ending} {w' : World} (hb : Below w.heap.size w w1) (hm : Made w1 p e w') : Made w p e w' := by
  obtain ⟨v, l, h1, h2, h3, h4, h5⟩ := hm
  exact ⟨v, l, h1, h2, h3, h4, below_both hb h5⟩
theorem below_set {w wr : World} {g i : Nat} (u : Value) (hB : Below w.heap.size w wr) (hg : w.heap.size ≤ g) : Below w.heap.size w (wr.setCell ⟨g, i, none⟩ u) := hB.setCell (p := ⟨g, i, none⟩) hg u
theorem Mk.other {w : World} {g g' i : Nat} {m : Int → Bool} (h : Mk w g m) (hne : g ≠ g') (u : Value) : Mk (w.setCell ⟨g', i, none⟩ u) g m :=
  h.keep (Below.heap_setCell _ _ _ _ hne)

set_option maxHeartbeats 4000000 in
set_option maxRecDepth 100000 in
theorem refUnion_any (a b : List (Int × Int)) (va vb : Value) (w : World) (ha : Ext w va a) (hb : Ext w vb b) (la : a.length ≤ 10000) (lb : b.length ≤ 10000) :
    Calls Try.prog 20 #[va, vb] w (Made w fun x => mem a x || mem b x) := by
  have HA := hid (marks_any a va w ha la)
  have HBX := hid (fun w1 (h : Below w.heap.size w w1) => marks_any b vb w1 (hb.below h) lb)
  obtain ⟨A, ca, hva⟩ : ∃ A ca, va = .slice A a.length ca := by obtain ⟨_, A, ca, h, _⟩ := ha; exact ⟨A, ca, h⟩
  obtain ⟨B, cb, hvb⟩ : ∃ B cb, vb = .slice B b.length cb := by obtain ⟨_, B, cb, h, _⟩ := hb; exact ⟨B, cb, h⟩
  subst hva
  subst hvb
  clear ha hb
  go_enter Try.func20, Try.ntmps20
  go_wp2_with (first | (go_at_call 37; refine HA.out.mono ?_; rintro e w1 ⟨g1, rfl, hm1, hg1, hb1⟩; have HM1 := hid hm1; have HB1 := hid hb1; clear hm1 hb1; clear HA) | (go_at_call 37; refine (HBX.out _ HB1.out).mono ?_; rintro e w2 ⟨g2, rfl, hm2, hg2, hb2⟩; have HM2 := hid hm2; have HB2 := hid hb2; clear hm2 hb2))
  have hg1lt := HM1.out.lt
  have hne : g1 ≠ g2 := by omega
  have hne2 : g2 ≠ g1 := by omega
  have HB0 := hid (below_both HB1.out HB2.out)
  have HM1' := hid (HM1.out.below HB2.out)
  have hg2w : w.heap.size ≤ g2 := by have := HB1.out.size; omega
  clear HM1 HB1 HB2 HBX
  go_loopw [7] (fun i wr => ∃ k : Nat, k ≤ 4096 ∧ i = .int .i64 k ∧ Hid (Mk wr g1 (upd (fun p q => p || q) (fun x => mem a x) (fun x => mem b x) k)) ∧ Hid (Mk wr g2 (fun x => mem b x)) ∧ Below w.heap.size w wr) (fun i _ => 4096 - (intOf i).toNat)
  case atStart => exact ⟨0, by omega, rfl, hid (HM1'.out.congr (fun i _ => (upd_zero _ _ _ i).symm)), HM2, HB0.out⟩
  case round =>
    obtain ⟨k, hk, rfl, hx, hy, hB⟩ := hrel
    clear HM1' HM2 HB0
    by_cases hlt : k < 4096
    · have x1 := hx.out.cell hlt
      have x2 := hy.out.cell hlt
      have x3 := hx.out.frozen k
      rw [upd_at] at x1
      try dsimp only at x1 x2
      obtain ⟨p, hp⟩ : ∃ p, mem a k = p := ⟨_, rfl⟩
      obtain ⟨q, hq⟩ : ∃ q, mem b k = q := ⟨_, rfl⟩
      rw [hp] at x1
      rw [hq] at x2
      have HPQ : Hid (∀ v, (fun p q => p || q) p q = v → (fun p q => p || q) (mem a k) (mem b k) = v) := hid (fun v h => by rw [hp, hq]; exact h)
      clear hp hq
      have hset := fun (v : Bool) => hid (hx.out.set hlt v)
      have HSET := hid hset
      clear hset
      cases p with
      | true =>
        cases q with
        | true =>
          go_wp2
          go_roundw
          case rel => exact ⟨k + 1, by omega, by go_num, hid ((HSET.out _).out.congr (fun i _ => upd_succ _ _ _ _ _ _ (HPQ.out _ rfl))), hid (hy.out.other hne2 _), below_set _ hB hg1⟩
          case measure => simp [intOf]; omega
        | false =>
          go_wp2
          go_roundw
          case rel => exact ⟨k + 1, by omega, by go_num, hid ((HSET.out _).out.congr (fun i _ => upd_succ _ _ _ _ _ _ (HPQ.out _ rfl))), hid (hy.out.other hne2 _), below_set _ hB hg1⟩
          case measure => simp [intOf]; omega
      | false =>
        cases q with
        | true =>
          go_wp2
          go_roundw
          case rel => exact ⟨k + 1, by omega, by go_num, hid ((HSET.out _).out.congr (fun i _ => upd_succ _ _ _ _ _ _ (HPQ.out _ rfl))), hid (hy.out.other hne2 _), below_set _ hB hg1⟩
          case measure => simp [intOf]; omega
        | false =>
          go_wp2
          go_roundw
          case rel => exact ⟨k + 1, by omega, by go_num, hid ((HSET.out _).out.congr (fun i _ => upd_succ _ _ _ _ _ _ (HPQ.out _ rfl))), hid (hy.out.other hne2 _), below_set _ hB hg1⟩
          case measure => simp [intOf]; omega
    · obtain rfl : k = 4096 := by omega
      have HL := hid (list_any g1 4096 4096 _ wr hx.out (Nat.le_refl _) (Nat.le_refl _) (Nat.le_refl _))
      go_wp2_with (go_at_call 36; refine HL.out.mono ?_; rintro e w3 ⟨v, l, rfl, h1, h2, h3, h4⟩)
      refine bodyPost_ret (results_tmp rfl _ _ _) rfl ?_
      exact ⟨v, l, rfl, h1, fun x => (h2 x).trans ((upd_end _ _ _ _ x).trans (both_range (fun p q => p || q) rfl a b x)), h3, below_both hB h4⟩

set_option maxHeartbeats 4000000 in
set_option maxRecDepth 100000 in
theorem refIntersect_any (a b : List (Int × Int)) (va vb : Value) (w : World) (ha : Ext w va a) (hb : Ext w vb b) (la : a.length ≤ 10000) (lb : b.length ≤ 10000) :
    Calls Try.prog 22 #[va, vb] w (Made w fun x => mem a x && mem b x) := by
  have HA := hid (marks_any a va w ha la)
  have HBX := hid (fun w1 (h : Below w.heap.size w w1) => marks_any b vb w1 (hb.below h) lb)
  obtain ⟨A, ca, hva⟩ : ∃ A ca, va = .slice A a.length ca := by obtain ⟨_, A, ca, h, _⟩ := ha; exact ⟨A, ca, h⟩
  obtain ⟨B, cb, hvb⟩ : ∃ B cb, vb = .slice B b.length cb := by obtain ⟨_, B, cb, h, _⟩ := hb; exact ⟨B, cb, h⟩
  subst hva
  subst hvb
  clear ha hb
  go_enter Try.func22, Try.ntmps22
  go_wp2_with (first | (go_at_call 37; refine HA.out.mono ?_; rintro e w1 ⟨g1, rfl, hm1, hg1, hb1⟩; have HM1 := hid hm1; have HB1 := hid hb1; clear hm1 hb1; clear HA) | (go_at_call 37; refine (HBX.out _ HB1.out).mono ?_; rintro e w2 ⟨g2, rfl, hm2, hg2, hb2⟩; have HM2 := hid hm2; have HB2 := hid hb2; clear hm2 hb2))
  have hg1lt := HM1.out.lt
  have hne : g1 ≠ g2 := by omega
  have hne2 : g2 ≠ g1 := by omega
  have HB0 := hid (below_both HB1.out HB2.out)
  have HM1' := hid (HM1.out.below HB2.out)
  have hg2w : w.heap.size ≤ g2 := by have := HB1.out.size; omega
  clear HM1 HB1 HB2 HBX
  go_loopw [7] (fun i wr => ∃ k : Nat, k ≤ 4096 ∧ i = .int .i64 k ∧ Hid (Mk wr g1 (upd (fun p q => p && q) (fun x => mem a x) (fun x => mem b x) k)) ∧ Hid (Mk wr g2 (fun x => mem b x)) ∧ Below w.heap.size w wr) (fun i _ => 4096 - (intOf i).toNat)
  case atStart => exact ⟨0, by omega, rfl, hid (HM1'.out.congr (fun i _ => (upd_zero _ _ _ i).symm)), HM2, HB0.out⟩
  case round =>
    obtain ⟨k, hk, rfl, hx, hy, hB⟩ := hrel
    clear HM1' HM2 HB0
    by_cases hlt : k < 4096
    · have x1 := hx.out.cell hlt
      have x2 := hy.out.cell hlt
      have x3 := hx.out.frozen k
      rw [upd_at] at x1
      try dsimp only at x1 x2
      obtain ⟨p, hp⟩ : ∃ p, mem a k = p := ⟨_, rfl⟩
      obtain ⟨q, hq⟩ : ∃ q, mem b k = q := ⟨_, rfl⟩
      rw [hp] at x1
      rw [hq] at x2
      have HPQ : Hid (∀ v, (fun p q => p && q) p q = v → (fun p q => p && q) (mem a k) (mem b k) = v) := hid (fun v h => by rw [hp, hq]; exact h)
      clear hp hq
      have hset := fun (v : Bool) => hid (hx.out.set hlt v)
      have HSET := hid hset
      clear hset
      cases p with
      | true =>
        cases q with
        | true =>
          go_wp2
          go_roundw
          case rel => exact ⟨k + 1, by omega, by go_num, hid ((HSET.out _).out.congr (fun i _ => upd_succ _ _ _ _ _ _ (HPQ.out _ rfl))), hid (hy.out.other hne2 _), below_set _ hB hg1⟩
          case measure => simp [intOf]; omega
        | false =>
          go_wp2
          go_roundw
          case rel => exact ⟨k + 1, by omega, by go_num, hid ((HSET.out _).out.congr (fun i _ => upd_succ _ _ _ _ _ _ (HPQ.out _ rfl))), hid (hy.out.other hne2 _), below_set _ hB hg1⟩
          case measure => simp [intOf]; omega
      | false =>
        cases q with
        | true =>
          go_wp2
          go_roundw
          case rel => exact ⟨k + 1, by omega, by go_num, hid ((HSET.out _).out.congr (fun i _ => upd_succ _ _ _ _ _ _ (HPQ.out _ rfl))), hid (hy.out.other hne2 _), below_set _ hB hg1⟩
          case measure => simp [intOf]; omega
        | false =>
          go_wp2
          go_roundw
          case rel => exact ⟨k + 1, by omega, by go_num, hid ((HSET.out _).out.congr (fun i _ => upd_succ _ _ _ _ _ _ (HPQ.out _ rfl))), hid (hy.out.other hne2 _), below_set _ hB hg1⟩
          case measure => simp [intOf]; omega
    · obtain rfl : k = 4096 := by omega
      have HL := hid (list_any g1 4096 4096 _ wr hx.out (Nat.le_refl _) (Nat.le_refl _) (Nat.le_refl _))
      go_wp2_with (go_at_call 36; refine HL.out.mono ?_; rintro e w3 ⟨v, l, rfl, h1, h2, h3, h4⟩)
      refine bodyPost_ret (results_tmp rfl _ _ _) rfl ?_
      exact ⟨v, l, rfl, h1, fun x => (h2 x).trans ((upd_end _ _ _ _ x).trans (both_range (fun p q => p && q) rfl a b x)), h3, below_both hB h4⟩

set_option maxHeartbeats 4000000 in
set_option maxRecDepth 100000 in
theorem refSubtract_any (a b : List (Int × Int)) (va vb : Value) (w : World) (ha : Ext w va a) (hb : Ext w vb b) (la : a.length ≤ 10000) (lb : b.length ≤ 10000) :
    Calls Try.prog 24 #[va, vb] w (Made w fun x => mem a x && !mem b x) := by
  have HA := hid (marks_any a va w ha la)
  have HBX := hid (fun w1 (h : Below w.heap.size w w1) => marks_any b vb w1 (hb.below h) lb)
  obtain ⟨A, ca, hva⟩ : ∃ A ca, va = .slice A a.length ca := by obtain ⟨_, A, ca, h, _⟩ := ha; exact ⟨A, ca, h⟩
  obtain ⟨B, cb, hvb⟩ : ∃ B cb, vb = .slice B b.length cb := by obtain ⟨_, B, cb, h, _⟩ := hb; exact ⟨B, cb, h⟩
  subst hva
  subst hvb
  clear ha hb
  go_enter Try.func24, Try.ntmps24
  go_wp2_with (first | (go_at_call 37; refine HA.out.mono ?_; rintro e w1 ⟨g1, rfl, hm1, hg1, hb1⟩; have HM1 := hid hm1; have HB1 := hid hb1; clear hm1 hb1; clear HA) | (go_at_call 37; refine (HBX.out _ HB1.out).mono ?_; rintro e w2 ⟨g2, rfl, hm2, hg2, hb2⟩; have HM2 := hid hm2; have HB2 := hid hb2; clear hm2 hb2))
  have hg1lt := HM1.out.lt
  have hne : g1 ≠ g2 := by omega
  have hne2 : g2 ≠ g1 := by omega
  have HB0 := hid (below_both HB1.out HB2.out)
  have HM1' := hid (HM1.out.below HB2.out)
  have hg2w : w.heap.size ≤ g2 := by have := HB1.out.size; omega
  clear HM1 HB1 HB2 HBX
  go_loopw [7] (fun i wr => ∃ k : Nat, k ≤ 4096 ∧ i = .int .i64 k ∧ Hid (Mk wr g1 (upd (fun p q => p && !q) (fun x => mem a x) (fun x => mem b x) k)) ∧ Hid (Mk wr g2 (fun x => mem b x)) ∧ Below w.heap.size w wr) (fun i _ => 4096 - (intOf i).toNat)
  case atStart => exact ⟨0, by omega, rfl, hid (HM1'.out.congr (fun i _ => (upd_zero _ _ _ i).symm)), HM2, HB0.out⟩
  case round =>
    obtain ⟨k, hk, rfl, hx, hy, hB⟩ := hrel
    clear HM1' HM2 HB0
    by_cases hlt : k < 4096
    · have x1 := hx.out.cell hlt
      have x2 := hy.out.cell hlt
      have x3 := hx.out.frozen k
      rw [upd_at] at x1
      try dsimp only at x1 x2
      obtain ⟨p, hp⟩ : ∃ p, mem a k = p := ⟨_, rfl⟩
      obtain ⟨q, hq⟩ : ∃ q, mem b k = q := ⟨_, rfl⟩
      rw [hp] at x1
      rw [hq] at x2
      have HPQ : Hid (∀ v, (fun p q => p && !q) p q = v → (fun p q => p && !q) (mem a k) (mem b k) = v) := hid (fun v h => by rw [hp, hq]; exact h)
      clear hp hq
      have hset := fun (v : Bool) => hid (hx.out.set hlt v)
      have HSET := hid hset
      clear hset
      cases p with
      | true =>
        cases q with
        | true =>
          go_wp2
          go_roundw
          case rel => exact ⟨k + 1, by omega, by go_num, hid ((HSET.out _).out.congr (fun i _ => upd_succ _ _ _ _ _ _ (HPQ.out _ rfl))), hid (hy.out.other hne2 _), below_set _ hB hg1⟩
          case measure => simp [intOf]; omega
        | false =>
          go_wp2
          go_roundw
          case rel => exact ⟨k + 1, by omega, by go_num, hid ((HSET.out _).out.congr (fun i _ => upd_succ _ _ _ _ _ _ (HPQ.out _ rfl))), hid (hy.out.other hne2 _), below_set _ hB hg1⟩
          case measure => simp [intOf]; omega
      | false =>
        cases q with
        | true =>
          go_wp2
          go_roundw
          case rel => exact ⟨k + 1, by omega, by go_num, hid ((HSET.out _).out.congr (fun i _ => upd_succ _ _ _ _ _ _ (HPQ.out _ rfl))), hid (hy.out.other hne2 _), below_set _ hB hg1⟩
          case measure => simp [intOf]; omega
        | false =>
          go_wp2
          go_roundw
          case rel => exact ⟨k + 1, by omega, by go_num, hid ((HSET.out _).out.congr (fun i _ => upd_succ _ _ _ _ _ _ (HPQ.out _ rfl))), hid (hy.out.other hne2 _), below_set _ hB hg1⟩
          case measure => simp [intOf]; omega
    · obtain rfl : k = 4096 := by omega
      have HL := hid (list_any g1 4096 4096 _ wr hx.out (Nat.le_refl _) (Nat.le_refl _) (Nat.le_refl _))
      go_wp2_with (go_at_call 36; refine HL.out.mono ?_; rintro e w3 ⟨v, l, rfl, h1, h2, h3, h4⟩)
      refine bodyPost_ret (results_tmp rfl _ _ _) rfl ?_
      exact ⟨v, l, rfl, h1, fun x => (h2 x).trans ((upd_end _ _ _ _ x).trans (both_range (fun p q => p && !q) rfl a b x)), h3, below_both hB h4⟩
end Go.Proofs.Ytkchenhkolpinaa
