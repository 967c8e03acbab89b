/- The elements of a set as a list; the reference's Next. -/
import Derived.Test.YtbifhcjkdfocaaaDoorH
namespace Go.Proofs.YtbifhcjkdfocaaaDoor
open Go.RowKit

/-- The numbers from lo on, n of them at most, that satisfy p. -/
def elsL (p : Nat → Bool) (lo n : Nat) : List Nat := (List.range' lo n).filter p
theorem elsL_zero (p : Nat → Bool) (lo : Nat) : elsL p lo 0 = [] := rfl
theorem elsL_add (p : Nat → Bool) (lo a b : Nat) : elsL p lo (a + b) = elsL p lo a ++ elsL p (lo + a) b := by
  unfold elsL
  rw [← List.filter_append]
  congr 1
  have := List.range'_append (s := lo) (m := a) (n := b) (step := 1)
  rw [Nat.one_mul] at this
  exact this.symm
theorem elsL_none {p : Nat → Bool} {lo n : Nat} (h : ∀ j, lo ≤ j → j < lo + n → p j = false) : elsL p lo n = [] := by
  unfold elsL
  rw [List.filter_eq_nil_iff]
  intro a ha
  obtain ⟨h1, h2⟩ := List.mem_range'_1.1 ha
  rw [h a h1 h2]
  decide
theorem elsL_one {p : Nat → Bool} {k : Nat} (h : p k = true) : elsL p k 1 = [k] := by
  simp [elsL, List.range', h]
theorem elsL_congr {p q : Nat → Bool} {lo n : Nat} (h : ∀ j, lo ≤ j → j < lo + n → p j = q j) : elsL p lo n = elsL q lo n := by
  unfold elsL
  apply List.filter_congr
  intro a ha
  obtain ⟨h1, h2⟩ := List.mem_range'_1.1 ha
  exact h a h1 h2
/-- The least element. -/
theorem elsL_first {p : Nat → Bool} {lo n k : Nat} (h1 : lo ≤ k) (h2 : k < lo + n) (hb : ∀ j, lo ≤ j → j < k → p j = false) (hk : p k = true) : elsL p lo n = k :: elsL p (k + 1) (lo + n - k - 1) := by
  have e : n = (k - lo) + (1 + (lo + n - k - 1)) := by omega
  conv => lhs; rw [e]
  rw [elsL_add, elsL_add, elsL_none (n := k - lo) (fun j a b => hb j a (by omega))]
  have e2 : lo + (k - lo) = k := by omega
  rw [e2, elsL_one hk]
  rfl

/-- The least of a list of elements, -1 if there is none. -/
def hd1 : List Nat → Int
  | [] => -1
  | x :: _ => x
noncomputable def nextB (s : Int) (ws : List Nat) (k : Int) : Int := if chk s ws = 0 then hd1 (elsL (bit ws) (max k 0).toNat (s.toNat - (max k 0).toNat)) else -1
theorem nextB_bad {s : Int} {ws : List Nat} {k : Int} (h : ¬ chk s ws = 0) : nextB s ws k = -1 := by unfold nextB; rw [if_neg h]
theorem nextB_good {s m : Nat} {ws : List Nat} {k : Int} (h : chk s ws = 0) (hm : max k 0 = (m : Int)) : nextB s ws k = hd1 (elsL (bit ws) m (s - m)) := by
  unfold nextB; rw [if_pos h, hm, Int.toNat_natCast, Int.toNat_natCast]

set_option maxHeartbeats 4000000 in
theorem refNext_any (s : Int) (ws : List Nat) (v : Value) (q : Int) (w : World) (hv : Bm w v s ws) (hq : R64 q) :
    Calls Tryd.prog 23 #[v, .int .i64 q] w fun e w' => e = .returned (.int .i64 (nextB s ws q)) ∧ Below w.heap.size w w' := by
  have HCHK := hid (fun (w1 : World) (hb : Below w.heap.size w w1) => refCheck_any s ws v w1 (hv.below hb))
  have HBIT := hid (fun (k : Nat) (w1 : World) (hb : Below w.heap.size w w1) (hk : k < 64 * ws.length) (hk2 : k < 1000000) => bit_any s ws v k w1 (hv.below hb) hk hk2)
  have hB0 : ∀ o, Below w.heap.size w (w.alloc o) := fun o => (Below.refl _ w).alloc (Nat.le_refl _) o
  obtain ⟨hs, hr, A, cap, rfl, hcap, hcm, b, off, hA, hc⟩ := hv
  have HB0 := hid hB0
  clear hc hr hB0 hA
  obtain ⟨hq1, hq2⟩ := hq
  by_cases hg : chk s ws = 0
  · have good := chk_zero hg
    have hlow := good.low
    have hhigh := good.high
    have hlen := good.len
    obtain ⟨f, rfl⟩ := Int.eq_ofNat_of_zero_le hlow
    by_cases hq0 : 0 ≤ q
    · obtain ⟨m, rfl⟩ := Int.eq_ofNat_of_zero_le hq0
      have hm : max (m : Int) 0 = m := by omega
      have HN := hid (nextB_good hg hm)
      have hm2 : m ≤ 9223372036854775807 := by omega
      rw [hg] at HCHK
      clear good hg
      go_enter Tryd.func23, Tryd.ntmps23
      go_wp2_with (go_at_call 17; refine (HCHK.out _ (HB0.out _)).mono ?_; rintro e w1 ⟨rfl, hb1⟩)
      clear HCHK HB0
      go_loopw [4, 5] (fun r i wr => ∃ (k : Nat), m ≤ k ∧ (k ≤ m ∨ k ≤ f) ∧ i = .int .i64 k ∧ r = .int .i64 0 ∧ (∀ j, m ≤ j → j < k → bit ws j = false) ∧ Below (w.alloc (.cells #[.int .i64 f, .slice A ws.length cap] 24)).heap.size (w.alloc (.cells #[.int .i64 f, .slice A ws.length cap] 24)) wr) (fun _ i _ => f - (intOf i).toNat)
      case atStart => exact ⟨m, Nat.le_refl _, .inl (Nat.le_refl _), by first | rfl | (rw [← hm]), rfl, fun j h1 h2 => by omega, hb1⟩
      case round =>
        obtain ⟨k, hmk, hkf, rfl, rfl, hz, hB⟩ := hrel
        have x0 := box_cell hB 0
        have x1 := box_cell hB 1
        have hB1 := hid (below_more hB (Nat.le_refl _))
        have HBB := hid hB
        clear hB hb1
        have HZ := hid hz
        clear hz
        by_cases hlt : k < f
        · cases hbk : bit ws k with
          | true =>
            have HE := hid (show nextB f ws m = k by rw [HN.out, elsL_first hmk (by omega) HZ.out hbk]; rfl)
            go_wp2_with (go_at_call 40; refine (HBIT.out k _ hB1.out (by omega) (by omega)).mono ?_; rintro e w2 ⟨rfl, hb2⟩; have hbk2 := hbk)
            refine bodyPost_ret (results_tmp rfl _ _ _) rfl ?_
            exact ⟨ret_int HE.out.symm, below_both hB1.out hb2⟩
          | false =>
            go_wp2_with (go_at_call 40; refine (HBIT.out k _ hB1.out (by omega) (by omega)).mono ?_; rintro e w2 ⟨rfl, hb2⟩; have hbk2 := hbk)
            go_roundw
            case rel => exact ⟨k + 1, by omega, by omega, by go_num, rfl, fun j h1 h2 => by
              by_cases e : j = k
              · rw [e]; exact hbk
              · exact HZ.out j h1 (by omega), below_both HBB.out hb2⟩
            case measure => simp [intOf]; omega
        · have HE := hid (show nextB f ws m = -1 by rw [HN.out, elsL_none (fun j h1 h2 => HZ.out j h1 (by omega))]; rfl)
          go_wp2
          refine bodyPost_ret (results_tmp rfl _ _ _) rfl ?_
          exact ⟨ret_int HE.out.symm, hB1.out⟩
    · obtain ⟨m, hm0⟩ : ∃ m : Nat, m = 0 := ⟨0, rfl⟩
      have hm : max q 0 = (m : Int) := by omega
      have HN := hid (nextB_good hg hm)
      have hm2 : m ≤ 9223372036854775807 := by omega
      rw [hg] at HCHK
      clear good hg
      go_enter Tryd.func23, Tryd.ntmps23
      go_wp2_with (go_at_call 17; refine (HCHK.out _ (HB0.out _)).mono ?_; rintro e w1 ⟨rfl, hb1⟩)
      clear HCHK HB0
      go_loopw [4, 5] (fun r i wr => ∃ (k : Nat), m ≤ k ∧ (k ≤ m ∨ k ≤ f) ∧ i = .int .i64 k ∧ r = .int .i64 0 ∧ (∀ j, m ≤ j → j < k → bit ws j = false) ∧ Below (w.alloc (.cells #[.int .i64 f, .slice A ws.length cap] 24)).heap.size (w.alloc (.cells #[.int .i64 f, .slice A ws.length cap] 24)) wr) (fun _ i _ => f - (intOf i).toNat)
      case atStart => exact ⟨m, Nat.le_refl _, .inl (Nat.le_refl _), by rw [hm0]; rfl, rfl, fun j h1 h2 => by omega, hb1⟩
      case round =>
        obtain ⟨k, hmk, hkf, rfl, rfl, hz, hB⟩ := hrel
        have x0 := box_cell hB 0
        have x1 := box_cell hB 1
        have hB1 := hid (below_more hB (Nat.le_refl _))
        have HBB := hid hB
        clear hB hb1
        have HZ := hid hz
        clear hz
        by_cases hlt : k < f
        · cases hbk : bit ws k with
          | true =>
            have HE := hid (show nextB f ws q = k by rw [HN.out, elsL_first hmk (by omega) HZ.out hbk]; rfl)
            go_wp2_with (go_at_call 40; refine (HBIT.out k _ hB1.out (by omega) (by omega)).mono ?_; rintro e w2 ⟨rfl, hb2⟩; have hbk2 := hbk)
            refine bodyPost_ret (results_tmp rfl _ _ _) rfl ?_
            exact ⟨ret_int HE.out.symm, below_both hB1.out hb2⟩
          | false =>
            go_wp2_with (go_at_call 40; refine (HBIT.out k _ hB1.out (by omega) (by omega)).mono ?_; rintro e w2 ⟨rfl, hb2⟩; have hbk2 := hbk)
            go_roundw
            case rel => exact ⟨k + 1, by omega, by omega, by go_num, rfl, fun j h1 h2 => by
              by_cases e : j = k
              · rw [e]; exact hbk
              · exact HZ.out j h1 (by omega), below_both HBB.out hb2⟩
            case measure => simp [intOf]; omega
        · have HE := hid (show nextB f ws q = -1 by rw [HN.out, elsL_none (fun j h1 h2 => HZ.out j h1 (by omega))]; rfl)
          go_wp2
          refine bodyPost_ret (results_tmp rfl _ _ _) rfl ?_
          exact ⟨ret_int HE.out.symm, hB1.out⟩
  · have h3 : chk s ws = 3 := by rcases chk_cases s ws with h | h <;> omega
    have hq := hid (nextB_bad (k := q) hg)
    rw [h3] at HCHK
    go_enter Tryd.func23, Tryd.ntmps23
    go_wp2_with (go_at_call 17; refine (HCHK.out _ (HB0.out _)).mono ?_; rintro e w1 ⟨rfl, hb1⟩)
    refine bodyPost_ret (results_tmp rfl _ _ _) rfl ?_
    exact ⟨ret_int hq.out.symm, below_more hb1 (Nat.le_refl _)⟩
end Go.Proofs.YtbifhcjkdfocaaaDoor
