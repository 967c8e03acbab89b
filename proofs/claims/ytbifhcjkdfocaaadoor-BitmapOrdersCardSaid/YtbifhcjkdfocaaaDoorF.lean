/- The reference's bit and Check; Get. -/
import Derived.Test.YtbifhcjkdfocaaaDoorE
namespace Go.Proofs.YtbifhcjkdfocaaaDoor
open Go.RowKit

theorem bit_say {ws : List Nat} {k x : Nat} (hx : ws[k / 64]? = some x) : bit ws k = decide (x / 2 ^ (k % 64) % 2 = 1) := by
  unfold bit
  simp [List.getD, hx, Nat.testBit_eq_decide_div_mod_eq]

theorem word1 (x k : Nat) (hx : x < 18446744073709551616) : (bits .and .u64 ((x : Int) / 2 ^ k) 1 == 1) = decide (x / 2 ^ k % 2 = 1) := by
  have e : (x : Int) / 2 ^ k = ((x / 2 ^ k : Nat) : Int) := by simp
  have hl : x / 2 ^ k < 18446744073709551616 := Nat.lt_of_le_of_lt (Nat.div_le_self _ _) hx
  rw [e, show (1 : Int) = ((1 : Nat) : Int) from rfl, u64_and_nat _ _ hl (by decide), Nat.and_one_is_mod]
  rcases Nat.mod_two_eq_zero_or_one (x / 2 ^ k) with h | h <;> rw [h] <;> rfl

set_option maxHeartbeats 2000000 in
theorem bit_any (s : Int) (ws : List Nat) (v : Value) (k : Nat) (w : World) (hv : Bm w v s ws) (hk : k < 64 * ws.length) (hk2 : k < 1000000) :
    Calls Tryd.prog 40 #[v, .int .i64 k] w fun e w' => e = .returned (.bool (bit ws k)) ∧ Below w.heap.size w w' := by
  obtain ⟨hs, hr, A, cap, rfl, hcap, hcm, b, off, hA, hc⟩ := hv
  obtain ⟨hA1, hb⟩ := hA (by omega)
  subst hA1
  obtain ⟨x, hx⟩ : ∃ x, ws[k / 64]? = some x := ⟨ws[k / 64]'(by omega), List.getElem?_eq_getElem (by omega)⟩
  have hxl := hr x (List.mem_of_getElem? hx)
  have hcl := hc _ _ hx
  have HX := hid hx
  have hq : k / 64 < ws.length := by omega
  have ht : Int.tdiv (k : Int) 64 = ((k / 64 : Nat) : Int) := by rw [Int.tdiv_eq_ediv_of_nonneg (by omega)]; omega
  have hm : Int.tmod (k : Int) 64 = ((k % 64 : Nat) : Int) := by rw [Int.tmod_eq_emod_of_nonneg (by omega)]; omega
  clear hc hr hx
  go_enter Tryd.func40, Tryd.ntmps40
  go_wp2
  refine bodyPost_ret (results_tmp rfl _ _ _) rfl ?_
  exact ⟨ret_bool ((word1 x (k % 64) hxl).trans (bit_say HX.out).symm), (Below.refl _ _).alloc (Nat.le_refl _) _⟩

theorem badsum_len {s : Int} {ws : List Nat} (h : ¬ (ws.length : Int) = (s + 63) / 64) : ¬ Good s ws := fun hg => h hg.len

set_option maxHeartbeats 4000000 in
theorem refCheck_any (s : Int) (ws : List Nat) (v : Value) (w : World) (hv : Bm w v s ws) :
    Calls Tryd.prog 17 #[v] w fun e w' => e = .returned (.int .i64 (chk s ws)) ∧ Below w.heap.size w w' := by
  have HBIT := hid (fun (k : Nat) (w1 : World) (hb : Below w.heap.size w w1) (hk : k < 64 * ws.length) (hk2 : k < 1000000) => bit_any s ws v k w1 (hv.below hb) hk hk2)
  obtain ⟨hs, hr, A, cap, rfl, hcap, hcm, b, off, hA, hc⟩ := hv
  obtain ⟨hs1, hs2⟩ := hs
  clear hc hr hA
  by_cases h0 : s < 0
  · have hbad := hid (chk_bad (s := s) (ws := ws) (fun h => by have := h.low; omega))
    go_enter Tryd.func17, Tryd.ntmps17
    go_wp2
    refine bodyPost_ret (results_tmp rfl _ _ _) rfl ?_
    exact ⟨ret_int hbad.out.symm, (Below.refl _ _).alloc (Nat.le_refl _) _⟩
  · by_cases h1 : s > 4096
    · have hbad := hid (chk_bad (s := s) (ws := ws) (fun h => by have := h.high; omega))
      go_enter Tryd.func17, Tryd.ntmps17
      go_wp2
      refine bodyPost_ret (results_tmp rfl _ _ _) rfl ?_
      exact ⟨ret_int hbad.out.symm, (Below.refl _ _).alloc (Nat.le_refl _) _⟩
    · have h0' : 0 ≤ s := by omega
      have h1' : s ≤ 4096 := by omega
      by_cases h2 : (ws.length : Int) = (s + 63) / 64
      · have hln : ws.length ≤ 64 := by omega
        obtain ⟨f, rfl⟩ := Int.eq_ofNat_of_zero_le h0'
        have HG := hid (show (∀ i : Nat, (f : Int) ≤ i → i < 64 * ws.length → bit ws i = false) → Good (f : Int) ws from fun h => ⟨h0', h1', h2, fun i hi => by
          by_cases h5 : i < 64 * ws.length
          · exact h i hi h5
          · exact bit_out (by omega)⟩)
        go_enter Tryd.func17, Tryd.ntmps17
        go_wp2
        go_loopw [2, 3] (fun r i wr => ∃ k : Nat, f ≤ k ∧ ((k : Int) ≤ f ∨ k ≤ 64 * ws.length) ∧ i = .int .i64 k ∧ r = .int .i64 0 ∧ (∀ j : Nat, (f : Int) ≤ j → j < k → bit ws j = false) ∧ Below (w.alloc (.cells #[.int .i64 f, .slice A ws.length cap] 24)).heap.size (w.alloc (.cells #[.int .i64 f, .slice A ws.length cap] 24)) wr) (fun _ i _ => 64 * ws.length - (intOf i).toNat)
        case atStart => exact ⟨f, Nat.le_refl _, .inl (Int.le_refl _), rfl, rfl, fun j h1 h2 => by omega, Below.refl _ _⟩
        case round =>
          obtain ⟨k, hfk, hkl, rfl, rfl, hz, hB⟩ := hrel
          have x0 := box_cell hB 0
          have x1 := box_cell hB 1
          have hB1 := hid (below_more hB (Nat.le_refl _))
          have hBs := hB.size
          have HBB := hid hB
          clear hB
          by_cases hlt : k < 64 * ws.length
          · have hlt' : (k : Int) < 64 * ws.length := by omega
            cases hbk : bit ws k with
            | true =>
              have hbad := hid (chk_bad (s := (f : Int)) (ws := ws) (fun h => by have := h.clean k (by omega); rw [hbk] at this; cases this))
              go_wp2_with (go_at_call 40; refine (HBIT.out k _ hB1.out hlt (by omega)).mono ?_; rintro e w2 ⟨rfl, hb2⟩; have hbk2 := hbk)
              go_ret
              exact ⟨ret_int hbad.out.symm, below_both hB1.out hb2⟩
            | false =>
              go_wp2_with (go_at_call 40; refine (HBIT.out k _ hB1.out hlt (by omega)).mono ?_; rintro e w2 ⟨rfl, hb2⟩; have hbk2 := hbk)
              go_roundw
              case rel => exact ⟨k + 1, by omega, .inr (by omega), by go_num, rfl, fun j h1 h2 => by
                by_cases e : j = k
                · rw [e]; exact hbk
                · exact hz j h1 (by omega), below_both HBB.out hb2⟩
              case measure => simp [intOf]; omega
          · have hlt' : ¬ (k : Int) < 64 * ws.length := by omega
            have hgood := hid (chk_good (HG.out fun i h1 h2 => hz i h1 (by omega)))
            go_wp2
            refine bodyPost_ret (results_tmp rfl _ _ _) rfl ?_
            exact ⟨ret_int hgood.out.symm, hB1.out⟩
      · have hbad := hid (chk_bad (badsum_len h2))
        have hd5 : ((ws.length : Int) != (s + 63) / 64) = true := by simp; omega
        go_enter Tryd.func17, Tryd.ntmps17
        go_wp2
        refine bodyPost_ret (results_tmp rfl _ _ _) rfl ?_
        exact ⟨ret_int hbad.out.symm, (Below.refl _ _).alloc (Nat.le_refl _) _⟩
end Go.Proofs.YtbifhcjkdfocaaaDoor
