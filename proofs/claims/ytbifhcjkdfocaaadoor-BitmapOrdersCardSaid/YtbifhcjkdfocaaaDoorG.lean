/- Get and Count, the package's and the reference's. -/
import Derived.Test.YtbifhcjkdfocaaaDoorF
namespace Go.Proofs.YtbifhcjkdfocaaaDoor
open Go.RowKit

noncomputable def getB (s : Int) (ws : List Nat) (k : Int) : Bool := if chk s ws = 0 ∧ 0 ≤ k ∧ k < s then bit ws k.toNat else false
theorem getB_yes {s : Int} {ws : List Nat} {k : Nat} (h : chk s ws = 0) (hk : (k : Int) < s) : getB s ws k = bit ws k := by
  unfold getB; rw [if_pos ⟨h, by omega, hk⟩, Int.toNat_natCast]
theorem getB_no {s : Int} {ws : List Nat} {k : Int} (h : ¬ (chk s ws = 0 ∧ 0 ≤ k ∧ k < s)) : getB s ws k = false := by
  unfold getB; rw [if_neg h]

set_option maxHeartbeats 4000000 in
theorem get_any (s : Int) (ws : List Nat) (v : Value) (k : Int) (w : World) (hv : Bm w v s ws) (hk : R64 k) :
    Calls Tryd.prog 18 #[v, .int .i64 k] w fun e w' => e = .returned (.bool (getB s ws k)) ∧ Below w.heap.size w w' := by
  have HCHK := hid (fun (w1 : World) (hb : Below w.heap.size w w1) => check_any s ws v w1 (hv.below hb))
  have hB0 : ∀ o, Below w.heap.size w (w.alloc o) := fun o => (Below.refl _ w).alloc (Nat.le_refl _) o
  obtain ⟨hs, hr, A, cap, rfl, hcap, hcm, b, off, hA, hc⟩ := hv
  have HC := hid hc
  have HR := hid hr
  have HB0 := hid hB0
  clear hc hr hB0
  by_cases hg : chk s ws = 0
  · have good := chk_zero hg
    have hlow := good.low
    have hhigh := good.high
    have hlen := good.len
    rw [hg] at HCHK
    by_cases h0 : k < 0
    · have hq := hid (getB_no (s := s) (ws := ws) (k := k) (fun h => by omega))
      go_enter Tryd.func18, Tryd.ntmps18
      go_wp2_with (go_at_call 16; refine (HCHK.out _ (HB0.out _)).mono ?_; rintro e w1 ⟨rfl, hb1⟩; have y0 := box_cell hb1 0; have y1 := box_cell hb1 1)
      refine bodyPost_ret (results_tmp rfl _ _ _) rfl ?_
      exact ⟨ret_bool hq.out.symm, below_more hb1 (Nat.le_refl _)⟩
    · by_cases h1 : k ≥ s
      · have hq := hid (getB_no (s := s) (ws := ws) (k := k) (fun h => by omega))
        go_enter Tryd.func18, Tryd.ntmps18
        go_wp2_with (go_at_call 16; refine (HCHK.out _ (HB0.out _)).mono ?_; rintro e w1 ⟨rfl, hb1⟩; have y0 := box_cell hb1 0; have y1 := box_cell hb1 1)
        refine bodyPost_ret (results_tmp rfl _ _ _) rfl ?_
        exact ⟨ret_bool hq.out.symm, below_more hb1 (Nat.le_refl _)⟩
      · obtain ⟨n, rfl⟩ := Int.eq_ofNat_of_zero_le (show 0 ≤ k by omega)
        obtain ⟨hA1, hb⟩ := hA (by omega)
        subst hA1
        obtain ⟨x, hx⟩ : ∃ x, ws[n / 64]? = some x := ⟨ws[n / 64]'(by omega), List.getElem?_eq_getElem (by omega)⟩
        have hxl := HR.out x (List.mem_of_getElem? hx)
        have hcl := HC.out _ _ hx
        have hq := hid ((getB_yes hg (by omega)).trans (bit_say hx))
        have hlt : n / 64 < ws.length := by omega
        have HW := hid (word1 x (n % 64) hxl)
        clear hx
        go_enter Tryd.func18, Tryd.ntmps18
        go_wp2_with (go_at_call 16; refine (HCHK.out _ (HB0.out _)).mono ?_; rintro e w1 ⟨rfl, hb1⟩; have y0 := box_cell hb1 0; have y1 := box_cell hb1 1; have y2 := ((below_more hb1 (Nat.le_refl _)).cell (p := ⟨b, off + n / 64, none⟩) hb).trans hcl)
        refine bodyPost_ret (results_tmp rfl _ _ _) rfl ?_
        exact ⟨ret_bool (HW.out.trans hq.out.symm), below_more hb1 (Nat.le_refl _)⟩
  · have h3 : chk s ws = 3 := by rcases chk_cases s ws with h | h <;> omega
    have hq := hid (getB_no (s := s) (ws := ws) (k := k) (fun h => hg h.1))
    rw [h3] at HCHK
    go_enter Tryd.func18, Tryd.ntmps18
    go_wp2_with (go_at_call 16; refine (HCHK.out _ (HB0.out _)).mono ?_; rintro e w1 ⟨rfl, hb1⟩; have y0 := box_cell hb1 0; have y1 := box_cell hb1 1)
    refine bodyPost_ret (results_tmp rfl _ _ _) rfl ?_
    exact ⟨ret_bool hq.out.symm, below_more hb1 (Nat.le_refl _)⟩

set_option maxHeartbeats 4000000 in
theorem refGet_any (s : Int) (ws : List Nat) (v : Value) (k : Int) (w : World) (hv : Bm w v s ws) (hk : R64 k) :
    Calls Tryd.prog 19 #[v, .int .i64 k] w fun e w' => e = .returned (.bool (getB s ws k)) ∧ Below w.heap.size w w' := by
  have HCHK := hid (fun (w1 : World) (hb : Below w.heap.size w w1) => refCheck_any s ws v w1 (hv.below hb))
  have HBIT := hid (fun (k : Nat) (w1 : World) (hb : Below w.heap.size w w1) (hk : k < 64 * ws.length) (hk2 : k < 1000000) => bit_any s ws v k w1 (hv.below hb) hk hk2)
  have hB0 : ∀ o, Below w.heap.size w (w.alloc o) := fun o => (Below.refl _ w).alloc (Nat.le_refl _) o
  obtain ⟨hs, hr, A, cap, rfl, hcap, hcm, b, off, hA, hc⟩ := hv
  have HB0 := hid hB0
  clear hc hr hB0
  by_cases hg : chk s ws = 0
  · have good := chk_zero hg
    have hlow := good.low
    have hhigh := good.high
    have hlen := good.len
    rw [hg] at HCHK
    by_cases h0 : k ≥ 0
    · by_cases h1 : k < s
      · obtain ⟨n, rfl⟩ := Int.eq_ofNat_of_zero_le (show 0 ≤ k by omega)
        have hq := hid (getB_yes (k := n) hg (by omega))
        go_enter Tryd.func19, Tryd.ntmps19
        go_wp2_with (first | (go_at_call 17; refine (HCHK.out _ (HB0.out _)).mono ?_; rintro e w1 ⟨rfl, hb1⟩; have y0 := box_cell hb1 0; have y1 := box_cell hb1 1) | (go_at_call 40; refine (HBIT.out n _ (below_more hb1 (Nat.le_refl _)) (by omega) (by omega)).mono ?_; rintro e w2 ⟨rfl, hb2⟩))
        refine bodyPost_ret (results_tmp rfl _ _ _) rfl ?_
        exact ⟨ret_bool hq.out.symm, below_both (below_more hb1 (Nat.le_refl _)) hb2⟩
      · have hq := hid (getB_no (s := s) (ws := ws) (k := k) (fun h => by omega))
        go_enter Tryd.func19, Tryd.ntmps19
        go_wp2_with (go_at_call 17; refine (HCHK.out _ (HB0.out _)).mono ?_; rintro e w1 ⟨rfl, hb1⟩; have y0 := box_cell hb1 0; have y1 := box_cell hb1 1)
        refine bodyPost_ret (results_tmp rfl _ _ _) rfl ?_
        exact ⟨ret_bool hq.out.symm, below_more hb1 (Nat.le_refl _)⟩
    · have hq := hid (getB_no (s := s) (ws := ws) (k := k) (fun h => by omega))
      go_enter Tryd.func19, Tryd.ntmps19
      go_wp2_with (go_at_call 17; refine (HCHK.out _ (HB0.out _)).mono ?_; rintro e w1 ⟨rfl, hb1⟩; have y0 := box_cell hb1 0; have y1 := box_cell hb1 1)
      refine bodyPost_ret (results_tmp rfl _ _ _) rfl ?_
      exact ⟨ret_bool hq.out.symm, below_more hb1 (Nat.le_refl _)⟩
  · have h3 : chk s ws = 3 := by rcases chk_cases s ws with h | h <;> omega
    have hq := hid (getB_no (s := s) (ws := ws) (k := k) (fun h => hg h.1))
    rw [h3] at HCHK
    go_enter Tryd.func19, Tryd.ntmps19
    go_wp2_with (go_at_call 17; refine (HCHK.out _ (HB0.out _)).mono ?_; rintro e w1 ⟨rfl, hb1⟩; have y0 := box_cell hb1 0; have y1 := box_cell hb1 1)
    refine bodyPost_ret (results_tmp rfl _ _ _) rfl ?_
    exact ⟨ret_bool hq.out.symm, below_more hb1 (Nat.le_refl _)⟩
end Go.Proofs.YtbifhcjkdfocaaaDoor
