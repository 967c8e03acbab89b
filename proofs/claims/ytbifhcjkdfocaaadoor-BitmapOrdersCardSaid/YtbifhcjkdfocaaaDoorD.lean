/- Check, New and their references; Same. -/
import Derived.Test.YtbifhcjkdfocaaaDoorC
import Derived.LoopTactic
import Derived.Deep.QuietTactic
import Derived.BigQuiet
import Derived.RegionTactic
namespace Go.Proofs.YtbifhcjkdfocaaaDoor
open Go.RowKit

theorem wordsFor_any (s : Int) (w : World) (h0 : 0 ≤ s) (h1 : s ≤ 4096) :
    Calls Tryd.prog 39 #[.int .i64 s] w fun e w' => e = .returned (.int .i64 ((s + 63) / 64)) ∧ w' = w := by
  go_enter Tryd.func39, Tryd.ntmps39
  go_wp2
  refine bodyPost_ret (results_tmp rfl _ _ _) rfl ?_
  refine ⟨ret_int ?_, rfl⟩
  omega

theorem below_drewN {B : Nat} {a w : World} (h : Below B a w) (n : Nat) : Below B a (w.drewN n) := ⟨h.os, h.tape, h.output, h.size, h.block⟩
theorem good_used0 {s : Int} {ws : List Nat} (h0 : 0 ≤ s) (h1 : s ≤ 4096) (h2 : (ws.length : Int) = (s + 63) / 64) (h3 : s % 64 = 0) : Good s ws :=
  ⟨h0, h1, h2, fun i hi => bit_out (by omega)⟩
theorem good_used {s : Int} {ws : List Nat} {x : Nat} (h0 : 0 ≤ s) (h1 : s ≤ 4096) (h2 : (ws.length : Int) = (s + 63) / 64) (h3 : 0 < s % 64) (hx : ws[ws.length - 1]? = some x) (hxl : x < 18446744073709551616) : Good s ws ↔ x / 2 ^ (s % 64).toNat = 0 := by
  rw [shr_zero hxl]
  have hb : ∀ i : Nat, s ≤ i → i < 64 * ws.length → bit ws i = x.testBit (i % 64) := by
    intro i h4 h5
    have e : i / 64 = ws.length - 1 := by omega
    unfold bit
    rw [e]
    simp [List.getD, hx]
  constructor
  · intro hg j hj hj2
    have h5 : s ≤ ((64 * (ws.length - 1) + j : Nat) : Int) := by omega
    have := hg.clean _ h5
    rw [hb _ h5 (by omega)] at this
    have e : (64 * (ws.length - 1) + j) % 64 = j := by omega
    rw [e] at this
    exact this
  · intro h
    refine ⟨h0, h1, h2, fun i hi => ?_⟩
    by_cases h5 : i < 64 * ws.length
    · rw [hb i hi h5]
      exact h _ (by omega) (by omega)
    · exact bit_out (by omega)

set_option maxHeartbeats 2000000 in
theorem check_any (s : Int) (ws : List Nat) (v : Value) (w : World) (hv : Bm w v s ws) :
    Calls Tryd.prog 16 #[v] w fun e w' => e = .returned (.int .i64 (chk s ws)) ∧ Below w.heap.size w w' := by
  obtain ⟨hs, hr, A, cap, rfl, hcap, hcm, b, off, hA, hc⟩ := hv
  obtain ⟨hs1, hs2⟩ := hs
  have HC := hid hc
  have HR := hid hr
  clear hc hr
  have hW := fun (W : World) (h0 : 0 ≤ s) (h1 : s ≤ 4096) => wordsFor_any s W h0 h1
  have HW := hid hW
  clear hW
  by_cases h0 : s < 0
  · have hbad := hid (chk_bad (s := s) (ws := ws) (fun h => by have := h.low; omega))
    go_enter Tryd.func16, Tryd.ntmps16
    go_wp2
    go_quiet (fail)
    go_wp2
    go_ret
    exact ⟨ret_int hbad.out.symm, below_drewN ((Below.refl _ _).alloc (Nat.le_refl _) _) _⟩
  · by_cases h1 : s > 4096
    · have hbad := hid (chk_bad (s := s) (ws := ws) (fun h => by have := h.high; omega))
      go_enter Tryd.func16, Tryd.ntmps16
      go_wp2
      go_quiet (fail)
      go_wp2
      go_ret
      exact ⟨ret_int hbad.out.symm, below_drewN ((Below.refl _ _).alloc (Nat.le_refl _) _) _⟩
    · have h0' : 0 ≤ s := by omega
      have h1' : s ≤ 4096 := by omega
      by_cases h2 : (ws.length : Int) = (s + 63) / 64
      · by_cases h3 : 0 < s % 64
        · obtain ⟨hA1, hb⟩ := hA (by omega)
          subst hA1
          obtain ⟨x, hx⟩ : ∃ x, ws[ws.length - 1]? = some x := ⟨ws[ws.length - 1]'(by omega), List.getElem?_eq_getElem (by omega)⟩
          have hxl := HR.out x (List.mem_of_getElem? hx)
          have hgu := hid (good_used h0' h1' h2 h3 hx hxl)
          have hlen1 : 1 ≤ ws.length := by omega
          obtain ⟨L, hL⟩ : ∃ L, ws.length = L + 1 := ⟨ws.length - 1, by omega⟩
          have eL : ws.length - 1 = L := by omega
          rw [eL] at hx
          have hcl := HC.out _ _ hx
          have hd2 : decide (s < 0) = false := by simp; omega
          have hd3 : decide (4096 < s) = false := by simp; omega
          have hneg : ¬ s % 64 < 0 := by omega
          have HX := hid hx
          clear hx
          have hd4 : decide (0 < s % 64) = true := by simp; omega
          have hd5 : ((L : Int) + 1 != (s + 63) / 64) = false := by simp; omega
          have hxn : (x : Int) / 2 ^ (s % 64).toNat = ((x / 2 ^ (s % 64).toNat : Nat) : Int) := by simp
          obtain ⟨q, hq⟩ : ∃ q, x / 2 ^ (s % 64).toNat = q := ⟨_, rfl⟩
          rw [hq] at hgu hxn
          by_cases h4 : q = 0
          · have hgood := hid (chk_good (hgu.out.2 h4))
            have hd6 : ((x : Int) / 2 ^ (s % 64).toNat != 0) = false := by rw [hxn, h4]; rfl
            clear hgu hxn hq
            go_enter Tryd.func16, Tryd.ntmps16
            go_wp2
            go_quiet (first | (go_at_call 39; refine Calls.quiet_of_same (HW.out _ h0' h1')))
            go_wp2
            go_ret
            exact ⟨ret_int hgood.out.symm, below_drewN ((Below.refl _ _).alloc (Nat.le_refl _) _) _⟩
          · have hbad := hid (chk_bad (fun h => h4 (hgu.out.1 h)))
            have hd6 : ((x : Int) / 2 ^ (s % 64).toNat != 0) = true := by rw [hxn]; simp; omega
            clear hgu hxn hq
            go_enter Tryd.func16, Tryd.ntmps16
            go_wp2
            go_quiet (first | (go_at_call 39; refine Calls.quiet_of_same (HW.out _ h0' h1')))
            go_wp2
            go_ret
            exact ⟨ret_int hbad.out.symm, below_drewN ((Below.refl _ _).alloc (Nat.le_refl _) _) _⟩
        · have hgood := hid (chk_good (good_used0 (ws := ws) h0' h1' h2 (by omega)))
          have h3' : s % 64 = 0 := by omega
          have hd2 : decide (s < 0) = false := by simp; omega
          have hd3 : decide (4096 < s) = false := by simp; omega
          have hd4 : decide (0 < s % 64) = false := by simp; omega
          have hd5 : ((ws.length : Int) != (s + 63) / 64) = false := by simp; omega
          go_enter Tryd.func16, Tryd.ntmps16
          go_wp2
          go_quiet (first | (go_at_call 39; refine Calls.quiet_of_same (HW.out _ h0' h1')))
          go_wp2
          go_ret
          exact ⟨ret_int hgood.out.symm, below_drewN ((Below.refl _ _).alloc (Nat.le_refl _) _) _⟩
      · have hbad := hid (chk_bad (s := s) (ws := ws) (fun h => h2 h.len))
        have hd2 : decide (s < 0) = false := by simp; omega
        have hd3 : decide (4096 < s) = false := by simp; omega
        have hd5 : ((ws.length : Int) != (s + 63) / 64) = true := by simp; omega
        go_enter Tryd.func16, Tryd.ntmps16
        go_wp2
        go_quiet (first | (go_at_call 39; refine Calls.quiet_of_same (HW.out _ h0' h1')))
        go_wp2
        go_ret
        exact ⟨ret_int hbad.out.symm, below_drewN ((Below.refl _ _).alloc (Nat.le_refl _) _) _⟩
end Go.Proofs.YtbifhcjkdfocaaaDoor
