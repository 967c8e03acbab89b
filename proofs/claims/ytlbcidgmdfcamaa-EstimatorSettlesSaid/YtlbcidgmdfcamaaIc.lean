/- The law EstimatorSettles walked. -/
import Derived.Test.YtlbcidgmdfcamaaI0
import Derived.Test.YtlbcidgmdfcamaaN
namespace Go.Proofs.Ytlbcidgmdfcamaa
open Go.RowKit Go.Lib
set_option maxHeartbeats 8000000 in
set_option maxRecDepth 100000 in
theorem settles_walk (t : Int) (w : World) (ht : 0 ≤ t ∧ t ≤ 65535) : Calls Try.prog 7 #[.int .u16 t] w (TrueQ w) := by
  obtain ⟨h0, h1⟩ := ht
  have HLAST := hid (fun (h : t ≤ 10000) => itE_last h0 h)
  have HLESS := hid (fun k (hk : k < 100) => itE_less h0 h1 (k := k) hk)
  have HMEAN := hid (fun k (hk : k < 100) => itE_mean h0 h1 (k := k) hk)
  have HSMP := hid (fun k (hk : k < 100) => itE_smp h0 h1 (k := k) hk)
  have HLB : Hid (∀ k, k < 100 → -9223372036854775808 ≤ lastL t k ∧ lastL t k ≤ 9223372036854775807) := hid (fun k hk => by
    rcases k with _ | k
    · exact ⟨show (-9223372036854775808 : Int) ≤ 1099511627776 by decide, show (1099511627776 : Int) ≤ 9223372036854775807 by decide⟩
    · have h2 := itE_tmo h0 h1 (k := k) (by omega)
      have h3 := dec_bd (v := 2 * t) (by omega) k
      have h4 : lastL t (k + 1) = tmo (itE t (k + 1)) := rfl
      omega)
  have hwt : wrap64 t = t := w64 (by omega) (by omega)
  obtain ⟨g0, hg0⟩ : ∃ g, w.heap.size = g := ⟨_, rfl⟩
  have HG0 := hid hg0
  clear hg0
  go_enter Try.func7, Try.ntmps7
  go_upto_region 3 with (go_at_call 15; (with_reducible refine (aw0 _).mono ?_); rintro _ w1 ⟨rfl, hb⟩; have HB1 := hid hb; clear hb)
  obtain ⟨g, hg⟩ : ∃ h, w1.heap.size = h := ⟨_, rfl⟩
  obtain ⟨W2, hW2⟩ : ∃ X, w1.alloc (.cells (cE z4) 23) = X := ⟨_, rfl⟩
  have K0 : Hid (W2.heap[g]? = some (.cells (cE z4) 23)) := hid (by rw [← hW2, ← hg]; exact heap_alloc_new _ _)
  have HGG : Hid (g0 ≤ g) := hid (by rw [← hg, ← HG0.out]; exact HB1.out.size)
  have HB2 : Hid (Below g0 w W2) := hid (by rw [← hW2, ← HG0.out]; exact HB1.out.alloc HB1.out.size _)
  have HG := hid hg
  have HW2 := hid hW2
  simp only [cE, z4] at HW2
  clear hg hW2
  rw [HG.out, HW2.out]
  go_upto_region 5 with fail
  go_loopw [5, 6] (fun lv iv wr => ∃ (k : Nat) (L : Int), k ≤ 100 ∧ iv = .int .i64 (k : Int) ∧ lv = .int .i64 L ∧ Hid (L = lastL t k) ∧ Hid (wr.heap[g]? = some (.cells (cE (itE t k)) 23)) ∧ Hid (Below g0 w wr)) (fun _ iv _ => 100 - (RowKit.intOf iv).toNat)
  case atStart => exact ⟨0, _, by omega, rfl, rfl, hid rfl, K0, HB2⟩
  case round =>
    obtain ⟨k, L, hk, rfl, rfl, HL, HK, HB⟩ := hrel
    by_cases hlt : k < 100
    · have hlt' : decide ((k : Int) < 100) = true := decide_eq_true (by omega)
      obtain ⟨⟨n, s, v, b⟩, hE⟩ : ∃ E, itE t k = E := ⟨_, rfl⟩
      have hsm := HSMP.out k hlt
      have hme := HMEAN.out k hlt
      have hle := HLESS.out k hlt
      obtain ⟨⟨n', s', v', b'⟩, hE'⟩ : ∃ E, itE t (k + 1) = E := ⟨_, rfl⟩
      rw [hE, hE'] at hsm
      rw [hE'] at hme hle
      obtain ⟨T, hT⟩ : ∃ T, tmo ⟨n', s', v', b'⟩ = T := ⟨_, rfl⟩
      rw [hT, ← HL.out] at hle
      have hTL : decide (L < T) = false := decide_eq_false (by omega)
      have HS := hid (fun W => sample_n hsm W)
      have HM := hid (fun W => mean_any ⟨n', s', v', b'⟩ W)
      have HTM := hid (fun W => timeout_any ⟨n', s', v', b'⟩ W)
      rw [hme] at HM
      rw [hT] at HTM
      have hk1 := HK.out
      rw [hE] at hk1
      have K1 := hid hk1
      obtain ⟨x0, x1, x2, x3⟩ := load4 hk1
      have HN := hid hE'
      have HTQ : Hid (lastL t (k + 1) = T) := hid (by rw [← hT, ← hE']; rfl)
      simp only [ev] at HS HM HTM
      simp only at x0 x1 x2 x3
      clear hsm hme hle hE hE' hk1 hT
      go_upto_region 8 with (go_at_call 10; (with_reducible refine (HS.out _).mono ?_); rintro _ w3 ⟨rfl, hb⟩; have HB3 := hid (HB.out.trans (hb.mono (Nat.le_trans HGG.out (Nat.le_of_lt (box_lt K1.out))))); have hk3 := (hb.block _ (box_lt K1.out)).trans K1.out; have K3 := hid hk3; clear hb hk3)
      obtain ⟨h, hh⟩ : ∃ h, w3.heap.size = h := ⟨_, rfl⟩
      obtain ⟨W3, hW3⟩ : ∃ X, w3.alloc (.cells (cE ⟨n', s', v', b'⟩) 23) = X := ⟨_, rfl⟩
      have k4 : W3.heap[h]? = some (.cells (cE ⟨n', s', v', b'⟩) 23) := by rw [← hW3, ← hh]; exact heap_alloc_new _ _
      have k5 : W3.heap[g]? = some (.cells (cE ⟨n, s, v, b⟩) 23) := by rw [← hW3]; exact old_alloc K3.out _
      have HB4 : Hid (Below g0 w W3) := hid (by rw [← hW3]; exact HB3.out.alloc (Nat.le_trans HGG.out (Nat.le_of_lt (box_lt K3.out))) _)
      have K5 := hid k5
      have HH := hid hh
      have HW3 := hid hW3
      obtain ⟨y0, y1, y2, y3⟩ := load4 k4
      obtain ⟨z0, z1, z2, z3⟩ := load4 k5
      have fr := box_fr k5
      simp only [cE] at HW3
      simp only at y0 y1 y2 y3 z0 z1 z2 z3
      clear k4 k5 hh hW3 x0 x1 x2 x3
      rw [HH.out, HW3.out]
      go_upto_region 9 with fail
      obtain ⟨W4, hW4⟩ : ∃ X, set4 W3 g ⟨n', s', v', b'⟩ = X := ⟨_, rfl⟩
      have k6 : W4.heap[g]? = some (.cells (cE ⟨n', s', v', b'⟩) 23) := by rw [← hW4]; exact set4h ⟨n', s', v', b'⟩ K5.out
      have HB5 : Hid (Below g0 w W4) := hid (by rw [← hW4]; exact set4b ⟨n', s', v', b'⟩ HB4.out HGG.out)
      have K6 := hid k6
      obtain ⟨p0, p1, p2, p3⟩ := load4 k6
      simp only at p0 p1 p2 p3
      have HW4 := hid hW4
      simp only [set4] at HW4
      clear k6 hW4 y0 y1 y2 y3 z0 z1 z2 z3 fr
      rw [HW4.out]
      go_wp2_with (first | (go_at_call 19; (with_reducible refine (HM.out _).mono ?_); rintro _ w7 ⟨rfl, hb⟩; have hk7 := (hb.block _ (box_lt K6.out)).trans K6.out; have HB5 := hid (HB5.out.trans (hb.mono (Nat.le_trans HGG.out (Nat.le_of_lt (box_lt K6.out))))); have K6 := hid hk7; obtain ⟨p0, p1, p2, p3⟩ := load4 hk7; simp only at p0 p1 p2 p3; clear hb hk7) | (go_at_call 17; (with_reducible refine (HTM.out _).mono ?_); rintro _ w7 ⟨rfl, hb⟩; have hk7 := (hb.block _ (box_lt K6.out)).trans K6.out; have HB5 := hid (HB5.out.trans (hb.mono (Nat.le_trans HGG.out (Nat.le_of_lt (box_lt K6.out))))); have K6 := hid hk7; obtain ⟨p0, p1, p2, p3⟩ := load4 hk7; simp only at p0 p1 p2 p3; clear hb hk7))
      go_roundw
      case rel => exact ⟨k + 1, T, by omega, by go_num, rfl, hid HTQ.out.symm, hid (by rw [HN.out]; exact K6.out), HB5⟩
      case measure => simp [RowKit.intOf]; omega
    · obtain rfl : k = 100 := by omega
      have HLL : Hid (t ≤ 10000 → L ≤ max (t + 3) 2) := hid (fun h => by rw [HL.out]; exact HLAST.out h)
      have hw3 : wrap64 (t + 3) = t + 3 := w64 (by omega) (by omega)
      obtain ⟨M, hM⟩ : ∃ M, max (t + 3) 2 = M := ⟨_, rfl⟩
      rw [hM] at HLL
      by_cases h10 : 10000 < t
      · have hd : decide (10000 < t) = true := decide_eq_true h10
        go_wp2_with (go_at_call 12; (with_reducible refine (awake_any _).mono ?_); rintro _ w8 ⟨rfl, hb⟩; have HB := hid (HB.out.trans (hb.mono (Nat.le_trans HGG.out (Nat.le_of_lt (box_lt HK.out))))); clear hb)
        go_ret
        exact ⟨rfl, by rw [HG0.out]; exact HB.out⟩
      · have hd : decide (10000 < t) = false := decide_eq_false h10
        have hd2 : decide (L ≤ M) = true := decide_eq_true (HLL.out (by omega))
        go_wp2_with (go_at_call 12; (with_reducible refine (awake_any _).mono ?_); rintro _ w8 ⟨rfl, hb⟩; have HB := hid (HB.out.trans (hb.mono (Nat.le_trans HGG.out (Nat.le_of_lt (box_lt HK.out))))); clear hb)
        go_ret
        exact ⟨rfl, by rw [HG0.out]; exact HB.out⟩
end Go.Proofs.Ytlbcidgmdfcamaa
