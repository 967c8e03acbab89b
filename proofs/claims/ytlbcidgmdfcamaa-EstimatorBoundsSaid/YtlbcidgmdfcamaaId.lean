/- The law EstimatorBounds walked. -/
import Derived.Test.YtlbcidgmdfcamaaO
namespace Go.Proofs.Ytlbcidgmdfcamaa
open Go.RowKit Go.Lib
set_option maxHeartbeats 8000000 in
set_option maxRecDepth 100000 in
theorem bounds_walk (v : Value) (l : List Sq) (w : World) (hv : Sqs w v l) : Calls Try.prog 5 #[v] w (TrueQ w) := by
  obtain ⟨A, c, rfl, hlm⟩ := sqs_form hv
  obtain ⟨N, hN⟩ : ∃ N, l.length = N := ⟨_, rfl⟩
  obtain ⟨g0, hg0⟩ : ∃ g, w.heap.size = g := ⟨_, rfl⟩
  have HG0 := hid hg0
  have HV : Hid (∀ X, Below g0 w X → Sqs X (.slice A N c) l) := hid (fun X hX => by rw [← hN]; rw [← hg0] at hX; exact hv.below hX)
  have HLN := hid hN
  rw [hN] at hlm ⊢
  clear hv hN hg0
  by_cases big : 200 < N
  · have d0 : decide (200 < N) = true := decide_eq_true big
    have d1 : decide ((200 : Int) < (N : Int)) = true := decide_eq_true (by omega)
    go_enter Try.func5, Try.ntmps5
    go_wp2_with (go_at_call 12; (with_reducible refine (awake_any _).mono ?_); rintro _ w8 ⟨rfl, hb⟩; have HB := hid hb; clear hb)
    go_ret
    exact ⟨rfl, HB.out⟩
  have d0 : decide (200 < N) = false := decide_eq_false big
  have d1 : decide ((200 : Int) < (N : Int)) = false := decide_eq_false (by omega)
  go_enter Try.func5, Try.ntmps5
  go_upto_region 4 with (go_at_call 15; (with_reducible refine (aw0 _).mono ?_); rintro _ w1 ⟨rfl, hb⟩; have HB1 := hid hb; clear hb)
  obtain ⟨g, hg⟩ : ∃ h, w1.heap.size = h := ⟨_, rfl⟩
  obtain ⟨W2, hW2⟩ : ∃ X, w1.alloc (.cells (cE z4) 23) = X := ⟨_, rfl⟩
  have K0 : Hid (W2.heap[g]? = some (.cells (cE z4) 23)) := hid (by rw [← hW2, ← hg]; exact heap_alloc_new _ _)
  have HGG : Hid (g0 ≤ g) := hid (by rw [← hg, ← HG0.out]; exact HB1.out.size)
  have HB2 : Hid (Below g0 w W2) := hid (by rw [← hW2, ← HG0.out]; exact HB1.out.alloc HB1.out.size _)
  have HG := hid hg
  have HW2 := hid hW2
  simp only [cE, z4] at HW2
  clear hg hW2
  rw [HG.out, HW2.out]
  go_upto_region 6 with fail
  go_loopw [4, 5, 6, 7] (fun lv hv av iv wr => ∃ (k : Nat) (lo hi : Int) (an : Bool) (E : Est), k ≤ N ∧ iv = .int .i64 (k : Int) ∧ lv = .int .i64 lo ∧ hv = .int .i64 hi ∧ av = .bool an ∧ Hid (Bet E lo hi an) ∧ Hid (wr.heap[g]? = some (.cells (cE E) 23)) ∧ Hid (Below g0 w wr)) (fun _ _ _ iv _ => N - (RowKit.intOf iv).toNat)
  case atStart => exact ⟨0, 0, 0, false, z4, by omega, rfl, rfl, rfl, rfl, hid bet_z4, K0, HB2⟩
  case round =>
    obtain ⟨k, lo, hi, an, E, hk, rfl, rfl, rfl, rfl, HBT, HK, HB⟩ := hrel
    by_cases hlt : k < N
    · have hlt' : decide ((k : Int) < (N : Int)) = true := decide_eq_true (by omega)
      obtain ⟨⟨eb, tt⟩, hx⟩ : ∃ x, l[k]? = some x := ⟨l[k]'(by rw [HLN.out]; exact hlt), List.getElem?_eq_getElem _⟩
      obtain ⟨b, off, rfl, hbl, htt, hc0, hc1⟩ := sqs_at (HV.out wr HB.out) hx
      simp only at htt hc0 hc1
      obtain ⟨n, s, v, bb⟩ := E
      obtain ⟨x0, x1, x2, x3⟩ := load4 HK.out
      simp only at x0 x1 x2 x3
      have fr := box_fr HK.out
      clear hx
      cases eb
      · have hwt : wrap64 (tt : Int) = (tt : Int) := w64 (by omega) (by omega)
        obtain ⟨t, hT⟩ : ∃ t : Int, (tt : Int) = t := ⟨_, rfl⟩
        have ht0 : 0 ≤ t ∧ t ≤ 65535 := by omega
        rw [hT] at hwt hc1
        have hsm := smp_ok5 HBT.out.1 ht0.1 ht0.2
        obtain ⟨⟨n', s', v', b'⟩, hE'⟩ : ∃ E, nxt ⟨n, s, v, bb⟩ t = E := ⟨_, rfl⟩
        rw [hE'] at hsm
        have HS := hid (fun W => sample_n hsm W)
        have HT0 := hid ht0
        have HE' := hid hE'
        have HBL := hid hbl
        simp only [ev] at HS
        clear hsm hE' ht0 hT hbl htt
        go_upto_region 12 with (go_at_call 10; (with_reducible refine (HS.out _).mono ?_); rintro _ w3 ⟨rfl, hb⟩; have HB3 := hid (HB.out.trans (hb.mono (Nat.le_trans HGG.out (Nat.le_of_lt (box_lt HK.out))))); have hk3 := (hb.block _ (box_lt HK.out)).trans HK.out; have K3 := hid hk3; clear hb hk3)
        obtain ⟨h, hh⟩ : ∃ h, w3.heap.size = h := ⟨_, rfl⟩
        obtain ⟨W3, hW3⟩ : ∃ X, w3.alloc (.cells (cE ⟨n', s', v', b'⟩) 23) = X := ⟨_, rfl⟩
        have k4 : W3.heap[h]? = some (.cells (cE ⟨n', s', v', b'⟩) 23) := by rw [← hW3, ← hh]; exact heap_alloc_new _ _
        have k5 : W3.heap[g]? = some (.cells (cE ⟨n, s, v, bb⟩) 23) := by rw [← hW3]; exact old_alloc K3.out _
        have HB4 : Hid (Below g0 w W3) := hid (by rw [← hW3]; exact HB3.out.alloc (Nat.le_trans HGG.out (Nat.le_of_lt (box_lt K3.out))) _)
        have K5 := hid k5
        have HH := hid hh
        have HW3 := hid hW3
        obtain ⟨y0, y1, y2, y3⟩ := load4 k4
        obtain ⟨z0, z1, z2, z3⟩ := load4 k5
        have fr := box_fr k5
        simp only [cE] at HW3
        simp only at y0 y1 y2 y3 z0 z1 z2 z3
        clear k4 k5 hh hW3 x0 x1 x2 x3 hc0 hc1
        rw [HH.out, HW3.out]
        go_upto_region 15 with fail
        obtain ⟨W4, hW4⟩ : ∃ X, set4 W3 g ⟨n', s', v', b'⟩ = X := ⟨_, rfl⟩
        have k6 : W4.heap[g]? = some (.cells (cE ⟨n', s', v', b'⟩) 23) := by rw [← hW4]; exact set4h ⟨n', s', v', b'⟩ K5.out
        have HB5 : Hid (Below g0 w W4) := hid (by rw [← hW4]; exact set4b ⟨n', s', v', b'⟩ HB4.out HGG.out)
        have K6 := hid k6
        obtain ⟨p0, p1, p2, p3⟩ := load4 k6
        simp only at p0 p1 p2 p3
        have HW4 := hid hW4
        simp only [set4] at HW4
        clear k6 hW4 y0 y1 y2 y3 z0 z1 z2 z3 fr
        rw [HW4.out]
        have HM := hid (fun W => mean_any ⟨n', s', v', b'⟩ W)
        obtain ⟨m, hm⟩ : ∃ m, mean ⟨n', s', v', b'⟩ = m := ⟨_, rfl⟩
        rw [hm] at HM
        simp only [ev] at HM
        cases an
        · have HBN : Hid (Bet ⟨n', s', v', b'⟩ t t true) := hid (by rw [← HE'.out]; exact bet_first HBT.out HT0.out.1 HT0.out.2)
          have hbm := bet_mean HBN.out
          rw [hm] at hbm
          have q1 : decide (m < t) = false := decide_eq_false (by omega)
          have q2 : decide (t < m) = false := decide_eq_false (by omega)
          have q3 : min t t = t := by omega
          have q4 : max t t = t := by omega
          clear hbm hm
          go_wp2_with (go_at_call 19; (with_reducible refine (HM.out _).mono ?_); rintro _ w7 ⟨rfl, hb⟩; have hk7 := (hb.block _ (box_lt K6.out)).trans K6.out; have HB5 := hid (HB5.out.trans (hb.mono (Nat.le_trans HGG.out (Nat.le_of_lt (box_lt K6.out))))); have K6 := hid hk7; obtain ⟨p0, p1, p2, p3⟩ := load4 hk7; simp only at p0 p1 p2 p3; clear hb hk7)
          go_roundw
          case rel => exact ⟨k + 1, t, t, true, _, by omega, by go_num, rfl, rfl, rfl, HBN, K6, HB5⟩
          case measure => simp [RowKit.intOf]; omega
        · obtain ⟨lo', hlo⟩ : ∃ x, min lo t = x := ⟨_, rfl⟩
          obtain ⟨hi', hhi⟩ : ∃ x, max hi t = x := ⟨_, rfl⟩
          have HBN : Hid (Bet ⟨n', s', v', b'⟩ lo' hi' true) := hid (by rw [← HE'.out, ← hlo, ← hhi]; exact bet_next HBT.out HT0.out.1 HT0.out.2)
          have hbm := bet_mean HBN.out
          rw [hm] at hbm
          have q1 : decide (m < lo') = false := decide_eq_false (by omega)
          have q2 : decide (hi' < m) = false := decide_eq_false (by omega)
          clear hbm hm
          go_wp2_with (go_at_call 19; (with_reducible refine (HM.out _).mono ?_); rintro _ w7 ⟨rfl, hb⟩; have hk7 := (hb.block _ (box_lt K6.out)).trans K6.out; have HB5 := hid (HB5.out.trans (hb.mono (Nat.le_trans HGG.out (Nat.le_of_lt (box_lt K6.out))))); have K6 := hid hk7; obtain ⟨p0, p1, p2, p3⟩ := load4 hk7; simp only at p0 p1 p2 p3; clear hb hk7)
          go_roundw
          case rel => exact ⟨k + 1, lo', hi', true, _, by omega, by go_num, rfl, rfl, rfl, HBN, K6, HB5⟩
          case measure => simp [RowKit.intOf]; omega
      · obtain ⟨⟨n', s', v', b'⟩, hE'⟩ : ∃ E, exq ⟨n, s, v, bb⟩ = E := ⟨_, rfl⟩
        have HS := hid (fun W => expired_any ⟨n, s, v, bb⟩ W)
        rw [hE'] at HS
        have HBN : Hid (Bet ⟨n', s', v', b'⟩ lo hi an) := hid (by rw [← hE']; exact bet_exq HBT.out)
        simp only [ev] at HS
        clear hE' hbl htt
        go_wp2_with (go_at_call 21; (with_reducible refine (HS.out _).mono ?_); rintro _ w7 ⟨rfl, hb⟩; have hk7 := (hb.block _ (box_lt HK.out)).trans HK.out; have HB3 := hid (HB.out.trans (hb.mono (Nat.le_trans HGG.out (Nat.le_of_lt (box_lt HK.out))))); have K3 := hid hk7; obtain ⟨p0, p1, p2, p3⟩ := load4 hk7; simp only at p0 p1 p2 p3; have fr7 := box_fr hk7; clear hb hk7)
        have HB5 : Hid (Below g0 w (set4 w7 g ⟨n', s', v', b'⟩)) := hid (set4b ⟨n', s', v', b'⟩ HB3.out HGG.out)
        have K6 : Hid ((set4 w7 g ⟨n', s', v', b'⟩).heap[g]? = some (.cells (cE ⟨n', s', v', b'⟩) 23)) := hid (set4h ⟨n', s', v', b'⟩ K3.out)
        go_roundw
        case rel => exact ⟨k + 1, lo, hi, an, _, by omega, by go_num, rfl, rfl, rfl, HBN, K6, HB5⟩
        case measure => simp [RowKit.intOf]; omega
    · obtain rfl : k = N := by omega
      have hlt' : decide ((k : Int) < (k : Int)) = false := decide_eq_false (by omega)
      obtain ⟨n, s, v, bb⟩ := E
      have HCK := hid (fun W => check_any ⟨n, s, v, bb⟩ W)
      rw [HBT.out.1.1] at HCK
      simp only [ev] at HCK
      go_wp2_with (first | (go_at_call 12; (with_reducible refine (awake_any _).mono ?_); rintro _ w7 ⟨rfl, hb⟩; have hk7 := (hb.block _ (box_lt HK.out)).trans HK.out; have HB := hid (HB.out.trans (hb.mono (Nat.le_trans HGG.out (Nat.le_of_lt (box_lt HK.out))))); have HK := hid hk7; obtain ⟨p0, p1, p2, p3⟩ := load4 hk7; simp only at p0 p1 p2 p3; clear hb hk7) | (go_at_call 13; (with_reducible refine (HCK.out _).mono ?_); rintro _ w7 ⟨rfl, hb⟩; have hk7 := (hb.block _ (box_lt HK.out)).trans HK.out; have HB := hid (HB.out.trans (hb.mono (Nat.le_trans HGG.out (Nat.le_of_lt (box_lt HK.out))))); have HK := hid hk7; obtain ⟨p0, p1, p2, p3⟩ := load4 hk7; simp only at p0 p1 p2 p3; clear hb hk7))
      go_ret
      exact ⟨rfl, by rw [HG0.out]; exact HB.out⟩
end Go.Proofs.Ytlbcidgmdfcamaa
