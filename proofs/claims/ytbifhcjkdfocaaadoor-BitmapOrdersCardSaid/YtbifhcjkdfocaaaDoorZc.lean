/- The reference's change. -/
import Derived.Test.YtbifhcjkdfocaaaDoorZb
import Derived.Test.YtbifhcjkdfocaaaDoorY
namespace Go.Proofs.YtbifhcjkdfocaaaDoor
open Go.RowKit

theorem and_over (x y z : Bool) : (x && !y && !z) = (x && !(y || z)) := by cases x <;> cases y <;> cases z <;> rfl
theorem clear_bits {us ws : List Nat} {k n x y f : Nat} (hx : us[k / 64]? = some x) (hn : k % 64 + n ≤ 64) (hfk : f ≤ k) (hb : ∀ i, bit us i = (bit ws i && !decide (f ≤ i ∧ i < k))) (hy : x &&& (18446744073709551615 - run1 (k % 64) n) = y) (hxl : x < 18446744073709551616) :
    ∀ i, bit (us.set (k / 64) y) i = (bit ws i && !decide (f ≤ i ∧ i < k + n)) := fun i => by
  have hlt := (List.getElem?_eq_some_iff.1 hx).1
  by_cases e : i / 64 = k / 64
  · have h1 : bit (us.set (k / 64) y) i = y.testBit (i % 64) := by
      unfold bit
      rw [e]
      simp [List.getD, List.getElem?_set_self hlt]
    have h2 : bit us i = x.testBit (i % 64) := by
      unfold bit
      rw [e]
      simp [List.getD, hx]
    rw [h1, ← hy, andNot_bits _ _ _ hxl (run1_small hn), run1_bits, ← h2, hb i, and_over]
    congr 2
    rw [Bool.eq_iff_iff]
    simp only [Bool.or_eq_true, decide_eq_true_eq]
    omega
  · have h1 : bit (us.set (k / 64) y) i = bit us i := by
      unfold bit
      simp [List.getD, List.getElem?_set_ne (fun h => e h.symm)]
    rw [h1, hb i]
    congr 2
    simp only [decide_eq_decide]
    omega

set_option maxHeartbeats 4000000 in
set_option maxRecDepth 100000 in
theorem refChange_set (s a c : Int) (ws : List Nat) (v : Value) (w : World) (hv : Bm w v s ws) (ha : R64 a) (hc : R64 c) :
    Calls Tryd.prog 45 #[v, .agg #[.int .i64 a, .int .i64 c], .bool true] w (MadeB w (chgErr s ws a c) s fun i => bit ws i || inL [((a : Int), (c : Int))] i) := by
  have HCK := hid (fun W (h : Below w.heap.size w W) => refCheck_any s ws v W (hv.below h))
  have HCP := hid (fun W (h : Below w.heap.size w W) (hl : ws.length ≤ 10000) => copy_any s ws v W (hv.below h) hl)
  have HWIDE := hid hv.2.1
  obtain ⟨hs1, hs2⟩ : R64 s := hv.1
  obtain ⟨A, ca, rfl⟩ := hv.form
  clear hv
  obtain ⟨w1, h1⟩ : ∃ w1, w.alloc (.cells #[.int .i64 s, .slice A ws.length ca] 24) = w1 := ⟨_, rfl⟩
  have z1 : w1.heap.size = w.heap.size + 1 := by rw [← h1]; simp
  obtain ⟨w2, h2⟩ : ∃ w2, w1.alloc (.cells #[.int .i64 a, .int .i64 c] 39) = w2 := ⟨_, rfl⟩
  have z2 : w2.heap.size = w.heap.size + 2 := by rw [← h2]; simp; omega
  obtain ⟨w4, h4⟩ : ∃ w4, w2.alloc (.cells #[.int .i64 0, .slice none 0 0] 24) = w4 := ⟨_, rfl⟩
  have z4 : w4.heap.size = w.heap.size + 3 := by rw [← h4]; simp; omega
  have rA : w4.heap[w.heap.size]? = some (.cells #[.int .i64 s, .slice A ws.length ca] 24 (0, 0)) := by
    rw [← h4]; refine (Below.heap_alloc _ _ _ (by omega)).trans ?_
    rw [← h2]; refine (Below.heap_alloc _ _ _ (by omega)).trans ?_
    rw [← h1]; exact heap_alloc_new w _
  have rB : w4.heap[w.heap.size + 1]? = some (.cells #[.int .i64 a, .int .i64 c] 39 (0, 0)) := by
    rw [← h4]; refine (Below.heap_alloc _ _ _ (by omega)).trans ?_
    rw [← h2, ← z1]; exact heap_alloc_new w1 _
  have rR : w4.heap[w.heap.size + 2]? = some (.cells #[.int .i64 0, .slice none 0 0] 24 (0, 0)) := by
    rw [← h4, ← z2]; exact heap_alloc_new w2 _
  have hB4 : Below w.heap.size w w4 := by
    rw [← h4, ← h2, ← h1]
    exact (((Below.refl _ w).alloc (Nat.le_refl _) _).alloc (by simp) _).alloc (by simp; omega) _
  have a0 := cell_of_row _ _ 0 _ _ _ rA
  have a1 := cell_of_row _ _ 1 _ _ _ rA
  have RA := hid rA
  have RB := hid rB
  have RR := hid rR
  have HB4 := hid hB4
  clear rA rB rR hB4
  by_cases ga : chk s ws = 0
  · have good := chk_zero ga
    have hlo := good.low
    have hhi := good.high
    have hce := hid (chg_good (a := a) (c := c) ga)
    have HG := hid good
    have hlen := hid good.len
    have hln1 : 64 * (ws.length : Int) ≤ s + 63 := by have := good.len; omega
    have hln2 : s ≤ 64 * (ws.length : Int) := by have := good.len; omega
    have HF := hid (fun W => refFits_any a c s W ha hc hlo hhi)
    rw [ga] at HCK
    clear ga good
    cases hf : fitsB a c s with
    | false =>
      have hfe := hid (show feErr s [(a, c)] = 2 from feErr_bad (fun h => by have := h.2.2; simp [fitAll, hf] at this))
      rw [hf] at HF
      clear hf
      go_enter Tryd.func45, Tryd.ntmps45
      go_wp2_with fail
      refine (HCK.out _ HB4.out).mono ?_
      rintro e w5 ⟨rfl, hb5⟩
      obtain ⟨p0, p1, _, _, _⟩ := res_facts hb5 RA.out (by omega)
      obtain ⟨b0, b1, _, _, _⟩ := res_facts hb5 RB.out (by omega)
      have HB5 := hid hb5
      have hz5 := hb5.size
      clear hb5 a0 a1
      go_wp2_with fail
      refine (HF.out _).mono ?_
      rintro e w6 ⟨rfl, hb6⟩
      have HB6 := hid (HB5.out.trans (hb6.mono hz5))
      obtain ⟨f0, f1, f2, f3, HR6⟩ := res_facts HB6.out RR.out (by omega)
      clear hb6
      go_wp2
      refine bodyPost_ret (results_bm rfl _ _ _ _ _ _ _ rfl (box2_set HR6.out)) rfl ?_
      exact made_err (by rw [hce.out, hfe.out]) (by omega) (box2_below (below_from HB4.out HB6.out) (by omega))
    | true =>
      have hfe := hid (show feErr s [(a, c)] = 0 from feErr_ok hlo hhi (by simp [fitAll, hf]))
      have ⟨ha0, hc0, hac⟩ : 0 ≤ a ∧ 0 ≤ c ∧ c ≤ s - a := by simpa [fitsB] using hf
      obtain ⟨f, rfl⟩ := Int.eq_ofNat_of_zero_le ha0
      obtain ⟨m, rfl⟩ := Int.eq_ofNat_of_zero_le hc0
      rw [hf] at HF
      clear hf ha0 hc0
      go_enter Tryd.func45, Tryd.ntmps45
      go_wp2_with fail
      refine (HCK.out _ HB4.out).mono ?_
      rintro e w5 ⟨rfl, hb5⟩
      obtain ⟨p0, p1, _, _, _⟩ := res_facts hb5 RA.out (by omega)
      obtain ⟨b0, b1, _, _, _⟩ := res_facts hb5 RB.out (by omega)
      have HB5 := hid hb5
      have hz5 := hb5.size
      clear hb5 a0 a1
      go_wp2_with fail
      refine (HF.out _).mono ?_
      rintro e w6 ⟨rfl, hb6⟩
      have HB6 := hid (HB5.out.trans (hb6.mono hz5))
      have hz6 := HB6.out.size
      obtain ⟨p0, p1, _, _, _⟩ := res_facts HB6.out RA.out (by omega)
      obtain ⟨b0, b1, _, _, _⟩ := res_facts HB6.out RB.out (by omega)
      clear hb6 HB5 hz5
      go_wp2_with fail
      refine (HCP.out _ (below_from HB4.out HB6.out) (by omega)).mono ?_
      rintro e w7 ⟨g, cp, rfl, hg6, hk7, hcp1, hcp2, hb7⟩
      have HB7 := hid (HB6.out.trans (hb7.mono hz6))
      have hz7 := hb7.size
      have HK7 := hid hk7
      have hgl := hk7.lt
      obtain ⟨b0, b1, _, _, HRB7⟩ := res_facts HB7.out RB.out (by omega)
      have hr1 : w.heap.size + 1 < w7.heap.size := by omega
      clear hk7 hb7 p0 p1
      go_wp2_with fail
      obtain ⟨q, hq⟩ : ∃ q, w7.heap.size = q := ⟨_, rfl⟩
      obtain ⟨w8, h8⟩ : ∃ w8, w7.alloc (.cells #[.int .i64 s, .slice (some ⟨g, 0, none⟩) ws.length cp] 24) = w8 := ⟨_, rfl⟩
      have hz8 : w8.heap.size = q + 1 := by rw [← h8]; simp; omega
      have hB78 : Below w7.heap.size w7 w8 := by rw [← h8]; exact (Below.refl _ w7).alloc (Nat.le_refl _) _
      have HQ8 : Hid (w8.heap[q]? = some (.cells #[.int .i64 s, .slice (some ⟨g, 0, none⟩) ws.length cp] 24 (0, 0))) := hid (by rw [← h8, ← hq]; exact heap_alloc_new w7 _)
      have HK8 := hid (HK7.out.below hB78)
      have HB8 : Hid (Below w4.heap.size w4 w8) := hid (HB7.out.trans (hB78.mono HB7.out.size))
      have c0 := cell_of_row _ _ 0 _ _ _ ((hB78.block _ (by omega)).trans HRB7.out)
      rw [h8, hq]
      rw [hq] at hgl hz7
      clear HK7 hB78 h8 hq b0 b1 HRB7
      go_loopw [9] (fun i wr => ∃ (k : Nat) (us : List Nat), f ≤ k ∧ k ≤ f + m ∧ i = .int .i64 k ∧ us.length = ws.length ∧ Hid (Wide us) ∧ Hid (∀ i, bit us i = (bit ws i || decide (f ≤ i ∧ i < k))) ∧ Hid (Wk wr g us) ∧ q < wr.heap.size ∧
        Hid (wr.heap[q]? = some (.cells #[.int .i64 s, .slice (some ⟨g, 0, none⟩) ws.length cp] 24 (0, 0))) ∧ Hid (Below w4.heap.size w4 wr)) (fun i _ => f + m - (intOf i).toNat)
      case atStart => exact ⟨f, ws, Nat.le_refl _, by omega, rfl, rfl, HWIDE, hid (fun i => by rw [decide_eq_false (by omega)]; simp), HK8, by omega, HQ8, HB8⟩
      case round =>
        clear HK8 HQ8 HB8 hz8 c0
        obtain ⟨k, us, hfk, hkf, rfl, hlu, HWU, HBU, HWK, hqs, HQ, HBW⟩ := hrel
        have q0 := cell_of_row _ _ 0 _ _ _ HQ.out
        have q1 := cell_of_row _ _ 1 _ _ _ HQ.out
        obtain ⟨b0, b1, _, _, _⟩ := res_facts HBW.out RB.out (by omega)
        have hBs := HBW.out.size
        by_cases hlt : k < f + m
        · obtain ⟨x, hx⟩ : ∃ x, us[k / 64]? = some x := ⟨us[k / 64]'(by omega), List.getElem?_eq_getElem (by omega)⟩
          have hxl := HWU.out x (List.mem_of_getElem? hx)
          have cx := HWK.out.cell hx
          have fx := HWK.out.frozen (k / 64)
          have hq : k / 64 < ws.length := by omega
          have ht : Int.tdiv (k : Int) 64 = ((k / 64 : Nat) : Int) := by rw [Int.tdiv_eq_ediv_of_nonneg (by omega)]; omega
          have hm : Int.tmod (k : Int) 64 = ((k % 64 : Nat) : Int) := by rw [Int.tmod_eq_emod_of_nonneg (by omega)]; omega
          have hrun := run1_small (a := k % 64) (n := 1) (by omega)
          have hshl : (1 : Int) * 2 ^ (k % 64) = ((run1 (k % 64) 1 : Nat) : Int) := by simp [run1]
          obtain ⟨r, hr⟩ : ∃ r, run1 (k % 64) 1 = r := ⟨_, rfl⟩
          rw [hr] at hrun hshl
          have hwr : IntKind.u64.wrap (2 ^ (k % 64)) = (r : Int) := by rw [Int.one_mul] at hshl; rw [hshl, IntKind.wrap_u64]; omega
          have hor := u64_or_nat x r hxl hrun
          obtain ⟨y, hy⟩ : ∃ y, x ||| r = y := ⟨_, rfl⟩
          rw [hy] at hor
          have hyl : y < 18446744073709551616 := by rw [← hy]; exact Nat.or_lt_two_pow (n := 64) hxl hrun
          have HSET := hid (HWK.out.set (i := k / 64) (by omega) y)
          have HNEW := hid (set_bits (ws := ws) (y := y) hx (n := 1) (by omega) hfk HBU.out (by rw [hr]; exact hy))
          have HWN := hid (wide_set HWU.out hyl (k / 64))
          clear hr hy hx hshl
          go_wp2
          go_region
          go_wp2
          go_roundw
          case rel => exact ⟨k + 1, us.set (k / 64) y, by omega, by omega, by go_num, by rw [List.length_set]; exact hlu, HWN, HNEW, HSET, by simpa using hqs, hid ((Below.heap_setCell _ _ _ _ (show q ≠ g by omega)).trans HQ.out), hid (below_drew (HBW.out.setCell (p := ⟨g, k / 64, none⟩) (show w4.heap.size ≤ g by omega) _))⟩
          case measure => simp [intOf]; omega
        · obtain rfl : k = f + m := by omega
          obtain ⟨f0, f1, f2, f3, HR5⟩ := res_facts HBW.out RR.out (by omega)
          go_wp2
          refine bodyPost_ret (results_bm rfl _ _ _ _ _ _ _ rfl (box2_set HR5.out)) rfl ?_
          have hbm := fun W (h : Wk W g us) => h.bm HWU.out (s := s) ⟨by omega, by omega⟩ (cap := cp) (by omega) hcp2
          simp only [hlu] at hbm
          refine made_ok (by rw [hce.out, hfe.out]) (hbm _ (HWK.out.box2 (by omega))) ⟨hlo, hhi, by rw [hlu]; exact hlen.out, fun i hi => ?_⟩ (fun i _ => ?_) (box2_below (below_from HB4.out HBW.out) (by omega))
          · rw [HBU.out, HG.out.clean i hi, decide_eq_false (by omega)]
            rfl
          · rw [HBU.out, inL_one]
            congr 1
            simp only [decide_eq_decide]
            omega
  · have h3' : chk s ws = 3 := by rcases chk_cases s ws with h | h <;> omega
    have hce := hid (chg_bad (a := a) (c := c) ga)
    rw [h3'] at HCK
    clear ga h3'
    go_enter Tryd.func45, Tryd.ntmps45
    go_wp2_with fail
    refine (HCK.out _ HB4.out).mono ?_
    rintro e w5 ⟨rfl, hb5⟩
    obtain ⟨f0, f1, f2, f3, HR5⟩ := res_facts hb5 RR.out (by omega)
    have HB5 := hid hb5
    clear hb5 a0 a1
    go_wp2
    refine bodyPost_ret (results_bm rfl _ _ _ _ _ _ _ rfl (box2_set HR5.out)) rfl ?_
    exact made_err hce.out.symm (by omega) (box2_below (below_from HB4.out HB5.out) (by omega))

set_option maxHeartbeats 4000000 in
set_option maxRecDepth 100000 in
theorem refChange_clear (s a c : Int) (ws : List Nat) (v : Value) (w : World) (hv : Bm w v s ws) (ha : R64 a) (hc : R64 c) :
    Calls Tryd.prog 45 #[v, .agg #[.int .i64 a, .int .i64 c], .bool false] w (MadeB w (chgErr s ws a c) s fun i => bit ws i && !inL [((a : Int), (c : Int))] i) := by
  have HCK := hid (fun W (h : Below w.heap.size w W) => refCheck_any s ws v W (hv.below h))
  have HCP := hid (fun W (h : Below w.heap.size w W) (hl : ws.length ≤ 10000) => copy_any s ws v W (hv.below h) hl)
  have HWIDE := hid hv.2.1
  obtain ⟨hs1, hs2⟩ : R64 s := hv.1
  obtain ⟨A, ca, rfl⟩ := hv.form
  clear hv
  obtain ⟨w1, h1⟩ : ∃ w1, w.alloc (.cells #[.int .i64 s, .slice A ws.length ca] 24) = w1 := ⟨_, rfl⟩
  have z1 : w1.heap.size = w.heap.size + 1 := by rw [← h1]; simp
  obtain ⟨w2, h2⟩ : ∃ w2, w1.alloc (.cells #[.int .i64 a, .int .i64 c] 39) = w2 := ⟨_, rfl⟩
  have z2 : w2.heap.size = w.heap.size + 2 := by rw [← h2]; simp; omega
  obtain ⟨w4, h4⟩ : ∃ w4, w2.alloc (.cells #[.int .i64 0, .slice none 0 0] 24) = w4 := ⟨_, rfl⟩
  have z4 : w4.heap.size = w.heap.size + 3 := by rw [← h4]; simp; omega
  have rA : w4.heap[w.heap.size]? = some (.cells #[.int .i64 s, .slice A ws.length ca] 24 (0, 0)) := by
    rw [← h4]; refine (Below.heap_alloc _ _ _ (by omega)).trans ?_
    rw [← h2]; refine (Below.heap_alloc _ _ _ (by omega)).trans ?_
    rw [← h1]; exact heap_alloc_new w _
  have rB : w4.heap[w.heap.size + 1]? = some (.cells #[.int .i64 a, .int .i64 c] 39 (0, 0)) := by
    rw [← h4]; refine (Below.heap_alloc _ _ _ (by omega)).trans ?_
    rw [← h2, ← z1]; exact heap_alloc_new w1 _
  have rR : w4.heap[w.heap.size + 2]? = some (.cells #[.int .i64 0, .slice none 0 0] 24 (0, 0)) := by
    rw [← h4, ← z2]; exact heap_alloc_new w2 _
  have hB4 : Below w.heap.size w w4 := by
    rw [← h4, ← h2, ← h1]
    exact (((Below.refl _ w).alloc (Nat.le_refl _) _).alloc (by simp) _).alloc (by simp; omega) _
  have a0 := cell_of_row _ _ 0 _ _ _ rA
  have a1 := cell_of_row _ _ 1 _ _ _ rA
  have RA := hid rA
  have RB := hid rB
  have RR := hid rR
  have HB4 := hid hB4
  clear rA rB rR hB4
  by_cases ga : chk s ws = 0
  · have good := chk_zero ga
    have hlo := good.low
    have hhi := good.high
    have hce := hid (chg_good (a := a) (c := c) ga)
    have HG := hid good
    have hlen := hid good.len
    have hln1 : 64 * (ws.length : Int) ≤ s + 63 := by have := good.len; omega
    have hln2 : s ≤ 64 * (ws.length : Int) := by have := good.len; omega
    have HF := hid (fun W => refFits_any a c s W ha hc hlo hhi)
    rw [ga] at HCK
    clear ga good
    cases hf : fitsB a c s with
    | false =>
      have hfe := hid (show feErr s [(a, c)] = 2 from feErr_bad (fun h => by have := h.2.2; simp [fitAll, hf] at this))
      rw [hf] at HF
      clear hf
      go_enter Tryd.func45, Tryd.ntmps45
      go_wp2_with fail
      refine (HCK.out _ HB4.out).mono ?_
      rintro e w5 ⟨rfl, hb5⟩
      obtain ⟨p0, p1, _, _, _⟩ := res_facts hb5 RA.out (by omega)
      obtain ⟨b0, b1, _, _, _⟩ := res_facts hb5 RB.out (by omega)
      have HB5 := hid hb5
      have hz5 := hb5.size
      clear hb5 a0 a1
      go_wp2_with fail
      refine (HF.out _).mono ?_
      rintro e w6 ⟨rfl, hb6⟩
      have HB6 := hid (HB5.out.trans (hb6.mono hz5))
      obtain ⟨f0, f1, f2, f3, HR6⟩ := res_facts HB6.out RR.out (by omega)
      clear hb6
      go_wp2
      refine bodyPost_ret (results_bm rfl _ _ _ _ _ _ _ rfl (box2_set HR6.out)) rfl ?_
      exact made_err (by rw [hce.out, hfe.out]) (by omega) (box2_below (below_from HB4.out HB6.out) (by omega))
    | true =>
      have hfe := hid (show feErr s [(a, c)] = 0 from feErr_ok hlo hhi (by simp [fitAll, hf]))
      have ⟨ha0, hc0, hac⟩ : 0 ≤ a ∧ 0 ≤ c ∧ c ≤ s - a := by simpa [fitsB] using hf
      obtain ⟨f, rfl⟩ := Int.eq_ofNat_of_zero_le ha0
      obtain ⟨m, rfl⟩ := Int.eq_ofNat_of_zero_le hc0
      rw [hf] at HF
      clear hf ha0 hc0
      go_enter Tryd.func45, Tryd.ntmps45
      go_wp2_with fail
      refine (HCK.out _ HB4.out).mono ?_
      rintro e w5 ⟨rfl, hb5⟩
      obtain ⟨p0, p1, _, _, _⟩ := res_facts hb5 RA.out (by omega)
      obtain ⟨b0, b1, _, _, _⟩ := res_facts hb5 RB.out (by omega)
      have HB5 := hid hb5
      have hz5 := hb5.size
      clear hb5 a0 a1
      go_wp2_with fail
      refine (HF.out _).mono ?_
      rintro e w6 ⟨rfl, hb6⟩
      have HB6 := hid (HB5.out.trans (hb6.mono hz5))
      have hz6 := HB6.out.size
      obtain ⟨p0, p1, _, _, _⟩ := res_facts HB6.out RA.out (by omega)
      obtain ⟨b0, b1, _, _, _⟩ := res_facts HB6.out RB.out (by omega)
      clear hb6 HB5 hz5
      go_wp2_with fail
      refine (HCP.out _ (below_from HB4.out HB6.out) (by omega)).mono ?_
      rintro e w7 ⟨g, cp, rfl, hg6, hk7, hcp1, hcp2, hb7⟩
      have HB7 := hid (HB6.out.trans (hb7.mono hz6))
      have hz7 := hb7.size
      have HK7 := hid hk7
      have hgl := hk7.lt
      obtain ⟨b0, b1, _, _, HRB7⟩ := res_facts HB7.out RB.out (by omega)
      have hr1 : w.heap.size + 1 < w7.heap.size := by omega
      clear hk7 hb7 p0 p1
      go_wp2_with fail
      obtain ⟨q, hq⟩ : ∃ q, w7.heap.size = q := ⟨_, rfl⟩
      obtain ⟨w8, h8⟩ : ∃ w8, w7.alloc (.cells #[.int .i64 s, .slice (some ⟨g, 0, none⟩) ws.length cp] 24) = w8 := ⟨_, rfl⟩
      have hz8 : w8.heap.size = q + 1 := by rw [← h8]; simp; omega
      have hB78 : Below w7.heap.size w7 w8 := by rw [← h8]; exact (Below.refl _ w7).alloc (Nat.le_refl _) _
      have HQ8 : Hid (w8.heap[q]? = some (.cells #[.int .i64 s, .slice (some ⟨g, 0, none⟩) ws.length cp] 24 (0, 0))) := hid (by rw [← h8, ← hq]; exact heap_alloc_new w7 _)
      have HK8 := hid (HK7.out.below hB78)
      have HB8 : Hid (Below w4.heap.size w4 w8) := hid (HB7.out.trans (hB78.mono HB7.out.size))
      have c0 := cell_of_row _ _ 0 _ _ _ ((hB78.block _ (by omega)).trans HRB7.out)
      rw [h8, hq]
      rw [hq] at hgl hz7
      clear HK7 hB78 h8 hq b0 b1 HRB7
      go_loopw [9] (fun i wr => ∃ (k : Nat) (us : List Nat), f ≤ k ∧ k ≤ f + m ∧ i = .int .i64 k ∧ us.length = ws.length ∧ Hid (Wide us) ∧ Hid (∀ i, bit us i = (bit ws i && !decide (f ≤ i ∧ i < k))) ∧ Hid (Wk wr g us) ∧ q < wr.heap.size ∧
        Hid (wr.heap[q]? = some (.cells #[.int .i64 s, .slice (some ⟨g, 0, none⟩) ws.length cp] 24 (0, 0))) ∧ Hid (Below w4.heap.size w4 wr)) (fun i _ => f + m - (intOf i).toNat)
      case atStart => exact ⟨f, ws, Nat.le_refl _, by omega, rfl, rfl, HWIDE, hid (fun i => by rw [decide_eq_false (by omega)]; simp), HK8, by omega, HQ8, HB8⟩
      case round =>
        clear HK8 HQ8 HB8 hz8 c0
        obtain ⟨k, us, hfk, hkf, rfl, hlu, HWU, HBU, HWK, hqs, HQ, HBW⟩ := hrel
        have q0 := cell_of_row _ _ 0 _ _ _ HQ.out
        have q1 := cell_of_row _ _ 1 _ _ _ HQ.out
        obtain ⟨b0, b1, _, _, _⟩ := res_facts HBW.out RB.out (by omega)
        have hBs := HBW.out.size
        by_cases hlt : k < f + m
        · obtain ⟨x, hx⟩ : ∃ x, us[k / 64]? = some x := ⟨us[k / 64]'(by omega), List.getElem?_eq_getElem (by omega)⟩
          have hxl := HWU.out x (List.mem_of_getElem? hx)
          have cx := HWK.out.cell hx
          have fx := HWK.out.frozen (k / 64)
          have hq : k / 64 < ws.length := by omega
          have ht : Int.tdiv (k : Int) 64 = ((k / 64 : Nat) : Int) := by rw [Int.tdiv_eq_ediv_of_nonneg (by omega)]; omega
          have hm : Int.tmod (k : Int) 64 = ((k % 64 : Nat) : Int) := by rw [Int.tmod_eq_emod_of_nonneg (by omega)]; omega
          have hrun := run1_small (a := k % 64) (n := 1) (by omega)
          have hshl : (1 : Int) * 2 ^ (k % 64) = ((run1 (k % 64) 1 : Nat) : Int) := by simp [run1]
          obtain ⟨r, hr⟩ : ∃ r, run1 (k % 64) 1 = r := ⟨_, rfl⟩
          rw [hr] at hrun hshl
          have hwr : IntKind.u64.wrap (2 ^ (k % 64)) = (r : Int) := by rw [Int.one_mul] at hshl; rw [hshl, IntKind.wrap_u64]; omega
          have hor := u64_andNot_nat x r hxl hrun
          obtain ⟨y, hy⟩ : ∃ y, x &&& (18446744073709551615 - r) = y := ⟨_, rfl⟩
          rw [hy] at hor
          have hyl : y < 18446744073709551616 := by rw [← hy]; exact and_small x _ hxl
          have HSET := hid (HWK.out.set (i := k / 64) (by omega) y)
          have HNEW := hid (clear_bits (hxl := hxl) (ws := ws) (y := y) hx (n := 1) (by omega) hfk HBU.out (by rw [hr]; exact hy))
          have HWN := hid (wide_set HWU.out hyl (k / 64))
          clear hr hy hx hshl
          go_wp2
          go_region
          go_wp2
          go_roundw
          case rel => exact ⟨k + 1, us.set (k / 64) y, by omega, by omega, by go_num, by rw [List.length_set]; exact hlu, HWN, HNEW, HSET, by simpa using hqs, hid ((Below.heap_setCell _ _ _ _ (show q ≠ g by omega)).trans HQ.out), hid (below_drew (HBW.out.setCell (p := ⟨g, k / 64, none⟩) (show w4.heap.size ≤ g by omega) _))⟩
          case measure => simp [intOf]; omega
        · obtain rfl : k = f + m := by omega
          obtain ⟨f0, f1, f2, f3, HR5⟩ := res_facts HBW.out RR.out (by omega)
          go_wp2
          refine bodyPost_ret (results_bm rfl _ _ _ _ _ _ _ rfl (box2_set HR5.out)) rfl ?_
          have hbm := fun W (h : Wk W g us) => h.bm HWU.out (s := s) ⟨by omega, by omega⟩ (cap := cp) (by omega) hcp2
          simp only [hlu] at hbm
          refine made_ok (by rw [hce.out, hfe.out]) (hbm _ (HWK.out.box2 (by omega))) ⟨hlo, hhi, by rw [hlu]; exact hlen.out, fun i hi => ?_⟩ (fun i _ => ?_) (box2_below (below_from HB4.out HBW.out) (by omega))
          · rw [HBU.out, HG.out.clean i hi, decide_eq_false (by omega)]
            rfl
          · rw [HBU.out, inL_one]
            congr 1
            congr 1
            simp only [decide_eq_decide]
            omega
  · have h3' : chk s ws = 3 := by rcases chk_cases s ws with h | h <;> omega
    have hce := hid (chg_bad (a := a) (c := c) ga)
    rw [h3'] at HCK
    clear ga h3'
    go_enter Tryd.func45, Tryd.ntmps45
    go_wp2_with fail
    refine (HCK.out _ HB4.out).mono ?_
    rintro e w5 ⟨rfl, hb5⟩
    obtain ⟨f0, f1, f2, f3, HR5⟩ := res_facts hb5 RR.out (by omega)
    have HB5 := hid hb5
    clear hb5 a0 a1
    go_wp2
    refine bodyPost_ret (results_bm rfl _ _ _ _ _ _ _ rfl (box2_set HR5.out)) rfl ?_
    exact made_err hce.out.symm (by omega) (box2_below (below_from HB4.out HB5.out) (by omega))
end Go.Proofs.YtbifhcjkdfocaaaDoor
