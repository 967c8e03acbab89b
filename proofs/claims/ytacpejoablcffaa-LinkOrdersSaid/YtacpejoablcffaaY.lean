/- The law LinkRates walked. -/
import Derived.Test.YtacpejoablcffaaX
namespace Go.Proofs.Ytacpejoablcffaa
open Go.RowKit Go.Lib

theorem tmod_nat (a b : Nat) : (a : Int).tmod (b : Int) = ((a % b : Nat) : Int) := by
  rw [Int.tmod_eq_emod_of_nonneg (by omega)]
  rfl
set_option maxHeartbeats 4000000 in
set_option maxRecDepth 100000 in
theorem rates_walk (mn mx rt : Int) (sv cv : Value) (sts : List (Nat × Nat)) (ch : List Int) (fr tt : Int) (w : World) (hs : Sts w sv sts) (hc : Ints w cv ch) (hfr : (Lit.int .u8 fr).wf = true) (hto : (Lit.int .u8 tt).wf = true) :
    Calls Try.prog 9 #[.agg #[.int .i64 mn, .int .i64 mx, .int .i64 rt, sv, cv], .int .u8 fr, .int .u8 tt] w (TrueQ w) := by
  have hf8 := bounds_u8 hfr
  have ht8 := bounds_u8 hto
  obtain ⟨fn, rfl⟩ : ∃ fn : Nat, fr = (fn : Int) := ⟨fr.toNat, by omega⟩
  obtain ⟨tn, rfl⟩ : ∃ tn : Nat, tt = (tn : Int) := ⟨tt.toNat, by omega⟩
  have ef : IntKind.i64.wrap (fn : Int) = (fn : Int) := by rw [IntKind.wrap_i64]; omega
  have et : IntKind.i64.wrap (tn : Int) = (tn : Int) := by rw [IntKind.wrap_i64]; omega
  clear hfr hto
  obtain ⟨A, c, rfl⟩ := sts_form hs
  obtain ⟨B, c2, rfl⟩ := ints_form hc
  obtain ⟨N, hN⟩ : ∃ N, sts.length = N := ⟨_, rfl⟩
  obtain ⟨C, hC⟩ : ∃ C, ch.length = C := ⟨_, rfl⟩
  rw [hN] at hs ⊢
  rw [hC] at hc ⊢
  obtain ⟨g, hg⟩ : ∃ g, w.heap.size = g := ⟨_, rfl⟩
  obtain ⟨W1, hW1⟩ : ∃ X, w.alloc (.cells #[.int .i64 mn, .int .i64 mx, .int .i64 rt, .slice A N c, .slice B C c2] 58) = X := ⟨_, rfl⟩
  have hb1 : Below w.heap.size w W1 := by rw [← hW1]; exact al1 _ _
  have hx1 : W1.heap[g]? = some (.cells #[.int .i64 mn, .int .i64 mx, .int .i64 rt, .slice A N c, .slice B C c2] 58) := by rw [← hW1, ← hg]; exact heap_alloc_new w _
  have HFT := hid (fit_any mn mx rt A B N c C c2 W1)
  have HS := hid hs
  have HC := hid hc
  have HN := hid hN
  have HCC := hid hC
  have HB1 := hid hb1
  have HX1 := hid hx1
  have HW1 := hid hW1
  have HG := hid hg
  have x0 := cell_of_row _ _ 0 _ _ _ HX1.out
  have x1 := cell_of_row _ _ 1 _ _ _ HX1.out
  have x2 := cell_of_row _ _ 2 _ _ _ HX1.out
  have x3 := cell_of_row _ _ 3 _ _ _ HX1.out
  have x4 := cell_of_row _ _ 4 _ _ _ HX1.out
  clear hs hc hN hC hb1 hx1 hW1 hg 
  go_enter Try.func9, Try.ntmps9
  go_wp2_with fail
  rw [HW1.out, HG.out]
  refine HFT.out.mono ?_
  rintro e w2 ⟨rfl, hb2⟩
  have HX2 := hid ((hb2.block _ (box_lt HX1.out)).trans HX1.out)
  have HB2 := hid (HB1.out.trans (hb2.mono HB1.out.size))
  clear hb2 HFT x0 x1 x2 x3 x4
  have x0 := cell_of_row _ _ 0 _ _ _ HX2.out
  have x1 := cell_of_row _ _ 1 _ _ _ HX2.out
  have x2 := cell_of_row _ _ 2 _ _ _ HX2.out
  have x3 := cell_of_row _ _ 3 _ _ _ HX2.out
  have x4 := cell_of_row _ _ 4 _ _ _ HX2.out
  by_cases hf : fitB mn mx rt N C = true
  rotate_left
  · have hf' : fitB mn mx rt N C = false := by simpa using hf
    rw [hf']
    go_wp2_with fail
    have HAW := hid (awake_any w2)
    refine HAW.out.mono ?_
    rintro e w3 ⟨rfl, hb3⟩
    go_wp2_with fail
    go_ret
    exact ⟨rfl, HB2.out.trans (hb3.mono HB2.out.size)⟩
  rw [hf]
  by_cases hrt : rt = 0
  · have dr : (rt == 0) = true := by rw [beq_iff_eq]; exact hrt
    go_wp2_with fail
    have HAW := hid (awake_any w2)
    refine HAW.out.mono ?_
    rintro e w3 ⟨rfl, hb3⟩
    go_wp2_with fail
    go_ret
    exact ⟨rfl, HB2.out.trans (hb3.mono HB2.out.size)⟩
  have dr : (rt == 0) = false := by rw [beq_eq_false_iff_ne]; exact hrt
  by_cases hN0 : N = 0
  · have dN : ((N : Int) == 0) = true := by rw [beq_iff_eq]; omega
    go_wp2_with fail
    have HAW := hid (awake_any w2)
    refine HAW.out.mono ?_
    rintro e w3 ⟨rfl, hb3⟩
    go_wp2_with fail
    go_ret
    exact ⟨rfl, HB2.out.trans (hb3.mono HB2.out.size)⟩
  have dN : ((N : Int) == 0) = false := by rw [beq_eq_false_iff_ne]; omega
  unfold fitB at hf
  have hf' := of_decide_eq_true hf
  obtain ⟨h0, h1, h2, h3, h4, hn20, hc100⟩ := hf'
  clear hf
  obtain ⟨r, hr⟩ : ∃ r, runK mn mx rt ch sts N = r := ⟨_, rfl⟩
  have HI : Hid (InvR mn mx rt ch N r) := hid (by rw [← hr]; exact runK_inv mn mx rt ch sts h0 h1 h2 h3 h4 (by rw [HN.out]; exact hn20) N (by rw [HN.out]; exact Nat.le_refl _))
  have HRN := hid (run_any mn mx rt sts _ ch _ w2 (HS.out.below HB2.out) (HC.out.below HB2.out) h0 h1 h2 h3 h4 (by rw [HN.out]; exact hn20) (by rw [HCC.out]; exact hc100))
  rw [HN.out, hr] at HRN
  have HR := hid hr
  clear hr

  go_wp2_with fail
  refine HRN.out.mono ?_
  rintro e w3 ⟨v, tv, iv, kv, rfl, ⟨fv, vs, rfl, ho3, hv3, hp3⟩, ht3, hb3⟩
  obtain ⟨fA, fc, rfl⟩ := own_form69 ho3
  obtain ⟨q, hq⟩ : ∃ q, vs.length = q := ⟨_, rfl⟩
  rw [hq] at ho3
  unfold vLk
  dsimp only
  rw [hq]
  obtain ⟨m, hm⟩ : ∃ m, w3.heap.size = m := ⟨_, rfl⟩
  obtain ⟨W3, hW3⟩ : ∃ X, w3.alloc (.cells #[.int .i64 r.s.mn, .int .i64 r.s.mx, .int .i64 r.s.rt, .bool r.s.dn, .int .i64 r.s.idle, .int .i64 r.s.next, .slice fA q fc] 26) = X := ⟨_, rfl⟩
  have hz : Below w3.heap.size w3 W3 := by rw [← hW3]; exact al1 _ _
  have HM3 : Hid (W3.heap[m]? = some (.cells #[.int .i64 r.s.mn, .int .i64 r.s.mx, .int .i64 r.s.rt, .bool r.s.dn, .int .i64 r.s.idle, .int .i64 r.s.next, .slice fA q fc] 26)) := hid (by rw [← hW3, ← hm]; exact heap_alloc_new _ _)
  have HX3 := hid ((hz.block _ (Nat.lt_of_lt_of_le (box_lt HX2.out) hb3.size)).trans ((hb3.block _ (box_lt HX2.out)).trans HX2.out))
  have HO3 := hid (own_keep ho3 (keep_below hz))
  have HV3 := hid hv3
  have HQ := hid hq
  have HP3 := hid (fun x hx => (hp3 x hx).keep (keep_below hz))
  have HT3 := hid (ht3.keep (keep_below hz))
  have HB3 := hid (HB2.out.trans ((hb3.trans (hz.mono hb3.size)).mono HB2.out.size))
  have hgm : g ≤ m := by rw [← HG.out, ← hm]; exact (HB2.out.trans (hb3.mono HB2.out.size)).size
  have hgl : g < m := by rw [← hm]; exact Nat.lt_of_lt_of_le (box_lt HX2.out) hb3.size
  have HW3 := hid hW3
  have HM := hid hm
  clear hW3 hz ho3 hv3 hq hp3 ht3 hm HRN hb3
  clear x0 x1 x2 x3 x4
  have hts : r.ts.length = N := HI.out.lts
  have hids : r.ids.length = N := HI.out.lid
  have HTI : Hid (Ints W3 tv r.ts) := hid (ints_of_own HT3.out.oa (fun x hx => by have := HI.out.ts2 x hx; unfold R64; omega))
  have HII : Hid (Ints W3 iv r.ids) := hid (ints_of_own HT3.out.ob (fun x hx => by have := HI.out.id2 x hx; unfold R64; omega))
  obtain ⟨tA, tc, rfl⟩ := ints_form HTI.out
  obtain ⟨iA, ic, rfl⟩ := ints_form HII.out
  rw [hts] at HTI ⊢
  rw [hids] at HII ⊢
  go_upto_region 6 with fail
  rw [HW3.out, HM.out]
  have x1 := cell_of_row _ _ 3 _ _ _ HX3.out
  have t1 := tmod_nat fn N
  have t2 := tmod_nat tn N
  go_quiet (fail)
  go_upto_region 7 with fail
  obtain ⟨a0, ha0⟩ : ∃ a : Nat, (fn : Int) % (N : Int) = (a : Int) := ⟨fn % N, rfl⟩
  obtain ⟨b0, hb0⟩ : ∃ a : Nat, (tn : Int) % (N : Int) = (a : Int) := ⟨tn % N, rfl⟩
  have haN : a0 < N := by have := Int.emod_lt_of_pos (fn : Int) (show (0 : Int) < (N : Int) by omega); omega
  have hbN : b0 < N := by have := Int.emod_lt_of_pos (tn : Int) (show (0 : Int) < (N : Int) by omega); omega
  rw [ha0, hb0]
  clear ha0 hb0 t1 t2
  by_cases hab : b0 < a0
  · have hab' : (b0 : Int) < (a0 : Int) := by omega
    obtain ⟨a, rfl⟩ : ∃ a, a = b0 := ⟨_, rfl⟩
    obtain ⟨b, rfl⟩ : ∃ b, b = a0 := ⟨_, rfl⟩
    have hle : a ≤ b := by omega
    go_upto_region 11 with fail
    have HX4 := hid (show (W3.drewN nq).heap[g]? = some (.cells #[.int .i64 mn, .int .i64 mx, .int .i64 rt, .slice A N c, .slice B C c2] 58) from HX3.out)
    have HB4 := hid (below_both_drewN HB3.out nq)
    have HT4 := hid (HTI.out.below (below_both_drewN (Below.refl _ W3) nq))
    have HI4 := hid (HII.out.below (below_both_drewN (Below.refl _ W3) nq))
    obtain ⟨W4, hW4⟩ : ∃ X, W3.drewN nq = X := ⟨_, rfl⟩
    rw [hW4] at HX4 HB4 HT4 HI4 ⊢
    clear hW4 x1
    go_loopw [14, 15] (fun bv jv wr => ∃ n : Nat, a + n ≤ b + 1 ∧ bv = .int .i64 ((bsum sts a n : Nat) : Int) ∧ jv = .int .i64 ((a + n : Nat) : Int) ∧ Hid (Below W4.heap.size W4 wr)) (fun _ j _ => b + 1 - (Go.RowKit.intOf j).toNat)
    case atStart => exact ⟨0, by omega, rfl, rfl, hid (Below.refl _ _)⟩
    case round =>
      obtain ⟨n, hn, rfl, rfl, HBr⟩ := hrel
      have HXr := hid ((HBr.out.block _ (box_lt HX4.out)).trans HX4.out)
      by_cases hnb : a + n ≤ b
      · have hnb' : ((a + n : Nat) : Int) ≤ (b : Int) := by omega
        obtain ⟨st, hst⟩ : ∃ st, sts[a + n]? = some st := ⟨sts[a + n]'(by rw [HN.out]; omega), List.getElem?_eq_getElem _⟩
        obtain ⟨sb, so, rfl, hsb, hsc⟩ := sts_cells (HS.out.below (HB4.out.trans (HBr.out.mono HB4.out.size))) (by rw [HN.out]; omega)
        obtain ⟨q0, q1⟩ := hsc (a + n) st hst
        have hsr := HS.out.1 st (List.mem_of_getElem? hst)
        have x3 := cell_of_row _ _ 3 _ _ _ HXr.out
        have hpl := plen_at hst
        have hple := plen_le (sts := sts) (a + n)
        have hbs := bsum_le (sts := sts) a n
        have HBS : Hid (bsum sts a (n + 1) = bsum sts a n + plen sts (a + n)) := hid rfl
        obtain ⟨sz, wt⟩ := st
        dsimp only at q0 q1 hsr hpl
        obtain ⟨y, hy⟩ : ∃ y, bsum sts a n = y := ⟨_, rfl⟩
        obtain ⟨z, hz⟩ : ∃ z, plen sts (a + n) = z := ⟨_, rfl⟩
        rw [hz] at hpl hple
        rw [hy] at hbs ⊢
        rw [hy, hz] at HBS
        obtain ⟨j, hj⟩ : ∃ j, a + n = j := ⟨_, rfl⟩
        have HJ := hid hj
        rw [hj] at q0 q1 hnb' hnb ⊢
        have hjN : (j : Int) < (N : Int) := by omega
        have hjN' : j < N := by omega
        have es : IntKind.i64.wrap ((y : Int) + (z : Int)) = ((y + z : Nat) : Int) := by rw [IntKind.wrap_i64]; omega
        have HPY := hid (payload_any sz wt j wr (by omega) (by omega))
        rw [hj] at hpl
        clear hsc hst hy hz hj
        go_wp2_with fail
        refine HPY.out.mono ?_
        rintro e w5 ⟨v5, rfl, ho5, hb5⟩
        obtain ⟨dA, dc, rfl⟩ := own_form ho5
        rw [← hpl]
        have HB5 := hid (HBr.out.trans (hb5.mono HBr.out.size))
        clear ho5 hb5 HPY
        go_wp2_with fail
        go_roundw
        case rel => exact ⟨n + 1, by have := HJ.out; omega, by rw [HBS.out]; go_num, by have := HJ.out; go_num, HB5⟩
        case measure => simp [Go.RowKit.intOf]; omega
      · obtain rfl : n = b - a + 1 := by omega
        have hnb' : ¬ ((a + (b - a + 1) : Nat) : Int) ≤ (b : Int) := by omega
        have HRO := hid (rate_ok (ch := ch) h0 h1 h2 (show 1 ≤ rt by omega) h4 (by rw [HN.out]; exact hn20) a (b - a) (by rw [HN.out]; omega))
        rw [show a + (b - a) + 1 = b + 1 by omega] at HRO
        have HAT := hid (fun j (hj : j < N) => runK_at (ch := ch) h0 h1 h2 h3 h4 (by rw [HN.out]; exact hn20) N (by rw [HN.out]; exact Nat.le_refl _) j hj)
        rw [HR.out] at HAT
        obtain ⟨bt, ot, rfl, hbt, hct⟩ := ints_cells (HT4.out.below HBr.out) (by rw [hts]; omega)
        obtain ⟨bi, oi, rfl, hbi, hci⟩ := ints_cells (HI4.out.below HBr.out) (by rw [hids]; omega)
        obtain ⟨T, hT⟩ : ∃ T, tms mn mx rt ch sts (a + 1) = T := ⟨_, rfl⟩
        obtain ⟨I, hI⟩ : ∃ I, idl mn mx rt ch sts (b + 1) = I := ⟨_, rfl⟩
        obtain ⟨I0, hI0⟩ : ∃ I, idl mn mx rt ch sts a = I := ⟨_, rfl⟩
        have p0 := hct a T (by rw [(HAT.out a (by omega)).1, hT])
        have p1 := hci b I (by rw [(HAT.out b (by omega)).2.1, hI])
        rw [hT, hI, hI0] at HRO
        have haN' : (a : Int) < (N : Int) := by omega
        have hbN' : (b : Int) < (N : Int) := by omega
        obtain ⟨S, hS⟩ : ∃ S, bsum sts a (b - a + 1) = S := ⟨_, rfl⟩
        have hSl := bsum_le (sts := sts) a (b - a + 1)
        rw [hS] at HRO hSl ⊢
        have HXr := hid ((HBr.out.block _ (box_lt HX4.out)).trans HX4.out)
        have HBB := hid (HB4.out.trans (HBr.out.mono HB4.out.size))
        have x2 := cell_of_row _ _ 2 _ _ _ HXr.out
        have hTr := HI.out.ts2 T (List.mem_of_getElem? (i := a) (by rw [(HAT.out a (by omega)).1, hT]))
        have hIr := HI.out.id2 I (List.mem_of_getElem? (i := b) (by rw [(HAT.out b (by omega)).2.1, hI]))
        have hI0r : 0 ≤ I0 ∧ I0 ≤ 1000 := by
          by_cases ha : a = 0
          · have e : idl mn mx rt ch sts a = 0 := by rw [ha]; rfl
            omega
          · have h := (HAT.out (a - 1) (by omega)).2.1
            rw [show a - 1 + 1 = a by omega, hI0] at h
            exact HI.out.id2 I0 (List.mem_of_getElem? h)
        obtain ⟨bg, hbg⟩ : ∃ bg, max T I0 = bg := ⟨_, rfl⟩
        rw [hbg] at HRO
        have dle : decide ((S : Int) ≤ (I - bg) * rt) = true := decide_eq_true HRO.out
        have es1 : IntKind.i64.wrap (I - bg) = I - bg := by rw [IntKind.wrap_i64]; omega
        have hm1 : (I - bg) * rt ≤ 1000 * 100 := by
          refine Int.le_trans (Int.mul_le_mul_of_nonneg_right (show I - bg ≤ 1000 by omega) (by omega)) ?_
          exact Int.mul_le_mul_of_nonneg_left h4 (by omega)
        have hm0 : 0 ≤ (I - bg) * rt := Int.le_trans (by omega) HRO.out
        have es2 : IntKind.i64.wrap ((I - bg) * rt) = (I - bg) * rt := by rw [IntKind.wrap_i64]; omega
        clear hct
        by_cases hz : a = 0
        · have ez : I0 = 0 := by rw [← hI0, hz]; rfl
          have dz : decide ((0 : Int) < (a : Int)) = false := decide_eq_false (by omega)
          have dz' : decide (0 < a) = false := decide_eq_false (by omega)
          obtain rfl : bg = T := by omega
          clear hz hci
          go_upto_region 17 with fail
          have HAW := hid (awake_any wr.drew)
          go_region_held3 (fun X => X.cell? ⟨bi, oi + b, none⟩ = some (.int .i64 I) ∧ X.cell? ⟨g, 2, none⟩ = some (.int .i64 rt)) (go_keep) (first | (go_at_call 12; refine HAW.out.mono ?_; rintro e w6 ⟨rfl, hb6⟩; have hb7 : Below wr.heap.size wr w6 := (Below.refl _ wr).drew.trans hb6; have p1' := (hb7.cell (p := ⟨bi, oi + b, none⟩) hbi).trans p1; have x2' := (hb7.cell (p := ⟨g, 2, none⟩) (box_lt HXr.out)).trans x2; clear p1 x2))
          go_wp2_with fail
          go_ret
          exact ⟨rfl, HBB.out.trans (hb7.mono HBB.out.size)⟩
        · have dz : decide ((0 : Int) < (a : Int)) = true := decide_eq_true (by omega)
          have dz' : decide (0 < a) = true := decide_eq_true (by omega)
          have ea : IntKind.i64.wrap ((a : Int) - 1) = ((a - 1 : Nat) : Int) := by rw [IntKind.wrap_i64]; omega
          have p2 : wr.cell? ⟨bi, oi + (a - 1), none⟩ = some (.int .i64 I0) := hci (a - 1) I0 (by have h := (HAT.out (a - 1) (by omega)).2.1; rw [show a - 1 + 1 = a by omega, hI0] at h; exact h)
          have hN1 : ((a - 1 : Nat) : Int) < (N : Int) := by omega
          clear hci
          obtain ⟨a1, ha1⟩ : ∃ a1, a - 1 = a1 := ⟨_, rfl⟩
          rw [ha1] at p2 ea hN1
          have hN1' : a1 < N := by omega
          have hmx : max T I0 = bg := hbg
          go_upto_region 17 with fail
          have HAW := hid (awake_any wr.drew)
          go_region_held3 (fun X => X.cell? ⟨bi, oi + b, none⟩ = some (.int .i64 I) ∧ X.cell? ⟨g, 2, none⟩ = some (.int .i64 rt)) (go_keep) (first | (go_at_call 12; refine HAW.out.mono ?_; rintro e w6 ⟨rfl, hb6⟩; have hb7 : Below wr.heap.size wr w6 := (Below.refl _ wr).drew.trans hb6; have p1' := (hb7.cell (p := ⟨bi, oi + b, none⟩) hbi).trans p1; have x2' := (hb7.cell (p := ⟨g, 2, none⟩) (box_lt HXr.out)).trans x2; clear p1 x2))
          go_wp2_with fail
          go_ret
          exact ⟨rfl, HBB.out.trans (hb7.mono HBB.out.size)⟩
  · have hab' : (a0 : Int) ≤ (b0 : Int) := by omega
    obtain ⟨a, rfl⟩ : ∃ a, a = a0 := ⟨_, rfl⟩
    obtain ⟨b, rfl⟩ : ∃ b, b = b0 := ⟨_, rfl⟩
    have hle : a ≤ b := by omega
    go_upto_region 11 with fail
    have HX4 := hid (show (W3.drewN nq).heap[g]? = some (.cells #[.int .i64 mn, .int .i64 mx, .int .i64 rt, .slice A N c, .slice B C c2] 58) from HX3.out)
    have HB4 := hid (below_both_drewN HB3.out nq)
    have HT4 := hid (HTI.out.below (below_both_drewN (Below.refl _ W3) nq))
    have HI4 := hid (HII.out.below (below_both_drewN (Below.refl _ W3) nq))
    obtain ⟨W4, hW4⟩ : ∃ X, W3.drewN nq = X := ⟨_, rfl⟩
    rw [hW4] at HX4 HB4 HT4 HI4 ⊢
    clear hW4 x1
    go_loopw [14, 15] (fun bv jv wr => ∃ n : Nat, a + n ≤ b + 1 ∧ bv = .int .i64 ((bsum sts a n : Nat) : Int) ∧ jv = .int .i64 ((a + n : Nat) : Int) ∧ Hid (Below W4.heap.size W4 wr)) (fun _ j _ => b + 1 - (Go.RowKit.intOf j).toNat)
    case atStart => exact ⟨0, by omega, rfl, rfl, hid (Below.refl _ _)⟩
    case round =>
      obtain ⟨n, hn, rfl, rfl, HBr⟩ := hrel
      have HXr := hid ((HBr.out.block _ (box_lt HX4.out)).trans HX4.out)
      by_cases hnb : a + n ≤ b
      · have hnb' : ((a + n : Nat) : Int) ≤ (b : Int) := by omega
        obtain ⟨st, hst⟩ : ∃ st, sts[a + n]? = some st := ⟨sts[a + n]'(by rw [HN.out]; omega), List.getElem?_eq_getElem _⟩
        obtain ⟨sb, so, rfl, hsb, hsc⟩ := sts_cells (HS.out.below (HB4.out.trans (HBr.out.mono HB4.out.size))) (by rw [HN.out]; omega)
        obtain ⟨q0, q1⟩ := hsc (a + n) st hst
        have hsr := HS.out.1 st (List.mem_of_getElem? hst)
        have x3 := cell_of_row _ _ 3 _ _ _ HXr.out
        have hpl := plen_at hst
        have hple := plen_le (sts := sts) (a + n)
        have hbs := bsum_le (sts := sts) a n
        have HBS : Hid (bsum sts a (n + 1) = bsum sts a n + plen sts (a + n)) := hid rfl
        obtain ⟨sz, wt⟩ := st
        dsimp only at q0 q1 hsr hpl
        obtain ⟨y, hy⟩ : ∃ y, bsum sts a n = y := ⟨_, rfl⟩
        obtain ⟨z, hz⟩ : ∃ z, plen sts (a + n) = z := ⟨_, rfl⟩
        rw [hz] at hpl hple
        rw [hy] at hbs ⊢
        rw [hy, hz] at HBS
        obtain ⟨j, hj⟩ : ∃ j, a + n = j := ⟨_, rfl⟩
        have HJ := hid hj
        rw [hj] at q0 q1 hnb' hnb ⊢
        have hjN : (j : Int) < (N : Int) := by omega
        have hjN' : j < N := by omega
        have es : IntKind.i64.wrap ((y : Int) + (z : Int)) = ((y + z : Nat) : Int) := by rw [IntKind.wrap_i64]; omega
        have HPY := hid (payload_any sz wt j wr (by omega) (by omega))
        rw [hj] at hpl
        clear hsc hst hy hz hj
        go_wp2_with fail
        refine HPY.out.mono ?_
        rintro e w5 ⟨v5, rfl, ho5, hb5⟩
        obtain ⟨dA, dc, rfl⟩ := own_form ho5
        rw [← hpl]
        have HB5 := hid (HBr.out.trans (hb5.mono HBr.out.size))
        clear ho5 hb5 HPY
        go_wp2_with fail
        go_roundw
        case rel => exact ⟨n + 1, by have := HJ.out; omega, by rw [HBS.out]; go_num, by have := HJ.out; go_num, HB5⟩
        case measure => simp [Go.RowKit.intOf]; omega
      · obtain rfl : n = b - a + 1 := by omega
        have hnb' : ¬ ((a + (b - a + 1) : Nat) : Int) ≤ (b : Int) := by omega
        have HRO := hid (rate_ok (ch := ch) h0 h1 h2 (show 1 ≤ rt by omega) h4 (by rw [HN.out]; exact hn20) a (b - a) (by rw [HN.out]; omega))
        rw [show a + (b - a) + 1 = b + 1 by omega] at HRO
        have HAT := hid (fun j (hj : j < N) => runK_at (ch := ch) h0 h1 h2 h3 h4 (by rw [HN.out]; exact hn20) N (by rw [HN.out]; exact Nat.le_refl _) j hj)
        rw [HR.out] at HAT
        obtain ⟨bt, ot, rfl, hbt, hct⟩ := ints_cells (HT4.out.below HBr.out) (by rw [hts]; omega)
        obtain ⟨bi, oi, rfl, hbi, hci⟩ := ints_cells (HI4.out.below HBr.out) (by rw [hids]; omega)
        obtain ⟨T, hT⟩ : ∃ T, tms mn mx rt ch sts (a + 1) = T := ⟨_, rfl⟩
        obtain ⟨I, hI⟩ : ∃ I, idl mn mx rt ch sts (b + 1) = I := ⟨_, rfl⟩
        obtain ⟨I0, hI0⟩ : ∃ I, idl mn mx rt ch sts a = I := ⟨_, rfl⟩
        have p0 := hct a T (by rw [(HAT.out a (by omega)).1, hT])
        have p1 := hci b I (by rw [(HAT.out b (by omega)).2.1, hI])
        rw [hT, hI, hI0] at HRO
        have haN' : (a : Int) < (N : Int) := by omega
        have hbN' : (b : Int) < (N : Int) := by omega
        obtain ⟨S, hS⟩ : ∃ S, bsum sts a (b - a + 1) = S := ⟨_, rfl⟩
        have hSl := bsum_le (sts := sts) a (b - a + 1)
        rw [hS] at HRO hSl ⊢
        have HXr := hid ((HBr.out.block _ (box_lt HX4.out)).trans HX4.out)
        have HBB := hid (HB4.out.trans (HBr.out.mono HB4.out.size))
        have x2 := cell_of_row _ _ 2 _ _ _ HXr.out
        have hTr := HI.out.ts2 T (List.mem_of_getElem? (i := a) (by rw [(HAT.out a (by omega)).1, hT]))
        have hIr := HI.out.id2 I (List.mem_of_getElem? (i := b) (by rw [(HAT.out b (by omega)).2.1, hI]))
        have hI0r : 0 ≤ I0 ∧ I0 ≤ 1000 := by
          by_cases ha : a = 0
          · have e : idl mn mx rt ch sts a = 0 := by rw [ha]; rfl
            omega
          · have h := (HAT.out (a - 1) (by omega)).2.1
            rw [show a - 1 + 1 = a by omega, hI0] at h
            exact HI.out.id2 I0 (List.mem_of_getElem? h)
        obtain ⟨bg, hbg⟩ : ∃ bg, max T I0 = bg := ⟨_, rfl⟩
        rw [hbg] at HRO
        have dle : decide ((S : Int) ≤ (I - bg) * rt) = true := decide_eq_true HRO.out
        have es1 : IntKind.i64.wrap (I - bg) = I - bg := by rw [IntKind.wrap_i64]; omega
        have hm1 : (I - bg) * rt ≤ 1000 * 100 := by
          refine Int.le_trans (Int.mul_le_mul_of_nonneg_right (show I - bg ≤ 1000 by omega) (by omega)) ?_
          exact Int.mul_le_mul_of_nonneg_left h4 (by omega)
        have hm0 : 0 ≤ (I - bg) * rt := Int.le_trans (by omega) HRO.out
        have es2 : IntKind.i64.wrap ((I - bg) * rt) = (I - bg) * rt := by rw [IntKind.wrap_i64]; omega
        clear hct
        by_cases hz : a = 0
        · have ez : I0 = 0 := by rw [← hI0, hz]; rfl
          have dz : decide ((0 : Int) < (a : Int)) = false := decide_eq_false (by omega)
          have dz' : decide (0 < a) = false := decide_eq_false (by omega)
          obtain rfl : bg = T := by omega
          clear hz hci
          go_upto_region 17 with fail
          have HAW := hid (awake_any wr.drew)
          go_region_held3 (fun X => X.cell? ⟨bi, oi + b, none⟩ = some (.int .i64 I) ∧ X.cell? ⟨g, 2, none⟩ = some (.int .i64 rt)) (go_keep) (first | (go_at_call 12; refine HAW.out.mono ?_; rintro e w6 ⟨rfl, hb6⟩; have hb7 : Below wr.heap.size wr w6 := (Below.refl _ wr).drew.trans hb6; have p1' := (hb7.cell (p := ⟨bi, oi + b, none⟩) hbi).trans p1; have x2' := (hb7.cell (p := ⟨g, 2, none⟩) (box_lt HXr.out)).trans x2; clear p1 x2))
          go_wp2_with fail
          go_ret
          exact ⟨rfl, HBB.out.trans (hb7.mono HBB.out.size)⟩
        · have dz : decide ((0 : Int) < (a : Int)) = true := decide_eq_true (by omega)
          have dz' : decide (0 < a) = true := decide_eq_true (by omega)
          have ea : IntKind.i64.wrap ((a : Int) - 1) = ((a - 1 : Nat) : Int) := by rw [IntKind.wrap_i64]; omega
          have p2 : wr.cell? ⟨bi, oi + (a - 1), none⟩ = some (.int .i64 I0) := hci (a - 1) I0 (by have h := (HAT.out (a - 1) (by omega)).2.1; rw [show a - 1 + 1 = a by omega, hI0] at h; exact h)
          have hN1 : ((a - 1 : Nat) : Int) < (N : Int) := by omega
          clear hci
          obtain ⟨a1, ha1⟩ : ∃ a1, a - 1 = a1 := ⟨_, rfl⟩
          rw [ha1] at p2 ea hN1
          have hN1' : a1 < N := by omega
          have hmx : max T I0 = bg := hbg
          go_upto_region 17 with fail
          have HAW := hid (awake_any wr.drew)
          go_region_held3 (fun X => X.cell? ⟨bi, oi + b, none⟩ = some (.int .i64 I) ∧ X.cell? ⟨g, 2, none⟩ = some (.int .i64 rt)) (go_keep) (first | (go_at_call 12; refine HAW.out.mono ?_; rintro e w6 ⟨rfl, hb6⟩; have hb7 : Below wr.heap.size wr w6 := (Below.refl _ wr).drew.trans hb6; have p1' := (hb7.cell (p := ⟨bi, oi + b, none⟩) hbi).trans p1; have x2' := (hb7.cell (p := ⟨g, 2, none⟩) (box_lt HXr.out)).trans x2; clear p1 x2))
          go_wp2_with fail
          go_ret
          exact ⟨rfl, HBB.out.trans (hb7.mono HBB.out.size)⟩
end Go.Proofs.Ytacpejoablcffaa
