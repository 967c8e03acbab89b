/- The law LinkOrders walked. -/
import Derived.Test.YtacpejoablcffaaZc
namespace Go.Proofs.Ytacpejoablcffaa
open Go.RowKit Go.Lib

set_option maxHeartbeats 8000000 in
set_option maxRecDepth 100000 in
theorem orders_walk (mn mx rt : Int) (sv cv : Value) (sts : List (Nat × Nat)) (ch : List Int) (w : World) (hs : Sts w sv sts) (hc : Ints w cv ch) :
    Calls Try.prog 8 #[.agg #[.int .i64 mn, .int .i64 mx, .int .i64 rt, sv, cv]] w (TrueQ w) := by
  obtain ⟨A, c, rfl⟩ := sts_form hs
  obtain ⟨B, c2, rfl⟩ := ints_form hc
  obtain ⟨N, hN⟩ : ∃ N, sts.length = N := ⟨_, rfl⟩
  obtain ⟨C, hC⟩ : ∃ C, ch.length = C := ⟨_, rfl⟩
  rw [hN] at hs ⊢
  rw [hC]
  clear hc hC ch
  obtain ⟨g, hg⟩ : ∃ g, w.heap.size = g := ⟨_, rfl⟩
  obtain ⟨W0, hW0⟩ : ∃ X, w.alloc (.cells #[.int .i64 mn, .int .i64 mx, .int .i64 rt, .slice A N c, .slice B C c2] 58) = X := ⟨_, rfl⟩
  have hb0 : Below w.heap.size w W0 := by rw [← hW0]; exact al1 _ _
  have hx0 : W0.heap[g]? = some (.cells [.int .i64 mn, .int .i64 mx, .int .i64 rt, .slice A N c, .slice B C c2].toArray 58) := by rw [← hW0, ← hg]; exact heap_alloc_new w _
  obtain ⟨W1, hW1⟩ : ∃ X, (W0.setCell ⟨g, 1, none⟩ (.int .i64 mn)).setCell ⟨g, 4, none⟩ (.slice none 0 0) = X := ⟨_, rfl⟩
  have hb1 : Below w.heap.size w W1 := by rw [← hW1]; exact (hb0.setCell (Nat.le_of_eq hg) _).setCell (Nat.le_of_eq hg) _
  have hx1 : W1.heap[g]? = some (.cells #[.int .i64 mn, .int .i64 mn, .int .i64 rt, .slice A N c, .slice none 0 0] 58) := by rw [← hW1]; exact box_set (box_set hx0 1 _) 4 _
  have HFT := hid (fit_any mn mn rt A none N c 0 0 W1)
  have HS := hid hs
  have HN := hid hN
  have HB1 := hid hb1
  have HX1 := hid hx1
  have HX0 := hid hx0
  have HW1 := hid hW1
  have HW0 := hid hW0
  have HG := hid hg
  have x0 := cell_of_row _ _ 0 _ _ _ HX0.out
  have x1 := cell_of_row _ _ 1 _ _ _ HX0.out
  have x4 := cell_of_row _ _ 4 _ _ _ HX0.out
  have f1 := box_fr HX0.out 1
  have f4 := box_fr HX0.out 4
  clear hs hN hb0 hx0 hW0 hb1 hx1 hW1 hg
  go_enter Try.func8, Try.ntmps8
  go_upto_region 1 with fail
  rw [HW0.out, HG.out]
  go_upto_region 2 with fail
  rw [HW1.out]
  clear x0 x1 x4 f1 f4
  have x0 := cell_of_row _ _ 0 _ _ _ HX1.out
  have x1 := cell_of_row _ _ 1 _ _ _ HX1.out
  have x2 := cell_of_row _ _ 2 _ _ _ HX1.out
  have x3 := cell_of_row _ _ 3 _ _ _ HX1.out
  have x4 := cell_of_row _ _ 4 _ _ _ HX1.out
  go_wp2_with fail
  refine HFT.out.mono ?_
  rintro e w2 ⟨rfl, hb2⟩
  have HX2 := hid ((hb2.block _ (box_lt HX1.out)).trans HX1.out)
  have HB2 := hid (HB1.out.trans (hb2.mono HB1.out.size))
  clear hb2 HFT x0 x1 x2 x3 x4
  by_cases hf : fitB mn mn rt N 0 = true
  rotate_left
  · have hf' : fitB mn mn rt N 0 = false := by simpa using hf
    rw [hf']
    go_wp2_with fail
    have HAW := hid (awake_any w2)
    refine HAW.out.mono ?_
    rintro e w3 ⟨rfl, hb3⟩
    go_wp2_with fail
    go_ret
    exact ⟨rfl, HB2.out.trans (hb3.mono HB2.out.size)⟩
  rw [hf]
  unfold fitB at hf
  obtain ⟨h0, _, h2, h3, h4, hn20, _⟩ := of_decide_eq_true hf
  obtain ⟨r, hr⟩ : ∃ r, runK mn mn rt [] sts N = r := ⟨_, rfl⟩
  have HI : Hid (InvR mn mn rt [] N r) := hid (by rw [← hr]; exact runK_inv mn mn rt [] sts h0 (Int.le_refl _) h2 h3 h4 (by rw [HN.out]; exact hn20) N (by rw [HN.out]; exact Nat.le_refl _))
  have HRN := hid (run_any mn mn rt sts _ [] (.slice none 0 0) w2 (HS.out.below HB2.out) ⟨fun x hx => by (cases hx), nilOk_nil, arr_nil _ _⟩ h0 (Int.le_refl _) h2 h3 h4 (by rw [HN.out]; exact hn20) (by simp))
  rw [HN.out, hr] at HRN
  have HR := hid hr
  clear hr
  have x0 := cell_of_row _ _ 0 _ _ _ HX2.out
  have x1 := cell_of_row _ _ 1 _ _ _ HX2.out
  have x2 := cell_of_row _ _ 2 _ _ _ HX2.out
  have x3 := cell_of_row _ _ 3 _ _ _ HX2.out
  have x4 := cell_of_row _ _ 4 _ _ _ HX2.out
  go_wp2_with fail
  refine HRN.out.mono ?_
  rintro e w3 ⟨v, tv, iv, kv, rfl, ⟨fv, vs, rfl, ho3, hv3, hp3⟩, ht3, hb3⟩
  obtain ⟨fA, fc, rfl⟩ := own_form69 ho3
  obtain ⟨q, hq⟩ : ∃ q, vs.length = q := ⟨_, rfl⟩
  rw [hq] at ho3
  unfold vLk
  dsimp only
  rw [hq]
  obtain ⟨m, hm⟩ : ∃ m, w3.heap.size = m := ⟨_, rfl⟩
  obtain ⟨W3, hW3⟩ : ∃ X, w3.alloc (.cells #[.int .i64 r.s.mn, .int .i64 r.s.mx, .int .i64 r.s.rt, .bool r.s.dn, .int .i64 r.s.idle, .int .i64 r.s.next, .slice fA q fc] 26) = X := ⟨_, rfl⟩
  have hz : Below w3.heap.size w3 W3 := by rw [← hW3]; exact al1 _ _
  have HM3 : Hid (W3.heap[m]? = some (.cells #[.int .i64 r.s.mn, .int .i64 r.s.mx, .int .i64 r.s.rt, .bool r.s.dn, .int .i64 r.s.idle, .int .i64 r.s.next, .slice fA q fc] 26)) := hid (by rw [← hW3, ← hm]; exact heap_alloc_new _ _)
  have HX3 := hid ((hz.block _ (Nat.lt_of_lt_of_le (box_lt HX2.out) hb3.size)).trans ((hb3.block _ (box_lt HX2.out)).trans HX2.out))
  have HO3 := hid (own_keep ho3 (keep_below hz))
  have HV3 := hid hv3
  have HQ := hid hq
  have HP3 := hid (fun x hx => (hp3 x hx).keep (keep_below hz))
  have HT3 := hid (ht3.keep (keep_below hz))
  have HB3 := hid (HB2.out.trans ((hb3.trans (hz.mono hb3.size)).mono HB2.out.size))
  have hgm : g ≤ m := by rw [← HG.out, ← hm]; exact (HB2.out.trans (hb3.mono HB2.out.size)).size
  have hgl : g < m := by rw [← hm]; exact Nat.lt_of_lt_of_le (box_lt HX2.out) hb3.size
  have HTW := hid ht3
  have HBW3 : Hid (Below w.heap.size w w3) := hid (HB2.out.trans (hb3.mono HB2.out.size))
  have HBZ : Hid (Below m w3 W3) := hid (by rw [← hm]; exact hz)
  have HXW : Hid (w3.heap[g]? = some (.cells #[.int .i64 mn, .int .i64 mn, .int .i64 rt, .slice A N c, .slice none 0 0] 58)) := hid ((hb3.block _ (box_lt HX2.out)).trans HX2.out)
  have HMW := hid hm
  have HW3 := hid hW3
  have HM := hid hm
  clear hW3 hz ho3 hv3 hq hp3 ht3 hm HRN hb3 HT3 HX3 HX2
  clear x0 x1 x2 x3 x4
  have HOK := hid HI.out.ok
  have HL : Hid (r.l = (List.range N).map (flt mn rt sts)) := hid (by rw [← HR.out]; exact (ord_run h0 h2 h3 h4 (by rw [HN.out]; exact hn20) N (by rw [HN.out]; exact Nat.le_refl _)).2.2)
  have HMO := hid (fun (a b : Nat) (hab : a ≤ b) (hb : b ≤ N) => idl_mono (mn := mn) (rt := rt) (sts := sts) h0 h2 h3 h4 (by rw [HN.out]; exact hn20) (a := a) b hab (by rw [HN.out]; exact hb))
  have HAT := hid (fun j (hj : j < N) => (runK_at (ch := []) h0 (Int.le_refl mn) h2 h3 h4 (by rw [HN.out]; exact hn20) N (by rw [HN.out]; exact Nat.le_refl _) j hj).2.1)
  rw [HR.out] at HAT
  have hts : r.ts.length = N := HI.out.lts
  have hids : r.ids.length = N := HI.out.lid
  have hcps : r.cps.length = N := HI.out.lcp
  have HII : Hid (Ints w3 iv r.ids) := hid (ints_of_own HTW.out.ob (fun x hx => by have := HI.out.id2 x hx; unfold R64; omega))
  obtain ⟨tA, tc, rfl⟩ := own_formE HTW.out.oa
  obtain ⟨iA, ic, rfl⟩ := own_formE HTW.out.ob
  obtain ⟨kA, kc, rfl⟩ := own_formE HTW.out.oc
  rw [hts, hids, hcps]
  rw [hids] at HII
  clear HTW hts hcps
  go_upto_region 8 with fail
  rw [HW3.out, HM.out]
  clear hgm
  go_loopw [8] (fun iv wr => ∃ (i d : Nat) (fv : Value) (vs : List Fl), i ≤ N ∧ iv = .int .i64 (i : Int) ∧ Hid (d ≤ i ∧ (d = i ∨ (i < N ∧ idl mn mn rt [] sts (d + 1) = idl mn mn rt [] sts (i + 1)))) ∧ Hid (vs.map core = r.l.drop d) ∧ Hid (wr.heap[m]? = some (.cells #[.int .i64 r.s.mn, .int .i64 r.s.mx, .int .i64 r.s.rt, .bool r.s.dn, .int .i64 r.s.idle, .int .i64 r.s.next, fv] 26)) ∧ Hid (wr.ownsRow 0 69 3 fv vs.length (vs.map cFl).flatten) ∧ Hid (∀ x ∈ vs, Pay wr x) ∧ Hid (Below m w3 wr)) (fun i _ => N - (Lib.intOf i).toNat)
  case atStart => exact ⟨0, 0, _, vs, Nat.zero_le _, rfl, hid ⟨Nat.le_refl _, .inl rfl⟩, hid (by rw [HV3.out]; rfl), HM3, hid (by rw [HQ.out]; exact own_base HO3.out (Nat.zero_le _)), HP3, HBZ⟩
  case round =>
    clear HM3 HO3 HV3 HQ HP3 HBZ
    obtain ⟨i, d, fv, vs, hi, rfl, HD, HV, HMR, HO, HP, HB⟩ := hrel
    obtain ⟨fA2, fc2, rfl⟩ := own_form69 HO.out
    have HXr := hid ((HB.out.block g (by omega)).trans HXW.out)
    have HBr : Hid (Below w.heap.size w wr) := hid (HBW3.out.trans (HB.out.mono (by rw [← HMW.out]; exact HBW3.out.size)))
    have hmr := box_lt HMR.out
    have HFL := hid (fl_of_own HO.out rfl HP.out)
    have hr64 : ∀ x ∈ vs, R64 x.n := fun x hx => by
      have h5 := HOK.out.fld (core x) (List.mem_of_mem_drop (by rw [← HV.out]; exact List.mem_map_of_mem hx))
      have h6 := HOK.out.next
      have e1 : (core x).2.1 = x.n := rfl
      unfold R64
      omega
    have hp64 : ∀ x ∈ vs, x.p.length ≤ 100000 := fun x hx => by
      have h5 := HOK.out.fld (core x) (List.mem_of_mem_drop (by rw [← HV.out]; exact List.mem_map_of_mem hx))
      have e1 : (core x).2.2 = x.p := rfl
      rw [e1] at h5
      omega
    have hvl : vs.length = N - d := by
      have h5 := congrArg List.length HV.out
      rw [List.length_map, List.length_drop, HL.out, List.length_map, List.length_range] at h5
      exact h5
    have hl64 : vs.length ≤ 100000 := by omega
    have HNX := hid (fun X (hX : Below wr.heap.size wr X) => next_any r.s vs _ X (HFL.out.below hX) hr64)
    have HDV := hid (fun (t : Int) X (hX : Below wr.heap.size wr X) => deliver_any r.s vs _ t X (HFL.out.below hX) hr64 hl64 hp64)
    rw [HV.out] at HNX HDV
    unfold vLk at HNX HDV
    have HOD := hid (ok_drop HOK.out d)
    clear hr64 hp64 hl64
    obtain ⟨q, hq⟩ : ∃ q, vs.length = q := ⟨_, rfl⟩
    rw [hq] at HMR HO HNX HDV HFL hvl
    have HQ := hid hq
    have HVL := hid hvl
    clear hq hvl
    obtain ⟨hd1, hd2⟩ := HD.out
    have x0 := cell_of_row _ _ 0 _ _ _ HXr.out
    have x3 := cell_of_row _ _ 3 _ _ _ HXr.out
    have y0 := cell_of_row _ _ 0 _ _ _ HMR.out
    have y1 := cell_of_row _ _ 1 _ _ _ HMR.out
    have y2 := cell_of_row _ _ 2 _ _ _ HMR.out
    have y3 := cell_of_row _ _ 3 _ _ _ HMR.out
    have y4 := cell_of_row _ _ 4 _ _ _ HMR.out
    have y5 := cell_of_row _ _ 5 _ _ _ HMR.out
    have y6 := cell_of_row _ _ 6 _ _ _ HMR.out
    by_cases hin : i < N
    rotate_left
    · obtain rfl : i = N := by omega
      obtain rfl : d = i := by omega
      have hnil : r.l.drop d = [] := by rw [HL.out, List.drop_eq_nil_iff, List.length_map, List.length_range]; exact Nat.le_refl _
      rw [hnil, nxt_nil] at HNX
      have HNX' := hid (HNX.out wr (Below.refl _ _))
      clear hnil
      go_upto_region 22 with fail
      go_wp2_with fail
      refine HNX'.out.mono ?_
      rintro e w5 ⟨rfl, hb5⟩
      have HAW := hid (awake_any w5)
      go_upto_region 23 with fail
      go_wp2_with fail
      refine HAW.out.mono ?_
      rintro e w9 ⟨rfl, hb9⟩
      go_wp2_with fail
      go_ret
      exact ⟨rfl, HBr.out.trans ((hb5.trans (hb9.mono hb5.size)).mono HBr.out.size)⟩
    have hin' : (i : Int) < (N : Int) := by omega
    have hdi : idl mn mn rt [] sts (d + 1) = idl mn mn rt [] sts (i + 1) := by
      rcases hd2 with e | e
      · rw [e]
      · exact e.2
    obtain ⟨bi, oi, rfl, hbi, hci⟩ := ints_cells HII.out (by rw [hids]; omega)
    have hii := hci i _ (HAT.out i hin)
    have hIr := HI.out.id2 _ (List.mem_of_getElem? (HAT.out i hin))
    obtain ⟨I, hI⟩ : ∃ I, idl mn mn rt [] sts (i + 1) = I := ⟨_, rfl⟩
    rw [hI] at hii hIr hdi
    have HNT : Hid (nxtS r.s (r.l.drop d) = (I + mn, true)) := hid (by
      rw [nxt_at HOD.out (x := flt mn rt sts d) (by rw [HL.out, List.getElem?_drop, Nat.add_zero]; exact flt_at (by omega))]
      show (idl mn mn rt [] sts (d + 1) + mn, true) = _
      rw [hdi])
    rw [HNT.out] at HNX
    have e1 : IntKind.i64.wrap (I + mn) = I + mn := by rw [IntKind.wrap_i64]; omega
    have e2 : IntKind.i64.wrap (I + mn - 1) = I + mn - 1 := by rw [IntKind.wrap_i64]; omega
    have HII2 := hid hI
    have HMS : Hid (m ≤ wr.heap.size) := hid (by rw [← HMW.out]; exact HB.out.size)
    have HIC : Hid (r.ids[i]? = some I) := hid (by rw [← hI]; exact HAT.out i hin)
    have HDD := hid hd1
    have hbiw : bi < wr.heap.size := Nat.lt_of_lt_of_le hbi (by have := HB.out.size; have := HMW.out; omega)
    have HID : Hid (∀ (j : Nat) (v : Int), r.ids[j]? = some v → ∀ X, Below wr.heap.size wr X → X.cell? ⟨bi, oi + j, none⟩ = some (.int .i64 v)) := hid (fun j v hv X hX => (hX.cell (p := ⟨bi, oi + j, none⟩) hbiw).trans ((HB.out.cell (p := ⟨bi, oi + j, none⟩) (by rw [← HMW.out]; exact hbi)).trans (hci j v hv)))
    clear hci hI hii hd1
    go_upto_region 10 with fail
    have HNX' := hid (HNX.out wr (Below.refl _ _))
    go_wp2_with fail
    refine HNX'.out.mono ?_
    rintro e w5 ⟨rfl, hb5⟩
    clear x0 x3 y0 y1 y2 y3 y4 y5 y6
    have HX5 := hid ((hb5.block _ (box_lt HXr.out)).trans HXr.out)
    have HBw5 := hid hb5
    have hii : w5.cell? ⟨bi, oi + i, none⟩ = some (.int .i64 I) := HID.out i I HIC.out w5 HBw5.out
    have x0 := cell_of_row _ _ 0 _ _ _ HX5.out
    clear hb5 HX5
    by_cases hi0 : i = 0
    · have dz : ((i : Int) == 0) = true := by rw [beq_iff_eq]; omega
      have dp : decide ((0 : Int) < (i : Int)) = false := decide_eq_false (by omega)
      have dp' : decide (0 < i) = false := decide_eq_false (by omega)
      have HI0 := hid hi0
      clear hi0 hd2
      go_upto_region 11 with fail
      go_quiet (fail)
      obtain ⟨V1, hV1⟩ : ∃ X, w5.drewN nq = X := ⟨_, rfl⟩
      rw [hV1]
      have HBV1 : Hid (Below wr.heap.size wr V1) := hid (by rw [← hV1]; exact below_both_drewN HBw5.out _)
      clear hV1
      clear x0 hii dp dp'
      go_upto_region 13 with fail
      go_quiet (fail)
      obtain ⟨V2, hV2⟩ : ∃ X, V1.drewN nq = X := ⟨_, rfl⟩
      rw [hV2]
      have HBV2 : Hid (Below wr.heap.size wr V2) := hid (by rw [← hV2]; exact below_both_drewN HBV1.out _)
      clear hV2
      clear dz
      have HD0 : delN r.s (r.l.drop d) (I + mn - 1) = 0 := del_eq HOD.out (Nat.zero_le _) (fun j x hj => absurd hj (by omega)) (fun x hx => by
        rw [HL.out] at hx
        obtain ⟨_, rfl⟩ := flt_drop hx
        show I + mn - 1 < idl mn mn rt [] sts (d + 0 + 1) + mn
        rw [Nat.add_zero, hdi]
        omega)
      have HDA := hid (HDV.out (I + mn - 1) V2 HBV2.out)
      rw [HD0] at HDA
      have hmX := (HBV2.out.block m hmr).trans HMR.out
      have y0 := cell_of_row _ _ 0 _ _ _ (show V2.heap[m]? = some (.cells #[.int .i64 r.s.mn, .int .i64 r.s.mx, .int .i64 r.s.rt, .bool r.s.dn, .int .i64 r.s.idle, .int .i64 r.s.next, .slice fA2 q fc2] 26) from hmX)
      have y1 := cell_of_row _ _ 1 _ _ _ (show V2.heap[m]? = some (.cells #[.int .i64 r.s.mn, .int .i64 r.s.mx, .int .i64 r.s.rt, .bool r.s.dn, .int .i64 r.s.idle, .int .i64 r.s.next, .slice fA2 q fc2] 26) from hmX)
      have y2 := cell_of_row _ _ 2 _ _ _ (show V2.heap[m]? = some (.cells #[.int .i64 r.s.mn, .int .i64 r.s.mx, .int .i64 r.s.rt, .bool r.s.dn, .int .i64 r.s.idle, .int .i64 r.s.next, .slice fA2 q fc2] 26) from hmX)
      have y3 := cell_of_row _ _ 3 _ _ _ (show V2.heap[m]? = some (.cells #[.int .i64 r.s.mn, .int .i64 r.s.mx, .int .i64 r.s.rt, .bool r.s.dn, .int .i64 r.s.idle, .int .i64 r.s.next, .slice fA2 q fc2] 26) from hmX)
      have y4 := cell_of_row _ _ 4 _ _ _ (show V2.heap[m]? = some (.cells #[.int .i64 r.s.mn, .int .i64 r.s.mx, .int .i64 r.s.rt, .bool r.s.dn, .int .i64 r.s.idle, .int .i64 r.s.next, .slice fA2 q fc2] 26) from hmX)
      have y5 := cell_of_row _ _ 5 _ _ _ (show V2.heap[m]? = some (.cells #[.int .i64 r.s.mn, .int .i64 r.s.mx, .int .i64 r.s.rt, .bool r.s.dn, .int .i64 r.s.idle, .int .i64 r.s.next, .slice fA2 q fc2] 26) from hmX)
      have y6 := cell_of_row _ _ 6 _ _ _ (show V2.heap[m]? = some (.cells #[.int .i64 r.s.mn, .int .i64 r.s.mx, .int .i64 r.s.rt, .bool r.s.dn, .int .i64 r.s.idle, .int .i64 r.s.next, .slice fA2 q fc2] 26) from hmX)
      clear HD0
      go_upto_region 14 with fail
      go_wp2_with fail
      refine HDA.out.mono ?_
      rintro e w6 ⟨v6, pv6, ps6, rfl, ⟨fv6, vs6, rfl, ho6, hv6, hp6⟩, hq6, hk6, hl6, hb6⟩
      obtain rfl : ps6 = [] := by simpa using hk6
      obtain ⟨f6, c6, rfl⟩ := own_form69 ho6
      obtain ⟨pA6, pc6, rfl⟩ := own_formE hq6
      rw [List.drop_zero] at hv6
      obtain ⟨q6, hq6'⟩ : ∃ q, vs6.length = q := ⟨_, rfl⟩
      rw [hq6'] at ho6
      unfold vLk
      dsimp only
      rw [hq6', show ([] : List Fl).length = 0 from rfl]
      obtain ⟨n6, hn6⟩ : ∃ n, w6.heap.size = n := ⟨_, rfl⟩
      obtain ⟨V6, hV6⟩ : ∃ X, w6.alloc (.cells #[.int .i64 r.s.mn, .int .i64 r.s.mx, .int .i64 r.s.rt, .bool r.s.dn, .int .i64 r.s.idle, .int .i64 r.s.next, .slice f6 q6 c6] 26) = X := ⟨_, rfl⟩
      have hz6 : Below w6.heap.size w6 V6 := by rw [← hV6]; exact al1 _ _
      have hN6 : V6.heap[n6]? = some (.cells #[.int .i64 r.s.mn, .int .i64 r.s.mx, .int .i64 r.s.rt, .bool r.s.dn, .int .i64 r.s.idle, .int .i64 r.s.next, .slice f6 q6 c6] 26) := by rw [← hV6, ← hn6]; exact heap_alloc_new _ _
      have HBV6 : Hid (Below wr.heap.size wr V6) := hid (HBV2.out.trans ((hb6.trans (hz6.mono hb6.size)).mono HBV2.out.size))
      have hFL6 : FL V6 (.slice f6 q6 c6) vs6 := (fl_of_own ho6 hq6' hp6).below hz6
      have HSM := hid (same_any r.s vs6 vs _ _ V6 hFL6 (HFL.out.below HBV6.out) (by rw [hq6', ← hq6', map_cores (hv6.trans HV.out.symm)]; have := HVL.out; have := HQ.out; omega) (hv6.trans HV.out.symm))
      unfold vLk at HSM
      have HV6 := hid hV6
      have HN6 := hid hn6
      have hm6 := (HBV6.out.block m hmr).trans HMR.out
      clear y0 y1 y2 y3 y4 y5 y6 hmX hV6 hn6 hz6 ho6 hv6 hp6 hq6 hk6 hl6 hb6 hq6' hFL6 HDA
      go_upto_region 15 with fail
      rw [HV6.out, HN6.out]
      have y0 := cell_of_row _ _ 0 _ _ _ (show V6.heap[m]? = some (.cells #[.int .i64 r.s.mn, .int .i64 r.s.mx, .int .i64 r.s.rt, .bool r.s.dn, .int .i64 r.s.idle, .int .i64 r.s.next, .slice fA2 q fc2] 26) from hm6)
      have y1 := cell_of_row _ _ 1 _ _ _ (show V6.heap[m]? = some (.cells #[.int .i64 r.s.mn, .int .i64 r.s.mx, .int .i64 r.s.rt, .bool r.s.dn, .int .i64 r.s.idle, .int .i64 r.s.next, .slice fA2 q fc2] 26) from hm6)
      have y2 := cell_of_row _ _ 2 _ _ _ (show V6.heap[m]? = some (.cells #[.int .i64 r.s.mn, .int .i64 r.s.mx, .int .i64 r.s.rt, .bool r.s.dn, .int .i64 r.s.idle, .int .i64 r.s.next, .slice fA2 q fc2] 26) from hm6)
      have y3 := cell_of_row _ _ 3 _ _ _ (show V6.heap[m]? = some (.cells #[.int .i64 r.s.mn, .int .i64 r.s.mx, .int .i64 r.s.rt, .bool r.s.dn, .int .i64 r.s.idle, .int .i64 r.s.next, .slice fA2 q fc2] 26) from hm6)
      have y4 := cell_of_row _ _ 4 _ _ _ (show V6.heap[m]? = some (.cells #[.int .i64 r.s.mn, .int .i64 r.s.mx, .int .i64 r.s.rt, .bool r.s.dn, .int .i64 r.s.idle, .int .i64 r.s.next, .slice fA2 q fc2] 26) from hm6)
      have y5 := cell_of_row _ _ 5 _ _ _ (show V6.heap[m]? = some (.cells #[.int .i64 r.s.mn, .int .i64 r.s.mx, .int .i64 r.s.rt, .bool r.s.dn, .int .i64 r.s.idle, .int .i64 r.s.next, .slice fA2 q fc2] 26) from hm6)
      have y6 := cell_of_row _ _ 6 _ _ _ (show V6.heap[m]? = some (.cells #[.int .i64 r.s.mn, .int .i64 r.s.mx, .int .i64 r.s.rt, .bool r.s.dn, .int .i64 r.s.idle, .int .i64 r.s.next, .slice fA2 q fc2] 26) from hm6)
      have z0 := cell_of_row _ _ 0 _ _ _ hN6
      have z1 := cell_of_row _ _ 1 _ _ _ hN6
      have z2 := cell_of_row _ _ 2 _ _ _ hN6
      have z3 := cell_of_row _ _ 3 _ _ _ hN6
      have z4 := cell_of_row _ _ 4 _ _ _ hN6
      have z5 := cell_of_row _ _ 5 _ _ _ hN6
      have z6 := cell_of_row _ _ 6 _ _ _ hN6
      go_wp2_with fail
      refine HSM.out.mono ?_
      rintro e w7 ⟨rfl, hb7⟩
      have HBw7 : Hid (Below wr.heap.size wr w7) := hid (HBV6.out.trans (hb7.mono HBV6.out.size))
      clear y0 y1 y2 y3 y4 y5 y6 z0 z1 z2 z3 z4 z5 z6 hb7 HSM hm6 hN6
      have x3 := cell_of_row _ _ 3 _ _ _ ((HBw7.out.block g (box_lt HXr.out)).trans HXr.out)
      have hii : w7.cell? ⟨bi, oi + i, none⟩ = some (.int .i64 I) := HID.out i I HIC.out w7 HBw7.out
      obtain ⟨i1, hi1⟩ : ∃ k, i + 1 = k := ⟨_, rfl⟩
      have ei1 : IntKind.i64.wrap ((i : Int) + 1) = (i1 : Int) := by rw [IntKind.wrap_i64]; omega
      by_cases hn1 : i1 < N
      · have hn1' : (i1 : Int) < (N : Int) := by omega
        have dn : decide ((i1 : Int) < (N : Int)) = true := decide_eq_true hn1'
        have dn' : decide (i1 < N) = true := decide_eq_true hn1
        have hI1c := HAT.out i1 hn1
        have hmo := HMO.out i1 (i1 + 1) (by omega) (by omega)
        obtain ⟨I1, hI1⟩ : ∃ I1, idl mn mn rt [] sts (i1 + 1) = I1 := ⟨_, rfl⟩
        rw [hI1] at hI1c hmo
        have hii1 : w7.cell? ⟨bi, oi + i1, none⟩ = some (.int .i64 I1) := HID.out i1 I1 hI1c w7 HBw7.out
        have HI1 := hid hi1
        have HMM := hid hmo
        have HEI := hid hI1
        clear hi1 hmo hI1 hI1c
        by_cases he : I1 = I
        · have HEQ : Hid (idl mn mn rt [] sts (d + 1) = idl mn mn rt [] sts (i1 + 1)) := hid (by rw [hdi, HEI.out, he])
          clear HEI HMM
          subst he
          have hI1' := HI1.out
          have deq : (I1 == I1) = true := by simp
          have HIX := hid hI1'
          clear hI1'
          go_upto_region 17 with fail
          go_quiet (fail)
          go_wp2_with fail
          go_roundw
          case rel => exact ⟨i1, d, _, vs, Nat.le_of_lt hn1, rfl, hid ⟨by have := HDD.out; have := HIX.out; omega, .inr ⟨hn1, HEQ.out⟩⟩, HV, hid ((below_both_drewN HBw7.out _).block m hmr |>.trans HMR.out), hid (by rw [HQ.out]; exact own_keep HO.out (keep_below (below_both_drewN HBw7.out _))), hid (fun x hx => (HP.out x hx).keep (keep_below (below_both_drewN HBw7.out _))), hid (HB.out.trans ((below_both_drewN HBw7.out _).mono HMS.out))⟩
          case measure => have := HI1.out; simp [Lib.intOf]; omega

        · have dne : (I1 == I) = false := by rw [beq_eq_false_iff_ne]; exact he
          have HDT : Hid (delN r.s (r.l.drop d) (I + mn) = i + 1 - d) := hid (del_eq HOD.out (by rw [HL.out, List.length_drop, List.length_map, List.length_range]; have := HDD.out; omega) (fun j x hj hx => by
            rw [HL.out] at hx
            obtain ⟨h5, rfl⟩ := flt_drop hx
            have h6 := HMO.out (d + j + 1) (i + 1) (by omega) (by omega)
            rw [HII2.out] at h6
            show idl mn mn rt [] sts (d + j + 1) + mn ≤ I + mn
            omega) (fun x hx => by
            rw [HL.out] at hx
            obtain ⟨h5, rfl⟩ := flt_drop hx
            show I + mn < idl mn mn rt [] sts (d + (i + 1 - d) + 1) + mn
            have h6 := HMM.out
            have h7 := HI1.out
            have h8 := HDD.out
            rw [show d + (i + 1 - d) + 1 = i1 + 1 by omega, HEI.out]
            rw [← h7, HII2.out] at h6
            omega))
          clear he
          go_upto_region 17 with fail
          go_quiet (fail)
          obtain ⟨V8, hV8⟩ : ∃ X, w7.drewN nq = X := ⟨_, rfl⟩
          rw [hV8]
          have HBV8 : Hid (Below wr.heap.size wr V8) := hid (by rw [← hV8]; exact below_both_drewN HBw7.out _)
          clear hV8
          have HDB := hid (HDV.out (I + mn) V8 HBV8.out)
          rw [HDT.out] at HDB
          have hmX := (HBV8.out.block m hmr).trans HMR.out
          have y0 := cell_of_row _ _ 0 _ _ _ (show V8.heap[m]? = some (.cells #[.int .i64 r.s.mn, .int .i64 r.s.mx, .int .i64 r.s.rt, .bool r.s.dn, .int .i64 r.s.idle, .int .i64 r.s.next, .slice fA2 q fc2] 26) from hmX)
          have y1 := cell_of_row _ _ 1 _ _ _ (show V8.heap[m]? = some (.cells #[.int .i64 r.s.mn, .int .i64 r.s.mx, .int .i64 r.s.rt, .bool r.s.dn, .int .i64 r.s.idle, .int .i64 r.s.next, .slice fA2 q fc2] 26) from hmX)
          have y2 := cell_of_row _ _ 2 _ _ _ (show V8.heap[m]? = some (.cells #[.int .i64 r.s.mn, .int .i64 r.s.mx, .int .i64 r.s.rt, .bool r.s.dn, .int .i64 r.s.idle, .int .i64 r.s.next, .slice fA2 q fc2] 26) from hmX)
          have y3 := cell_of_row _ _ 3 _ _ _ (show V8.heap[m]? = some (.cells #[.int .i64 r.s.mn, .int .i64 r.s.mx, .int .i64 r.s.rt, .bool r.s.dn, .int .i64 r.s.idle, .int .i64 r.s.next, .slice fA2 q fc2] 26) from hmX)
          have y4 := cell_of_row _ _ 4 _ _ _ (show V8.heap[m]? = some (.cells #[.int .i64 r.s.mn, .int .i64 r.s.mx, .int .i64 r.s.rt, .bool r.s.dn, .int .i64 r.s.idle, .int .i64 r.s.next, .slice fA2 q fc2] 26) from hmX)
          have y5 := cell_of_row _ _ 5 _ _ _ (show V8.heap[m]? = some (.cells #[.int .i64 r.s.mn, .int .i64 r.s.mx, .int .i64 r.s.rt, .bool r.s.dn, .int .i64 r.s.idle, .int .i64 r.s.next, .slice fA2 q fc2] 26) from hmX)
          have y6 := cell_of_row _ _ 6 _ _ _ (show V8.heap[m]? = some (.cells #[.int .i64 r.s.mn, .int .i64 r.s.mx, .int .i64 r.s.rt, .bool r.s.dn, .int .i64 r.s.idle, .int .i64 r.s.next, .slice fA2 q fc2] 26) from hmX)
          go_upto_region 18 with fail
          go_wp2_with fail
          refine HDB.out.mono ?_
          rintro e w8 ⟨v8, pv8, ps, rfl, ⟨fv8, vs8, rfl, ho8, hv8, hp8⟩, hq8, hk8, hl8, hb8⟩
          obtain ⟨f8, c8, rfl⟩ := own_form69 ho8
          obtain ⟨qA, qc, rfl⟩ := own_formE hq8
          have hPl : ps.length = i + 1 - d := by
            have h5 := congrArg List.length hk8
            rw [List.length_map, List.length_take, List.length_drop, HL.out, List.length_map, List.length_range] at h5
            have := HDD.out
            omega
          obtain ⟨x, hx⟩ : ∃ x, ps[i - d]? = some x := ⟨ps[i - d]'(by have := HDD.out; omega), List.getElem?_eq_getElem _⟩
          have hxc : core x = flt mn rt sts i := by
            have h5 := congrArg (fun l => l[i - d]?) hk8
            simp only [List.getElem?_map, hx, Option.map_some] at h5
            rw [List.getElem?_take, if_pos (by have := HDD.out; omega), HL.out, List.getElem?_drop, show d + (i - d) = i by have := HDD.out; omega, flt_at hin] at h5
            injection h5
          obtain ⟨P, hP⟩ : ∃ P, ps.length = P := ⟨_, rfl⟩
          obtain ⟨P1, hP1⟩ : ∃ P1, i - d = P1 := ⟨_, rfl⟩
          obtain ⟨q8, hq8'⟩ : ∃ q, vs8.length = q := ⟨_, rfl⟩
          rw [hP1] at hx
          rw [hP] at hq8
          rw [hq8'] at ho8
          unfold vLk
          dsimp only
          rw [hP, hq8']
          have hP2 : P = P1 + 1 := by have := HDD.out; omega
          have hv9 : vs8.map core = r.l.drop i1 := by rw [hv8, List.drop_drop]; congr 1; have := HDD.out; have := HI1.out; omega
          obtain ⟨n8, hn8⟩ : ∃ n, w8.heap.size = n := ⟨_, rfl⟩
          obtain ⟨W8, hW8⟩ : ∃ X, w8.alloc (.cells #[.int .i64 r.s.mn, .int .i64 r.s.mx, .int .i64 r.s.rt, .bool r.s.dn, .int .i64 r.s.idle, .int .i64 r.s.next, .slice f8 q8 c8] 26) = X := ⟨_, rfl⟩
          have hz8 : Below w8.heap.size w8 W8 := by rw [← hW8]; exact al1 _ _
          have HN8 : Hid (W8.heap[n8]? = some (.cells #[.int .i64 r.s.mn, .int .i64 r.s.mx, .int .i64 r.s.rt, .bool r.s.dn, .int .i64 r.s.idle, .int .i64 r.s.next, .slice f8 q8 c8] 26)) := hid (by rw [← hW8, ← hn8]; exact heap_alloc_new _ _)
          have HBW8 : Hid (Below wr.heap.size wr W8) := hid (HBV8.out.trans ((hb8.trans (hz8.mono hb8.size)).mono HBV8.out.size))
          have HO8 := hid (own_keep ho8 (keep_below hz8))
          have HP8 := hid (fun x hx => (hp8 x hx).keep (keep_below hz8))
          have hPY : PyL W8 (.slice qA P qc) ps := py_of_own (own_keep hq8 (keep_below hz8)) (fun x hx => (hl8 x hx).keep (keep_below hz8))
          have HV9 := hid hv9
          have HQ8 := hid hq8'
          have HW8 := hid hW8
          have HNN8 := hid hn8
          have hst : sts[i]? = some (sts[i]'(by rw [HN.out]; exact hin)) := List.getElem?_eq_getElem _
          obtain ⟨st, hste⟩ : ∃ st, sts[i]'(by rw [HN.out]; exact hin) = st := ⟨_, rfl⟩
          rw [hste] at hst
          obtain ⟨sz, wt⟩ := st
          have hxm := List.mem_of_getElem? hx
          have hxb := hPY.1 x hxm
          obtain ⟨qb, qo, rfl, hqb, hqc⟩ := py_cells hPY (by omega)
          have p0 := hqc P1 x hx
          obtain ⟨xt, xn, xd, xp⟩ := x
          dsimp only at hxb p0
          obtain rfl : xp = pay sz i := by
            have h5 : xp = po sts i := congrArg (fun z : Fc => z.2.2) hxc
            rw [h5, po_at hst]
          obtain ⟨xA, xc, rfl⟩ := byt_form hxb
          obtain ⟨xb, xo, rfl, hxbl, _⟩ := byt_at hxb (by unfold pay; simp)
          obtain ⟨xm, hxl⟩ : ∃ xm, (pay sz i).length = xm := ⟨_, rfl⟩
          rw [hxl] at p0 hxb
          have dP : ((P : Int) == 0) = false := by rw [beq_eq_false_iff_ne]; omega
          have eP : IntKind.i64.wrap ((P : Int) - 1) = (P1 : Int) := by rw [IntKind.wrap_i64]; omega
          have hPlt : P1 < P := by omega
          have hSt : Sts W8 (.slice A N c) sts := HS.out.below (HBr.out.trans (HBW8.out.mono HBr.out.size))
          obtain ⟨tb, tq, rfl, htb, htc⟩ := sts_cells hSt (by rw [HN.out]; omega)
          obtain ⟨s0, s1⟩ := htc i _ hst
          obtain ⟨hsz, hwt⟩ := hSt.1 _ (List.mem_of_getElem? hst)
          dsimp only at s0 s1 hsz hwt
          have hi8 : i < 256 := by omega
          have hx6 := (HBW8.out.block g (box_lt HXr.out)).trans HXr.out
          have x3 := cell_of_row _ _ 3 _ _ _ hx6
          obtain ⟨S, hS⟩ : ∃ S, strOfNums (ints (pay sz i)) = S := ⟨_, rfl⟩
          have HSS := hid hS
          have HXB := hid hxb
          have HHeld := hid (fun (X : World) (hX : Below W8.heap.size W8 X) => (show X.cell? ⟨qb, qo + P1, none⟩ = some (.slice (some ⟨xb, xo, none⟩) xm xc) ∧ X.cell? ⟨g, 3, none⟩ = some (.slice (some ⟨tb, tq, none⟩) N c) ∧ X.cell? ⟨tb, tq + i * 2, none⟩ = some (.int .u8 (sz : Int)) ∧ X.cell? ⟨tb, tq + i * 2 + 1, none⟩ = some (.int .u8 (wt : Int)) ∧ (convert 37 9 (.slice (some ⟨xb, xo, none⟩) xm xc)).run Try.prog X = .ok (.string S) X from ⟨(hX.cell (p := ⟨qb, qo + P1, none⟩) hqb).trans p0, (hX.cell (p := ⟨g, 3, none⟩) (box_lt hx6)).trans x3, (hX.cell (p := ⟨tb, tq + i * 2, none⟩) htb).trans s0, (hX.cell (p := ⟨tb, tq + i * 2 + 1, none⟩) htb).trans s1, by rw [← HSS.out]; exact conv_at HXB.out hX⟩))
          have hHeld := HHeld.out W8.drew (Below.refl _ W8).drew
          have dS' : (S.toList != S.toList) = false := by simp
          have HPAY := hid (fun (X : World) => payload_any sz wt i X hsz hi8)
          clear hqc hxc htc hSt hst hste hsz hwt hxm hx hS hxl hxb p0 x3 s0 s1 hx6 y0 y1 y2 y3 y4 y5 y6 hmX hW8 hn8 hz8 ho8 hv8 hp8 hq8 hk8 hl8 hb8 hq8' hv9 hP2 hPl hP hP1 hPY HDB
          go_upto_region 19 with fail
          rw [HW8.out, HNN8.out]
          refine region_tail 20 (fun X => X.cell? ⟨qb, qo + P1, none⟩ = some (.slice (some ⟨xb, xo, none⟩) xm xc) ∧ X.cell? ⟨g, 3, none⟩ = some (.slice (some ⟨tb, tq, none⟩) N c) ∧ X.cell? ⟨tb, tq + i * 2, none⟩ = some (.int .u8 (sz : Int)) ∧ X.cell? ⟨tb, tq + i * 2 + 1, none⟩ = some (.int .u8 (wt : Int)) ∧ (convert 37 9 (.slice (some ⟨xb, xo, none⟩) xm xc)).run Try.prog X = .ok (.string S) X) (by kernel_rfl) ?_
          refine' wpAnyT_take (i := 0) (oi := ?oiua0) (v := ?vua0) ?hiua0 (by kernel_rfl) (by kernel_rfl) ?hqua0 ?hyua0 hHeld ?restua0
          case hiua0 => (simp only [List.getElem?_toArray, List.getElem?_cons_zero]; rfl)
          case hqua0 => exact fun _ _ _ h => h
          case hyua0 => (refine Or.inl ⟨by rfl, ?_⟩; intro w' hSw; (try dsimp only at hSw); go_simp; try with_reducible rfl)
          (try simp only [Act.put, List.setIfInBounds_toArray, List.set_cons_zero, List.set_cons_succ])
          refine' wpAnyT_take (i := 1) (oi := ?oiua1) (v := ?vua1) ?hiua1 (by kernel_rfl) (by kernel_rfl) ?hqua1 ?hyua1 hHeld ?restua1
          case hiua1 => (simp only [List.getElem?_toArray, List.getElem?_cons_zero, List.getElem?_cons_succ]; rfl)
          case hqua1 => exact fun _ _ _ h => h
          case hyua1 => (refine Or.inl ⟨by rfl, ?_⟩; intro w' hSw; (try dsimp only at hSw); go_simp; try with_reducible rfl)
          (try simp only [Act.put, List.setIfInBounds_toArray, List.set_cons_zero, List.set_cons_succ])
          refine' wpAnyT_take (i := 2) (oi := ?oiua2) (v := ?vua2) ?hiua2 (by kernel_rfl) (by kernel_rfl) ?hqua2 ?hyua2 hHeld ?restua2
          case hiua2 => (simp only [List.getElem?_toArray, List.getElem?_cons_zero, List.getElem?_cons_succ]; rfl)
          case hqua2 => exact fun _ _ _ h => h
          case hyua2 => (refine Or.inl ⟨by rfl, ?_⟩; intro w' hSw; (try dsimp only at hSw); go_simp; try with_reducible rfl)
          (try simp only [Act.put, List.setIfInBounds_toArray, List.set_cons_zero, List.set_cons_succ])
          refine' wpAnyT_take (i := 3) (oi := ?oiua3) (v := ?vua3) ?hiua3 (by kernel_rfl) (by kernel_rfl) ?hqua3 ?hyua3 hHeld ?restua3
          case hiua3 => (simp only [List.getElem?_toArray, List.getElem?_cons_zero, List.getElem?_cons_succ]; rfl)
          case hqua3 => exact fun _ _ _ h => h
          case hyua3 => (refine Or.inl ⟨by rfl, ?_⟩; intro w' hSw; (try dsimp only at hSw); go_simp; try with_reducible rfl)
          (try simp only [Act.put, List.setIfInBounds_toArray, List.set_cons_zero, List.set_cons_succ])
          refine' wpAnyT_take (i := 4) (oi := ?oiua4) (v := ?vua4) ?hiua4 (by kernel_rfl) (by kernel_rfl) ?hqua4 ?hyua4 hHeld ?restua4
          case hiua4 => (simp only [List.getElem?_toArray, List.getElem?_cons_zero, List.getElem?_cons_succ]; rfl)
          case hqua4 => exact fun _ _ _ h => h
          case hyua4 => (refine Or.inl ⟨by rfl, ?_⟩; intro w' hSw; (try dsimp only at hSw); go_simp; try with_reducible rfl)
          (try simp only [Act.put, List.setIfInBounds_toArray, List.set_cons_zero, List.set_cons_succ])
          refine' wpAnyT_take (i := 5) (oi := ?oiua5) (v := ?vua5) ?hiua5 (by kernel_rfl) (by kernel_rfl) ?hqua5 ?hyua5 hHeld ?restua5
          case hiua5 => (simp only [List.getElem?_toArray, List.getElem?_cons_zero, List.getElem?_cons_succ]; rfl)
          case hqua5 => exact fun _ _ _ h => h
          case hyua5 => (refine Or.inl ⟨by rfl, ?_⟩; intro w' hSw; (try dsimp only at hSw); go_simp; try with_reducible rfl)
          (try simp only [Act.put, List.setIfInBounds_toArray, List.set_cons_zero, List.set_cons_succ])
          refine' wpAnyT_take (i := 6) (oi := ?oiua6) (v := ?vua6) ?hiua6 (by kernel_rfl) (by kernel_rfl) ?hqua6 ?hyua6 hHeld ?restua6
          case hiua6 => (simp only [List.getElem?_toArray, List.getElem?_cons_zero, List.getElem?_cons_succ]; rfl)
          case hqua6 => exact fun _ _ _ h => h
          case hyua6 => (refine Or.inl ⟨by rfl, ?_⟩; intro w' hSw; (try dsimp only at hSw); go_simp; try with_reducible rfl)
          (try simp only [Act.put, List.setIfInBounds_toArray, List.set_cons_zero, List.set_cons_succ])
          refine' wpAnyT_take (i := 7) (oi := ?oiua7) (v := ?vua7) ?hiua7 (by kernel_rfl) (by kernel_rfl) ?hqua7 ?hyua7 hHeld ?restua7
          case hiua7 => (simp only [List.getElem?_toArray, List.getElem?_cons_zero, List.getElem?_cons_succ]; rfl)
          case hqua7 => exact fun _ _ _ h => h
          case hyua7 => (refine Or.inl ⟨by rfl, ?_⟩; intro w' hSw; (try dsimp only at hSw); go_simp; try with_reducible rfl)
          (try simp only [Act.put, List.setIfInBounds_toArray, List.set_cons_zero, List.set_cons_succ])
          refine' wpAnyT_take (i := 8) (oi := ?oiua8) (v := ?vua8) ?hiua8 (by kernel_rfl) (by kernel_rfl) ?hqua8 ?hyua8 hHeld ?restua8
          case hiua8 => (simp only [List.getElem?_toArray, List.getElem?_cons_zero, List.getElem?_cons_succ]; rfl)
          case hqua8 => exact fun _ _ _ h => h
          case hyua8 => (refine Or.inl ⟨by rfl, ?_⟩; intro w' hSw; (try dsimp only at hSw); go_simp; try with_reducible rfl)
          (try simp only [Act.put, List.setIfInBounds_toArray, List.set_cons_zero, List.set_cons_succ])
          refine' wpAnyT_take (i := 9) (oi := ?oiua9) (v := ?vua9) ?hiua9 (by kernel_rfl) (by kernel_rfl) ?hqua9 ?hyua9 hHeld ?restua9
          case hiua9 => (simp only [List.getElem?_toArray, List.getElem?_cons_zero, List.getElem?_cons_succ]; rfl)
          case hqua9 => exact fun _ _ _ h => h
          case hyua9 => (refine Or.inl ⟨by rfl, ?_⟩; intro w' hSw; (try dsimp only at hSw); go_simp; try with_reducible rfl)
          (try simp only [Act.put, List.setIfInBounds_toArray, List.set_cons_zero, List.set_cons_succ])
          refine' wpAnyT_take (i := 10) (oi := ?oiua10) (v := ?vua10) ?hiua10 (by kernel_rfl) (by kernel_rfl) ?hqua10 ?hyua10 hHeld ?restua10
          case hiua10 => (simp only [List.getElem?_toArray, List.getElem?_cons_zero, List.getElem?_cons_succ]; rfl)
          case hqua10 => exact fun _ _ _ h => h
          case hyua10 => (refine Or.inl ⟨by rfl, ?_⟩; intro w' hSw; (try dsimp only at hSw); go_simp; try with_reducible rfl)
          (try simp only [Act.put, List.setIfInBounds_toArray, List.set_cons_zero, List.set_cons_succ])
          refine' wpAnyT_take (i := 11) (oi := ?oiua11) (v := ?vua11) ?hiua11 (by kernel_rfl) (by kernel_rfl) ?hqua11 ?hyua11 hHeld ?restua11
          case hiua11 => (simp only [List.getElem?_toArray, List.getElem?_cons_zero, List.getElem?_cons_succ]; rfl)
          case hqua11 => exact fun _ _ _ h => h
          case hyua11 => (refine Or.inl ⟨by rfl, ?_⟩; intro w' hSw; (try dsimp only at hSw); go_simp; try with_reducible rfl)
          (try simp only [Act.put, List.setIfInBounds_toArray, List.set_cons_zero, List.set_cons_succ])
          refine' wpAnyT_take (i := 12) (oi := ?oiua12) (v := ?vua12) ?hiua12 (by kernel_rfl) (by kernel_rfl) ?hqua12 ?hyua12 hHeld ?restua12
          case hiua12 => (simp only [List.getElem?_toArray, List.getElem?_cons_zero, List.getElem?_cons_succ]; rfl)
          case hqua12 => exact fun _ _ _ h => h
          case hyua12 => (refine Or.inl ⟨by rfl, ?_⟩; intro w' hSw; (try dsimp only at hSw); go_simp; try with_reducible rfl)
          (try simp only [Act.put, List.setIfInBounds_toArray, List.set_cons_zero, List.set_cons_succ])
          refine' wpAnyT_take (i := 13) (oi := ?oiua13) (v := ?vua13) ?hiua13 (by kernel_rfl) (by kernel_rfl) ?hqua13 ?hyua13 hHeld ?restua13
          case hiua13 => (simp only [List.getElem?_toArray, List.getElem?_cons_zero, List.getElem?_cons_succ]; rfl)
          case hqua13 => exact fun _ _ _ h => h
          case hyua13 => (refine Or.inl ⟨by rfl, ?_⟩; intro w' hSw; (try dsimp only at hSw); go_simp; try with_reducible rfl)
          (try simp only [Act.put, List.setIfInBounds_toArray, List.set_cons_zero, List.set_cons_succ])
          refine' wpAnyT_take (i := 14) (oi := ?oiua14) (v := ?vua14) ?hiua14 (by kernel_rfl) (by kernel_rfl) ?hqua14 ?hyua14 hHeld ?restua14
          case hiua14 => (simp only [List.getElem?_toArray, List.getElem?_cons_zero, List.getElem?_cons_succ]; rfl)
          case hqua14 => exact fun _ _ _ h => h
          case hyua14 => (refine Or.inl ⟨by rfl, ?_⟩; intro w' hSw; (try dsimp only at hSw); go_simp; try with_reducible rfl)
          (try simp only [Act.put, List.setIfInBounds_toArray, List.set_cons_zero, List.set_cons_succ])
          refine' wpAnyT_take (i := 15) (oi := ?oiua15) (v := ?vua15) ?hiua15 (by kernel_rfl) (by kernel_rfl) ?hqua15 ?hyua15 hHeld ?restua15
          case hiua15 => (simp only [List.getElem?_toArray, List.getElem?_cons_zero, List.getElem?_cons_succ]; rfl)
          case hqua15 => exact fun _ _ _ h => h
          case hyua15 => (refine Or.inl ⟨by rfl, ?_⟩; intro w' hSw; (try dsimp only at hSw); go_simp; try with_reducible rfl)
          (try simp only [Act.put, List.setIfInBounds_toArray, List.set_cons_zero, List.set_cons_succ])
          refine' wpAnyT_take (i := 16) (oi := ?oiua16) (v := ?vua16) ?hiua16 (by kernel_rfl) (by kernel_rfl) ?hqua16 ?hyua16 hHeld ?restua16
          case hiua16 => (simp only [List.getElem?_toArray, List.getElem?_cons_zero, List.getElem?_cons_succ]; rfl)
          case hqua16 => exact fun _ _ _ h => h
          case hyua16 => (refine Or.inl ⟨by rfl, ?_⟩; intro w' hSw; (try dsimp only at hSw); go_simp; try with_reducible rfl)
          (try simp only [Act.put, List.setIfInBounds_toArray, List.set_cons_zero, List.set_cons_succ])
          refine wpAnyT_all (l := [17]) (by kernel_rfl) (by decide) ?_
          intro ii hii
          simp only [List.mem_cons, List.not_mem_nil, or_false] at hii
          subst hii
          refine ⟨_, by (simp only [List.getElem?_toArray, List.getElem?_cons_zero, List.getElem?_cons_succ]; rfl), fun KK hKK => ?_⟩
          go_simp
          go_at_call 32
          refine (HPAY.out W8.drew).mono ?_
          rintro e w9 ⟨pv, rfl, hpo, hb9⟩
          obtain ⟨pA, pc, rfl⟩ := own_form hpo
          obtain ⟨pl, hpl⟩ : ∃ pl, (pay sz i).length = pl := ⟨_, rfl⟩
          rw [hpl] at hpo
          have hb7 : Below W8.heap.size W8 w9 := (Below.refl _ W8).drew.trans hb9
          have hHeld6 := HHeld.out w9 hb7
          have hc2 : (convert 37 9 (.slice pA pl pc)).run Try.prog w9 = .ok (.string S) w9 := by rw [← HSS.out]; exact byt_conv (byt_of_own hpo (pay_b8 sz i hi8))
          (try rw [hpl])
          have HB9 := hid hb7
          clear hpo hb9 hb7 hpl
          refine hKK.out _ _ (fun _ => hHeld6) ?_
          clear hKK KK
          (try simp only [Act.put, List.setIfInBounds_toArray, List.set_cons_zero, List.set_cons_succ])
          refine wpAnyT_all (l := [18]) (by kernel_rfl) (by decide) ?_
          intro ii hii
          simp only [List.mem_cons, List.not_mem_nil, or_false] at hii
          subst hii
          refine ⟨_, by (simp only [List.getElem?_toArray, List.getElem?_cons_zero, List.getElem?_cons_succ]; rfl), fun KK hKK => ?_⟩
          go_simp
          refine hKK.out _ _ (fun _ => hHeld6) ?_
          clear hKK KK
          (try simp only [Act.put, List.setIfInBounds_toArray, List.set_cons_zero, List.set_cons_succ])
          refine wpAnyT_all (l := [19]) (by kernel_rfl) (by decide) ?_
          intro ii hii
          simp only [List.mem_cons, List.not_mem_nil, or_false] at hii
          subst hii
          refine ⟨_, by (simp only [List.getElem?_toArray, List.getElem?_cons_zero, List.getElem?_cons_succ]; rfl), fun KK hKK => ?_⟩
          go_simp
          refine hKK.out _ _ (fun _ => hHeld6) ?_
          clear hKK KK
          (try simp only [Act.put, List.setIfInBounds_toArray, List.set_cons_zero, List.set_cons_succ])
          refine wpAnyT_all (l := [20]) (by kernel_rfl) (by decide) ?_
          intro ii hii
          simp only [List.mem_cons, List.not_mem_nil, or_false] at hii
          subst hii
          refine ⟨_, by (simp only [List.getElem?_toArray, List.getElem?_cons_zero, List.getElem?_cons_succ]; rfl), fun KK hKK => ?_⟩
          go_simp
          refine hKK.out _ _ (fun h => absurd h (by decide)) ?_
          clear hKK KK
          (try simp only [Act.put, List.setIfInBounds_toArray, List.set_cons_zero, List.set_cons_succ])
          refine wpAnyT_done (by kernel_rfl) ?_ _
          have HBw9 : Hid (Below wr.heap.size wr w9) := hid (HBW8.out.trans (HB9.out.mono HBW8.out.size))
          have hn9 := (HB9.out.block _ (box_lt HN8.out)).trans HN8.out
          have hm9 := (HBw9.out.block m hmr).trans HMR.out
          have ho9 := own_keep HO8.out (keep_below HB9.out)
          have z0 := cell_of_row _ _ 0 _ _ _ hn9
          have z1 := cell_of_row _ _ 1 _ _ _ hn9
          have z2 := cell_of_row _ _ 2 _ _ _ hn9
          have z3 := cell_of_row _ _ 3 _ _ _ hn9
          have z4 := cell_of_row _ _ 4 _ _ _ hn9
          have z5 := cell_of_row _ _ 5 _ _ _ hn9
          have z6 := cell_of_row _ _ 6 _ _ _ hn9
          have y0 := cell_of_row _ _ 0 _ _ _ (show w9.heap[m]? = some (.cells #[.int .i64 r.s.mn, .int .i64 r.s.mx, .int .i64 r.s.rt, .bool r.s.dn, .int .i64 r.s.idle, .int .i64 r.s.next, .slice fA2 q fc2] 26) from hm9)
          have y1 := cell_of_row _ _ 1 _ _ _ (show w9.heap[m]? = some (.cells #[.int .i64 r.s.mn, .int .i64 r.s.mx, .int .i64 r.s.rt, .bool r.s.dn, .int .i64 r.s.idle, .int .i64 r.s.next, .slice fA2 q fc2] 26) from hm9)
          have y2 := cell_of_row _ _ 2 _ _ _ (show w9.heap[m]? = some (.cells #[.int .i64 r.s.mn, .int .i64 r.s.mx, .int .i64 r.s.rt, .bool r.s.dn, .int .i64 r.s.idle, .int .i64 r.s.next, .slice fA2 q fc2] 26) from hm9)
          have y3 := cell_of_row _ _ 3 _ _ _ (show w9.heap[m]? = some (.cells #[.int .i64 r.s.mn, .int .i64 r.s.mx, .int .i64 r.s.rt, .bool r.s.dn, .int .i64 r.s.idle, .int .i64 r.s.next, .slice fA2 q fc2] 26) from hm9)
          have y4 := cell_of_row _ _ 4 _ _ _ (show w9.heap[m]? = some (.cells #[.int .i64 r.s.mn, .int .i64 r.s.mx, .int .i64 r.s.rt, .bool r.s.dn, .int .i64 r.s.idle, .int .i64 r.s.next, .slice fA2 q fc2] 26) from hm9)
          have y5 := cell_of_row _ _ 5 _ _ _ (show w9.heap[m]? = some (.cells #[.int .i64 r.s.mn, .int .i64 r.s.mx, .int .i64 r.s.rt, .bool r.s.dn, .int .i64 r.s.idle, .int .i64 r.s.next, .slice fA2 q fc2] 26) from hm9)
          have y6 := cell_of_row _ _ 6 _ _ _ (show w9.heap[m]? = some (.cells #[.int .i64 r.s.mn, .int .i64 r.s.mx, .int .i64 r.s.rt, .bool r.s.dn, .int .i64 r.s.idle, .int .i64 r.s.next, .slice fA2 q fc2] 26) from hm9)
          have fy0 := box_fr hm9 0
          have fy1 := box_fr hm9 1
          have fy2 := box_fr hm9 2
          have fy3 := box_fr hm9 3
          have fy4 := box_fr hm9 4
          have fy5 := box_fr hm9 5
          have fy6 := box_fr hm9 6
          obtain ⟨W9, hW9⟩ : ∃ X, (((((((w9.setCell ⟨m, 0, none⟩ (.int .i64 r.s.mn)).setCell ⟨m, 1, none⟩ (.int .i64 r.s.mx)).setCell ⟨m, 2, none⟩ (.int .i64 r.s.rt)).setCell ⟨m, 3, none⟩ (.bool r.s.dn)).setCell ⟨m, 4, none⟩ (.int .i64 r.s.idle)).setCell ⟨m, 5, none⟩ (.int .i64 r.s.next)).setCell ⟨m, 6, none⟩ (.slice f8 q8 c8)) = X := ⟨_, rfl⟩
          have HM9 : Hid (W9.heap[m]? = some (.cells #[.int .i64 r.s.mn, .int .i64 r.s.mx, .int .i64 r.s.rt, .bool r.s.dn, .int .i64 r.s.idle, .int .i64 r.s.next, .slice f8 q8 c8] 26)) := hid (by rw [← hW9]; exact set7h _ _ _ _ _ _ _ hm9)
          have HO9 : Hid (W9.ownsRow 0 69 3 (.slice f8 q8 c8) vs8.length (vs8.map cFl).flatten) := hid (by rw [HQ8.out, ← hW9]; exact own_base (own_keep ho9 (set7k hm9 (by decide) _ _ _ _ _ _ _)) (Nat.zero_le _))
          have HP9 : Hid (∀ x ∈ vs8, Pay W9 x) := hid (fun x hx => by rw [← hW9]; exact ((HP8.out x hx).keep (keep_below HB9.out)).keep (set7k hm9 (by decide) _ _ _ _ _ _ _))
          have HB10 : Hid (Below m w3 W9) := hid (by rw [← hW9]; exact set7b _ _ _ _ _ _ _ (HB.out.trans (HBw9.out.mono HMS.out)) (Nat.le_refl _))
          have HW9 := hid hW9
          clear hW9 hn9 hm9 ho9 hHeld hHeld6 hc2
          go_upto_region 9 with fail
          rw [HW9.out]
          go_wp2_with fail
          go_roundw
          case rel => exact ⟨i1, i1, _, vs8, by have := HI1.out; omega, rfl, hid ⟨Nat.le_refl _, .inl rfl⟩, HV9, HM9, HO9, HP9, HB10⟩
          case measure => have := HI1.out; simp [Lib.intOf]; omega

      · have dn : decide ((i1 : Int) < (N : Int)) = false := decide_eq_false (by omega)
        have dn' : decide (i1 < N) = false := decide_eq_false hn1
        have HDT : Hid (delN r.s (r.l.drop d) (I + mn) = i + 1 - d) := hid (del_eq HOD.out (by rw [HL.out, List.length_drop, List.length_map, List.length_range]; have := HDD.out; omega) (fun j x hj hx => by
          rw [HL.out] at hx
          obtain ⟨h5, rfl⟩ := flt_drop hx
          have h6 := HMO.out (d + j + 1) (i + 1) (by omega) (by omega)
          rw [HII2.out] at h6
          show idl mn mn rt [] sts (d + j + 1) + mn ≤ I + mn
          omega) (fun x hx => by
          rw [HL.out] at hx
          obtain ⟨h5, rfl⟩ := flt_drop hx
          have := HDD.out
          omega))
        have HNE := hid hn1
        have HI1 := hid hi1
        clear hn1 hi1
        go_upto_region 17 with fail
        go_quiet (fail)
        obtain ⟨V8, hV8⟩ : ∃ X, w7.drewN nq = X := ⟨_, rfl⟩
        rw [hV8]
        have HBV8 : Hid (Below wr.heap.size wr V8) := hid (by rw [← hV8]; exact below_both_drewN HBw7.out _)
        clear hV8
        have HDB := hid (HDV.out (I + mn) V8 HBV8.out)
        rw [HDT.out] at HDB
        have hmX := (HBV8.out.block m hmr).trans HMR.out
        have y0 := cell_of_row _ _ 0 _ _ _ (show V8.heap[m]? = some (.cells #[.int .i64 r.s.mn, .int .i64 r.s.mx, .int .i64 r.s.rt, .bool r.s.dn, .int .i64 r.s.idle, .int .i64 r.s.next, .slice fA2 q fc2] 26) from hmX)
        have y1 := cell_of_row _ _ 1 _ _ _ (show V8.heap[m]? = some (.cells #[.int .i64 r.s.mn, .int .i64 r.s.mx, .int .i64 r.s.rt, .bool r.s.dn, .int .i64 r.s.idle, .int .i64 r.s.next, .slice fA2 q fc2] 26) from hmX)
        have y2 := cell_of_row _ _ 2 _ _ _ (show V8.heap[m]? = some (.cells #[.int .i64 r.s.mn, .int .i64 r.s.mx, .int .i64 r.s.rt, .bool r.s.dn, .int .i64 r.s.idle, .int .i64 r.s.next, .slice fA2 q fc2] 26) from hmX)
        have y3 := cell_of_row _ _ 3 _ _ _ (show V8.heap[m]? = some (.cells #[.int .i64 r.s.mn, .int .i64 r.s.mx, .int .i64 r.s.rt, .bool r.s.dn, .int .i64 r.s.idle, .int .i64 r.s.next, .slice fA2 q fc2] 26) from hmX)
        have y4 := cell_of_row _ _ 4 _ _ _ (show V8.heap[m]? = some (.cells #[.int .i64 r.s.mn, .int .i64 r.s.mx, .int .i64 r.s.rt, .bool r.s.dn, .int .i64 r.s.idle, .int .i64 r.s.next, .slice fA2 q fc2] 26) from hmX)
        have y5 := cell_of_row _ _ 5 _ _ _ (show V8.heap[m]? = some (.cells #[.int .i64 r.s.mn, .int .i64 r.s.mx, .int .i64 r.s.rt, .bool r.s.dn, .int .i64 r.s.idle, .int .i64 r.s.next, .slice fA2 q fc2] 26) from hmX)
        have y6 := cell_of_row _ _ 6 _ _ _ (show V8.heap[m]? = some (.cells #[.int .i64 r.s.mn, .int .i64 r.s.mx, .int .i64 r.s.rt, .bool r.s.dn, .int .i64 r.s.idle, .int .i64 r.s.next, .slice fA2 q fc2] 26) from hmX)
        go_upto_region 18 with fail
        go_wp2_with fail
        refine HDB.out.mono ?_
        rintro e w8 ⟨v8, pv8, ps, rfl, ⟨fv8, vs8, rfl, ho8, hv8, hp8⟩, hq8, hk8, hl8, hb8⟩
        obtain ⟨f8, c8, rfl⟩ := own_form69 ho8
        obtain ⟨qA, qc, rfl⟩ := own_formE hq8
        have hPl : ps.length = i + 1 - d := by
          have h5 := congrArg List.length hk8
          rw [List.length_map, List.length_take, List.length_drop, HL.out, List.length_map, List.length_range] at h5
          have := HDD.out
          omega
        obtain ⟨x, hx⟩ : ∃ x, ps[i - d]? = some x := ⟨ps[i - d]'(by have := HDD.out; omega), List.getElem?_eq_getElem _⟩
        have hxc : core x = flt mn rt sts i := by
          have h5 := congrArg (fun l => l[i - d]?) hk8
          simp only [List.getElem?_map, hx, Option.map_some] at h5
          rw [List.getElem?_take, if_pos (by have := HDD.out; omega), HL.out, List.getElem?_drop, show d + (i - d) = i by have := HDD.out; omega, flt_at hin] at h5
          injection h5
        obtain ⟨P, hP⟩ : ∃ P, ps.length = P := ⟨_, rfl⟩
        obtain ⟨P1, hP1⟩ : ∃ P1, i - d = P1 := ⟨_, rfl⟩
        obtain ⟨q8, hq8'⟩ : ∃ q, vs8.length = q := ⟨_, rfl⟩
        rw [hP1] at hx
        rw [hP] at hq8
        rw [hq8'] at ho8
        unfold vLk
        dsimp only
        rw [hP, hq8']
        have hP2 : P = P1 + 1 := by have := HDD.out; omega
        have hv9 : vs8.map core = r.l.drop i1 := by rw [hv8, List.drop_drop]; congr 1; have := HDD.out; have := HI1.out; omega
        obtain ⟨n8, hn8⟩ : ∃ n, w8.heap.size = n := ⟨_, rfl⟩
        obtain ⟨W8, hW8⟩ : ∃ X, w8.alloc (.cells #[.int .i64 r.s.mn, .int .i64 r.s.mx, .int .i64 r.s.rt, .bool r.s.dn, .int .i64 r.s.idle, .int .i64 r.s.next, .slice f8 q8 c8] 26) = X := ⟨_, rfl⟩
        have hz8 : Below w8.heap.size w8 W8 := by rw [← hW8]; exact al1 _ _
        have HN8 : Hid (W8.heap[n8]? = some (.cells #[.int .i64 r.s.mn, .int .i64 r.s.mx, .int .i64 r.s.rt, .bool r.s.dn, .int .i64 r.s.idle, .int .i64 r.s.next, .slice f8 q8 c8] 26)) := hid (by rw [← hW8, ← hn8]; exact heap_alloc_new _ _)
        have HBW8 : Hid (Below wr.heap.size wr W8) := hid (HBV8.out.trans ((hb8.trans (hz8.mono hb8.size)).mono HBV8.out.size))
        have HO8 := hid (own_keep ho8 (keep_below hz8))
        have HP8 := hid (fun x hx => (hp8 x hx).keep (keep_below hz8))
        have hPY : PyL W8 (.slice qA P qc) ps := py_of_own (own_keep hq8 (keep_below hz8)) (fun x hx => (hl8 x hx).keep (keep_below hz8))
        have HV9 := hid hv9
        have HQ8 := hid hq8'
        have HW8 := hid hW8
        have HNN8 := hid hn8
        have hst : sts[i]? = some (sts[i]'(by rw [HN.out]; exact hin)) := List.getElem?_eq_getElem _
        obtain ⟨st, hste⟩ : ∃ st, sts[i]'(by rw [HN.out]; exact hin) = st := ⟨_, rfl⟩
        rw [hste] at hst
        obtain ⟨sz, wt⟩ := st
        have hxm := List.mem_of_getElem? hx
        have hxb := hPY.1 x hxm
        obtain ⟨qb, qo, rfl, hqb, hqc⟩ := py_cells hPY (by omega)
        have p0 := hqc P1 x hx
        obtain ⟨xt, xn, xd, xp⟩ := x
        dsimp only at hxb p0
        obtain rfl : xp = pay sz i := by
          have h5 : xp = po sts i := congrArg (fun z : Fc => z.2.2) hxc
          rw [h5, po_at hst]
        obtain ⟨xA, xc, rfl⟩ := byt_form hxb
        obtain ⟨xb, xo, rfl, hxbl, _⟩ := byt_at hxb (by unfold pay; simp)
        obtain ⟨xm, hxl⟩ : ∃ xm, (pay sz i).length = xm := ⟨_, rfl⟩
        rw [hxl] at p0 hxb
        have dP : ((P : Int) == 0) = false := by rw [beq_eq_false_iff_ne]; omega
        have eP : IntKind.i64.wrap ((P : Int) - 1) = (P1 : Int) := by rw [IntKind.wrap_i64]; omega
        have hPlt : P1 < P := by omega
        have hSt : Sts W8 (.slice A N c) sts := HS.out.below (HBr.out.trans (HBW8.out.mono HBr.out.size))
        obtain ⟨tb, tq, rfl, htb, htc⟩ := sts_cells hSt (by rw [HN.out]; omega)
        obtain ⟨s0, s1⟩ := htc i _ hst
        obtain ⟨hsz, hwt⟩ := hSt.1 _ (List.mem_of_getElem? hst)
        dsimp only at s0 s1 hsz hwt
        have hi8 : i < 256 := by omega
        have hx6 := (HBW8.out.block g (box_lt HXr.out)).trans HXr.out
        have x3 := cell_of_row _ _ 3 _ _ _ hx6
        obtain ⟨S, hS⟩ : ∃ S, strOfNums (ints (pay sz i)) = S := ⟨_, rfl⟩
        have HSS := hid hS
        have HXB := hid hxb
        have HHeld := hid (fun (X : World) (hX : Below W8.heap.size W8 X) => (show X.cell? ⟨qb, qo + P1, none⟩ = some (.slice (some ⟨xb, xo, none⟩) xm xc) ∧ X.cell? ⟨g, 3, none⟩ = some (.slice (some ⟨tb, tq, none⟩) N c) ∧ X.cell? ⟨tb, tq + i * 2, none⟩ = some (.int .u8 (sz : Int)) ∧ X.cell? ⟨tb, tq + i * 2 + 1, none⟩ = some (.int .u8 (wt : Int)) ∧ (convert 37 9 (.slice (some ⟨xb, xo, none⟩) xm xc)).run Try.prog X = .ok (.string S) X from ⟨(hX.cell (p := ⟨qb, qo + P1, none⟩) hqb).trans p0, (hX.cell (p := ⟨g, 3, none⟩) (box_lt hx6)).trans x3, (hX.cell (p := ⟨tb, tq + i * 2, none⟩) htb).trans s0, (hX.cell (p := ⟨tb, tq + i * 2 + 1, none⟩) htb).trans s1, by rw [← HSS.out]; exact conv_at HXB.out hX⟩))
        have hHeld := HHeld.out W8.drew (Below.refl _ W8).drew
        have dS' : (S.toList != S.toList) = false := by simp
        have HPAY := hid (fun (X : World) => payload_any sz wt i X hsz hi8)
        clear hqc hxc htc hSt hst hste hsz hwt hxm hx hS hxl hxb p0 x3 s0 s1 hx6 y0 y1 y2 y3 y4 y5 y6 hmX hW8 hn8 hz8 ho8 hv8 hp8 hq8 hk8 hl8 hb8 hq8' hv9 hP2 hPl hP hP1 hPY HDB
        go_upto_region 19 with fail
        rw [HW8.out, HNN8.out]
        refine region_tail 20 (fun X => X.cell? ⟨qb, qo + P1, none⟩ = some (.slice (some ⟨xb, xo, none⟩) xm xc) ∧ X.cell? ⟨g, 3, none⟩ = some (.slice (some ⟨tb, tq, none⟩) N c) ∧ X.cell? ⟨tb, tq + i * 2, none⟩ = some (.int .u8 (sz : Int)) ∧ X.cell? ⟨tb, tq + i * 2 + 1, none⟩ = some (.int .u8 (wt : Int)) ∧ (convert 37 9 (.slice (some ⟨xb, xo, none⟩) xm xc)).run Try.prog X = .ok (.string S) X) (by kernel_rfl) ?_
        refine' wpAnyT_take (i := 0) (oi := ?oiub0) (v := ?vub0) ?hiub0 (by kernel_rfl) (by kernel_rfl) ?hqub0 ?hyub0 hHeld ?restub0
        case hiub0 => (simp only [List.getElem?_toArray, List.getElem?_cons_zero]; rfl)
        case hqub0 => exact fun _ _ _ h => h
        case hyub0 => (refine Or.inl ⟨by rfl, ?_⟩; intro w' hSw; (try dsimp only at hSw); go_simp; try with_reducible rfl)
        (try simp only [Act.put, List.setIfInBounds_toArray, List.set_cons_zero, List.set_cons_succ])
        refine' wpAnyT_take (i := 1) (oi := ?oiub1) (v := ?vub1) ?hiub1 (by kernel_rfl) (by kernel_rfl) ?hqub1 ?hyub1 hHeld ?restub1
        case hiub1 => (simp only [List.getElem?_toArray, List.getElem?_cons_zero, List.getElem?_cons_succ]; rfl)
        case hqub1 => exact fun _ _ _ h => h
        case hyub1 => (refine Or.inl ⟨by rfl, ?_⟩; intro w' hSw; (try dsimp only at hSw); go_simp; try with_reducible rfl)
        (try simp only [Act.put, List.setIfInBounds_toArray, List.set_cons_zero, List.set_cons_succ])
        refine' wpAnyT_take (i := 2) (oi := ?oiub2) (v := ?vub2) ?hiub2 (by kernel_rfl) (by kernel_rfl) ?hqub2 ?hyub2 hHeld ?restub2
        case hiub2 => (simp only [List.getElem?_toArray, List.getElem?_cons_zero, List.getElem?_cons_succ]; rfl)
        case hqub2 => exact fun _ _ _ h => h
        case hyub2 => (refine Or.inl ⟨by rfl, ?_⟩; intro w' hSw; (try dsimp only at hSw); go_simp; try with_reducible rfl)
        (try simp only [Act.put, List.setIfInBounds_toArray, List.set_cons_zero, List.set_cons_succ])
        refine' wpAnyT_take (i := 3) (oi := ?oiub3) (v := ?vub3) ?hiub3 (by kernel_rfl) (by kernel_rfl) ?hqub3 ?hyub3 hHeld ?restub3
        case hiub3 => (simp only [List.getElem?_toArray, List.getElem?_cons_zero, List.getElem?_cons_succ]; rfl)
        case hqub3 => exact fun _ _ _ h => h
        case hyub3 => (refine Or.inl ⟨by rfl, ?_⟩; intro w' hSw; (try dsimp only at hSw); go_simp; try with_reducible rfl)
        (try simp only [Act.put, List.setIfInBounds_toArray, List.set_cons_zero, List.set_cons_succ])
        refine' wpAnyT_take (i := 4) (oi := ?oiub4) (v := ?vub4) ?hiub4 (by kernel_rfl) (by kernel_rfl) ?hqub4 ?hyub4 hHeld ?restub4
        case hiub4 => (simp only [List.getElem?_toArray, List.getElem?_cons_zero, List.getElem?_cons_succ]; rfl)
        case hqub4 => exact fun _ _ _ h => h
        case hyub4 => (refine Or.inl ⟨by rfl, ?_⟩; intro w' hSw; (try dsimp only at hSw); go_simp; try with_reducible rfl)
        (try simp only [Act.put, List.setIfInBounds_toArray, List.set_cons_zero, List.set_cons_succ])
        refine' wpAnyT_take (i := 5) (oi := ?oiub5) (v := ?vub5) ?hiub5 (by kernel_rfl) (by kernel_rfl) ?hqub5 ?hyub5 hHeld ?restub5
        case hiub5 => (simp only [List.getElem?_toArray, List.getElem?_cons_zero, List.getElem?_cons_succ]; rfl)
        case hqub5 => exact fun _ _ _ h => h
        case hyub5 => (refine Or.inl ⟨by rfl, ?_⟩; intro w' hSw; (try dsimp only at hSw); go_simp; try with_reducible rfl)
        (try simp only [Act.put, List.setIfInBounds_toArray, List.set_cons_zero, List.set_cons_succ])
        refine' wpAnyT_take (i := 6) (oi := ?oiub6) (v := ?vub6) ?hiub6 (by kernel_rfl) (by kernel_rfl) ?hqub6 ?hyub6 hHeld ?restub6
        case hiub6 => (simp only [List.getElem?_toArray, List.getElem?_cons_zero, List.getElem?_cons_succ]; rfl)
        case hqub6 => exact fun _ _ _ h => h
        case hyub6 => (refine Or.inl ⟨by rfl, ?_⟩; intro w' hSw; (try dsimp only at hSw); go_simp; try with_reducible rfl)
        (try simp only [Act.put, List.setIfInBounds_toArray, List.set_cons_zero, List.set_cons_succ])
        refine' wpAnyT_take (i := 7) (oi := ?oiub7) (v := ?vub7) ?hiub7 (by kernel_rfl) (by kernel_rfl) ?hqub7 ?hyub7 hHeld ?restub7
        case hiub7 => (simp only [List.getElem?_toArray, List.getElem?_cons_zero, List.getElem?_cons_succ]; rfl)
        case hqub7 => exact fun _ _ _ h => h
        case hyub7 => (refine Or.inl ⟨by rfl, ?_⟩; intro w' hSw; (try dsimp only at hSw); go_simp; try with_reducible rfl)
        (try simp only [Act.put, List.setIfInBounds_toArray, List.set_cons_zero, List.set_cons_succ])
        refine' wpAnyT_take (i := 8) (oi := ?oiub8) (v := ?vub8) ?hiub8 (by kernel_rfl) (by kernel_rfl) ?hqub8 ?hyub8 hHeld ?restub8
        case hiub8 => (simp only [List.getElem?_toArray, List.getElem?_cons_zero, List.getElem?_cons_succ]; rfl)
        case hqub8 => exact fun _ _ _ h => h
        case hyub8 => (refine Or.inl ⟨by rfl, ?_⟩; intro w' hSw; (try dsimp only at hSw); go_simp; try with_reducible rfl)
        (try simp only [Act.put, List.setIfInBounds_toArray, List.set_cons_zero, List.set_cons_succ])
        refine' wpAnyT_take (i := 9) (oi := ?oiub9) (v := ?vub9) ?hiub9 (by kernel_rfl) (by kernel_rfl) ?hqub9 ?hyub9 hHeld ?restub9
        case hiub9 => (simp only [List.getElem?_toArray, List.getElem?_cons_zero, List.getElem?_cons_succ]; rfl)
        case hqub9 => exact fun _ _ _ h => h
        case hyub9 => (refine Or.inl ⟨by rfl, ?_⟩; intro w' hSw; (try dsimp only at hSw); go_simp; try with_reducible rfl)
        (try simp only [Act.put, List.setIfInBounds_toArray, List.set_cons_zero, List.set_cons_succ])
        refine' wpAnyT_take (i := 10) (oi := ?oiub10) (v := ?vub10) ?hiub10 (by kernel_rfl) (by kernel_rfl) ?hqub10 ?hyub10 hHeld ?restub10
        case hiub10 => (simp only [List.getElem?_toArray, List.getElem?_cons_zero, List.getElem?_cons_succ]; rfl)
        case hqub10 => exact fun _ _ _ h => h
        case hyub10 => (refine Or.inl ⟨by rfl, ?_⟩; intro w' hSw; (try dsimp only at hSw); go_simp; try with_reducible rfl)
        (try simp only [Act.put, List.setIfInBounds_toArray, List.set_cons_zero, List.set_cons_succ])
        refine' wpAnyT_take (i := 11) (oi := ?oiub11) (v := ?vub11) ?hiub11 (by kernel_rfl) (by kernel_rfl) ?hqub11 ?hyub11 hHeld ?restub11
        case hiub11 => (simp only [List.getElem?_toArray, List.getElem?_cons_zero, List.getElem?_cons_succ]; rfl)
        case hqub11 => exact fun _ _ _ h => h
        case hyub11 => (refine Or.inl ⟨by rfl, ?_⟩; intro w' hSw; (try dsimp only at hSw); go_simp; try with_reducible rfl)
        (try simp only [Act.put, List.setIfInBounds_toArray, List.set_cons_zero, List.set_cons_succ])
        refine' wpAnyT_take (i := 12) (oi := ?oiub12) (v := ?vub12) ?hiub12 (by kernel_rfl) (by kernel_rfl) ?hqub12 ?hyub12 hHeld ?restub12
        case hiub12 => (simp only [List.getElem?_toArray, List.getElem?_cons_zero, List.getElem?_cons_succ]; rfl)
        case hqub12 => exact fun _ _ _ h => h
        case hyub12 => (refine Or.inl ⟨by rfl, ?_⟩; intro w' hSw; (try dsimp only at hSw); go_simp; try with_reducible rfl)
        (try simp only [Act.put, List.setIfInBounds_toArray, List.set_cons_zero, List.set_cons_succ])
        refine' wpAnyT_take (i := 13) (oi := ?oiub13) (v := ?vub13) ?hiub13 (by kernel_rfl) (by kernel_rfl) ?hqub13 ?hyub13 hHeld ?restub13
        case hiub13 => (simp only [List.getElem?_toArray, List.getElem?_cons_zero, List.getElem?_cons_succ]; rfl)
        case hqub13 => exact fun _ _ _ h => h
        case hyub13 => (refine Or.inl ⟨by rfl, ?_⟩; intro w' hSw; (try dsimp only at hSw); go_simp; try with_reducible rfl)
        (try simp only [Act.put, List.setIfInBounds_toArray, List.set_cons_zero, List.set_cons_succ])
        refine' wpAnyT_take (i := 14) (oi := ?oiub14) (v := ?vub14) ?hiub14 (by kernel_rfl) (by kernel_rfl) ?hqub14 ?hyub14 hHeld ?restub14
        case hiub14 => (simp only [List.getElem?_toArray, List.getElem?_cons_zero, List.getElem?_cons_succ]; rfl)
        case hqub14 => exact fun _ _ _ h => h
        case hyub14 => (refine Or.inl ⟨by rfl, ?_⟩; intro w' hSw; (try dsimp only at hSw); go_simp; try with_reducible rfl)
        (try simp only [Act.put, List.setIfInBounds_toArray, List.set_cons_zero, List.set_cons_succ])
        refine' wpAnyT_take (i := 15) (oi := ?oiub15) (v := ?vub15) ?hiub15 (by kernel_rfl) (by kernel_rfl) ?hqub15 ?hyub15 hHeld ?restub15
        case hiub15 => (simp only [List.getElem?_toArray, List.getElem?_cons_zero, List.getElem?_cons_succ]; rfl)
        case hqub15 => exact fun _ _ _ h => h
        case hyub15 => (refine Or.inl ⟨by rfl, ?_⟩; intro w' hSw; (try dsimp only at hSw); go_simp; try with_reducible rfl)
        (try simp only [Act.put, List.setIfInBounds_toArray, List.set_cons_zero, List.set_cons_succ])
        refine' wpAnyT_take (i := 16) (oi := ?oiub16) (v := ?vub16) ?hiub16 (by kernel_rfl) (by kernel_rfl) ?hqub16 ?hyub16 hHeld ?restub16
        case hiub16 => (simp only [List.getElem?_toArray, List.getElem?_cons_zero, List.getElem?_cons_succ]; rfl)
        case hqub16 => exact fun _ _ _ h => h
        case hyub16 => (refine Or.inl ⟨by rfl, ?_⟩; intro w' hSw; (try dsimp only at hSw); go_simp; try with_reducible rfl)
        (try simp only [Act.put, List.setIfInBounds_toArray, List.set_cons_zero, List.set_cons_succ])
        refine wpAnyT_all (l := [17]) (by kernel_rfl) (by decide) ?_
        intro ii hii
        simp only [List.mem_cons, List.not_mem_nil, or_false] at hii
        subst hii
        refine ⟨_, by (simp only [List.getElem?_toArray, List.getElem?_cons_zero, List.getElem?_cons_succ]; rfl), fun KK hKK => ?_⟩
        go_simp
        go_at_call 32
        refine (HPAY.out W8.drew).mono ?_
        rintro e w9 ⟨pv, rfl, hpo, hb9⟩
        obtain ⟨pA, pc, rfl⟩ := own_form hpo
        obtain ⟨pl, hpl⟩ : ∃ pl, (pay sz i).length = pl := ⟨_, rfl⟩
        rw [hpl] at hpo
        have hb7 : Below W8.heap.size W8 w9 := (Below.refl _ W8).drew.trans hb9
        have hHeld6 := HHeld.out w9 hb7
        have hc2 : (convert 37 9 (.slice pA pl pc)).run Try.prog w9 = .ok (.string S) w9 := by rw [← HSS.out]; exact byt_conv (byt_of_own hpo (pay_b8 sz i hi8))
        (try rw [hpl])
        have HB9 := hid hb7
        clear hpo hb9 hb7 hpl
        refine hKK.out _ _ (fun _ => hHeld6) ?_
        clear hKK KK
        (try simp only [Act.put, List.setIfInBounds_toArray, List.set_cons_zero, List.set_cons_succ])
        refine wpAnyT_all (l := [18]) (by kernel_rfl) (by decide) ?_
        intro ii hii
        simp only [List.mem_cons, List.not_mem_nil, or_false] at hii
        subst hii
        refine ⟨_, by (simp only [List.getElem?_toArray, List.getElem?_cons_zero, List.getElem?_cons_succ]; rfl), fun KK hKK => ?_⟩
        go_simp
        refine hKK.out _ _ (fun _ => hHeld6) ?_
        clear hKK KK
        (try simp only [Act.put, List.setIfInBounds_toArray, List.set_cons_zero, List.set_cons_succ])
        refine wpAnyT_all (l := [19]) (by kernel_rfl) (by decide) ?_
        intro ii hii
        simp only [List.mem_cons, List.not_mem_nil, or_false] at hii
        subst hii
        refine ⟨_, by (simp only [List.getElem?_toArray, List.getElem?_cons_zero, List.getElem?_cons_succ]; rfl), fun KK hKK => ?_⟩
        go_simp
        refine hKK.out _ _ (fun _ => hHeld6) ?_
        clear hKK KK
        (try simp only [Act.put, List.setIfInBounds_toArray, List.set_cons_zero, List.set_cons_succ])
        refine wpAnyT_all (l := [20]) (by kernel_rfl) (by decide) ?_
        intro ii hii
        simp only [List.mem_cons, List.not_mem_nil, or_false] at hii
        subst hii
        refine ⟨_, by (simp only [List.getElem?_toArray, List.getElem?_cons_zero, List.getElem?_cons_succ]; rfl), fun KK hKK => ?_⟩
        go_simp
        refine hKK.out _ _ (fun h => absurd h (by decide)) ?_
        clear hKK KK
        (try simp only [Act.put, List.setIfInBounds_toArray, List.set_cons_zero, List.set_cons_succ])
        refine wpAnyT_done (by kernel_rfl) ?_ _
        have HBw9 : Hid (Below wr.heap.size wr w9) := hid (HBW8.out.trans (HB9.out.mono HBW8.out.size))
        have hn9 := (HB9.out.block _ (box_lt HN8.out)).trans HN8.out
        have hm9 := (HBw9.out.block m hmr).trans HMR.out
        have ho9 := own_keep HO8.out (keep_below HB9.out)
        have z0 := cell_of_row _ _ 0 _ _ _ hn9
        have z1 := cell_of_row _ _ 1 _ _ _ hn9
        have z2 := cell_of_row _ _ 2 _ _ _ hn9
        have z3 := cell_of_row _ _ 3 _ _ _ hn9
        have z4 := cell_of_row _ _ 4 _ _ _ hn9
        have z5 := cell_of_row _ _ 5 _ _ _ hn9
        have z6 := cell_of_row _ _ 6 _ _ _ hn9
        have y0 := cell_of_row _ _ 0 _ _ _ (show w9.heap[m]? = some (.cells #[.int .i64 r.s.mn, .int .i64 r.s.mx, .int .i64 r.s.rt, .bool r.s.dn, .int .i64 r.s.idle, .int .i64 r.s.next, .slice fA2 q fc2] 26) from hm9)
        have y1 := cell_of_row _ _ 1 _ _ _ (show w9.heap[m]? = some (.cells #[.int .i64 r.s.mn, .int .i64 r.s.mx, .int .i64 r.s.rt, .bool r.s.dn, .int .i64 r.s.idle, .int .i64 r.s.next, .slice fA2 q fc2] 26) from hm9)
        have y2 := cell_of_row _ _ 2 _ _ _ (show w9.heap[m]? = some (.cells #[.int .i64 r.s.mn, .int .i64 r.s.mx, .int .i64 r.s.rt, .bool r.s.dn, .int .i64 r.s.idle, .int .i64 r.s.next, .slice fA2 q fc2] 26) from hm9)
        have y3 := cell_of_row _ _ 3 _ _ _ (show w9.heap[m]? = some (.cells #[.int .i64 r.s.mn, .int .i64 r.s.mx, .int .i64 r.s.rt, .bool r.s.dn, .int .i64 r.s.idle, .int .i64 r.s.next, .slice fA2 q fc2] 26) from hm9)
        have y4 := cell_of_row _ _ 4 _ _ _ (show w9.heap[m]? = some (.cells #[.int .i64 r.s.mn, .int .i64 r.s.mx, .int .i64 r.s.rt, .bool r.s.dn, .int .i64 r.s.idle, .int .i64 r.s.next, .slice fA2 q fc2] 26) from hm9)
        have y5 := cell_of_row _ _ 5 _ _ _ (show w9.heap[m]? = some (.cells #[.int .i64 r.s.mn, .int .i64 r.s.mx, .int .i64 r.s.rt, .bool r.s.dn, .int .i64 r.s.idle, .int .i64 r.s.next, .slice fA2 q fc2] 26) from hm9)
        have y6 := cell_of_row _ _ 6 _ _ _ (show w9.heap[m]? = some (.cells #[.int .i64 r.s.mn, .int .i64 r.s.mx, .int .i64 r.s.rt, .bool r.s.dn, .int .i64 r.s.idle, .int .i64 r.s.next, .slice fA2 q fc2] 26) from hm9)
        have fy0 := box_fr hm9 0
        have fy1 := box_fr hm9 1
        have fy2 := box_fr hm9 2
        have fy3 := box_fr hm9 3
        have fy4 := box_fr hm9 4
        have fy5 := box_fr hm9 5
        have fy6 := box_fr hm9 6
        obtain ⟨W9, hW9⟩ : ∃ X, (((((((w9.setCell ⟨m, 0, none⟩ (.int .i64 r.s.mn)).setCell ⟨m, 1, none⟩ (.int .i64 r.s.mx)).setCell ⟨m, 2, none⟩ (.int .i64 r.s.rt)).setCell ⟨m, 3, none⟩ (.bool r.s.dn)).setCell ⟨m, 4, none⟩ (.int .i64 r.s.idle)).setCell ⟨m, 5, none⟩ (.int .i64 r.s.next)).setCell ⟨m, 6, none⟩ (.slice f8 q8 c8)) = X := ⟨_, rfl⟩
        have HM9 : Hid (W9.heap[m]? = some (.cells #[.int .i64 r.s.mn, .int .i64 r.s.mx, .int .i64 r.s.rt, .bool r.s.dn, .int .i64 r.s.idle, .int .i64 r.s.next, .slice f8 q8 c8] 26)) := hid (by rw [← hW9]; exact set7h _ _ _ _ _ _ _ hm9)
        have HO9 : Hid (W9.ownsRow 0 69 3 (.slice f8 q8 c8) vs8.length (vs8.map cFl).flatten) := hid (by rw [HQ8.out, ← hW9]; exact own_base (own_keep ho9 (set7k hm9 (by decide) _ _ _ _ _ _ _)) (Nat.zero_le _))
        have HP9 : Hid (∀ x ∈ vs8, Pay W9 x) := hid (fun x hx => by rw [← hW9]; exact ((HP8.out x hx).keep (keep_below HB9.out)).keep (set7k hm9 (by decide) _ _ _ _ _ _ _))
        have HB10 : Hid (Below m w3 W9) := hid (by rw [← hW9]; exact set7b _ _ _ _ _ _ _ (HB.out.trans (HBw9.out.mono HMS.out)) (Nat.le_refl _))
        have HW9 := hid hW9
        clear hW9 hn9 hm9 ho9 hHeld hHeld6 hc2
        go_upto_region 9 with fail
        rw [HW9.out]
        go_wp2_with fail
        go_roundw
        case rel => exact ⟨i1, i1, _, vs8, by have := HI1.out; omega, rfl, hid ⟨Nat.le_refl _, .inl rfl⟩, HV9, HM9, HO9, HP9, HB10⟩
        case measure => have := HI1.out; simp [Lib.intOf]; omega

    · obtain ⟨j0, hj0⟩ : ∃ j0, j0 + 1 = i := ⟨i - 1, by omega⟩
      have hj0N : j0 < N := by omega
      have hj0N' : (j0 : Int) < (N : Int) := by omega
      have dz : ((i : Int) == 0) = false := by rw [beq_eq_false_iff_ne]; omega
      have dp : decide ((0 : Int) < (i : Int)) = true := decide_eq_true (by omega)
      have dp' : decide (0 < i) = true := decide_eq_true (by omega)
      have ei0 : IntKind.i64.wrap ((i : Int) - 1) = (j0 : Int) := by rw [IntKind.wrap_i64]; omega
      have hI0c := HAT.out j0 hj0N
      have hmo := HMO.out (j0 + 1) (i + 1) (by omega) (by omega)
      rw [HII2.out] at hmo
      obtain ⟨I0, hI0⟩ : ∃ I0, idl mn mn rt [] sts (j0 + 1) = I0 := ⟨_, rfl⟩
      rw [hI0] at hI0c hmo
      have HI0c := hid hI0c
      have hii0 : w5.cell? ⟨bi, oi + j0, none⟩ = some (.int .i64 I0) := HID.out j0 I0 HI0c.out w5 HBw5.out
      have dlt : decide (I < I0) = false := decide_eq_false (by omega)
      have HI0 := hid hi0
      have HJ0 := hid hj0
      clear hi0 hd2 hj0 hmo hI0 hI0c
      go_upto_region 11 with fail
      go_quiet (fail)
      obtain ⟨V1, hV1⟩ : ∃ X, w5.drewN nq = X := ⟨_, rfl⟩
      rw [hV1]
      have HBV1 : Hid (Below wr.heap.size wr V1) := hid (by rw [← hV1]; exact below_both_drewN HBw5.out _)
      clear hV1
      clear x0 hii hii0 dp dp' dlt
      have hii : V1.cell? ⟨bi, oi + i, none⟩ = some (.int .i64 I) := HID.out i I HIC.out V1 HBV1.out
      have hii0 : V1.cell? ⟨bi, oi + j0, none⟩ = some (.int .i64 I0) := HID.out j0 I0 HI0c.out V1 HBV1.out
      by_cases hgt : I0 < I
      · have dgt : decide (I0 < I) = true := decide_eq_true hgt
        go_upto_region 13 with fail
        go_quiet (fail)
        obtain ⟨V2, hV2⟩ : ∃ X, V1.drewN nq = X := ⟨_, rfl⟩
        rw [hV2]
        have HBV2 : Hid (Below wr.heap.size wr V2) := hid (by rw [← hV2]; exact below_both_drewN HBV1.out _)
        clear hV2
        clear dz dgt hii hii0
        have HD0 : delN r.s (r.l.drop d) (I + mn - 1) = 0 := del_eq HOD.out (Nat.zero_le _) (fun j x hj => absurd hj (by omega)) (fun x hx => by
          rw [HL.out] at hx
          obtain ⟨_, rfl⟩ := flt_drop hx
          show I + mn - 1 < idl mn mn rt [] sts (d + 0 + 1) + mn
          rw [Nat.add_zero, hdi]
          omega)
        have HDA := hid (HDV.out (I + mn - 1) V2 HBV2.out)
        rw [HD0] at HDA
        have hmX := (HBV2.out.block m hmr).trans HMR.out
        have y0 := cell_of_row _ _ 0 _ _ _ (show V2.heap[m]? = some (.cells #[.int .i64 r.s.mn, .int .i64 r.s.mx, .int .i64 r.s.rt, .bool r.s.dn, .int .i64 r.s.idle, .int .i64 r.s.next, .slice fA2 q fc2] 26) from hmX)
        have y1 := cell_of_row _ _ 1 _ _ _ (show V2.heap[m]? = some (.cells #[.int .i64 r.s.mn, .int .i64 r.s.mx, .int .i64 r.s.rt, .bool r.s.dn, .int .i64 r.s.idle, .int .i64 r.s.next, .slice fA2 q fc2] 26) from hmX)
        have y2 := cell_of_row _ _ 2 _ _ _ (show V2.heap[m]? = some (.cells #[.int .i64 r.s.mn, .int .i64 r.s.mx, .int .i64 r.s.rt, .bool r.s.dn, .int .i64 r.s.idle, .int .i64 r.s.next, .slice fA2 q fc2] 26) from hmX)
        have y3 := cell_of_row _ _ 3 _ _ _ (show V2.heap[m]? = some (.cells #[.int .i64 r.s.mn, .int .i64 r.s.mx, .int .i64 r.s.rt, .bool r.s.dn, .int .i64 r.s.idle, .int .i64 r.s.next, .slice fA2 q fc2] 26) from hmX)
        have y4 := cell_of_row _ _ 4 _ _ _ (show V2.heap[m]? = some (.cells #[.int .i64 r.s.mn, .int .i64 r.s.mx, .int .i64 r.s.rt, .bool r.s.dn, .int .i64 r.s.idle, .int .i64 r.s.next, .slice fA2 q fc2] 26) from hmX)
        have y5 := cell_of_row _ _ 5 _ _ _ (show V2.heap[m]? = some (.cells #[.int .i64 r.s.mn, .int .i64 r.s.mx, .int .i64 r.s.rt, .bool r.s.dn, .int .i64 r.s.idle, .int .i64 r.s.next, .slice fA2 q fc2] 26) from hmX)
        have y6 := cell_of_row _ _ 6 _ _ _ (show V2.heap[m]? = some (.cells #[.int .i64 r.s.mn, .int .i64 r.s.mx, .int .i64 r.s.rt, .bool r.s.dn, .int .i64 r.s.idle, .int .i64 r.s.next, .slice fA2 q fc2] 26) from hmX)
        clear HD0
        go_upto_region 14 with fail
        go_wp2_with fail
        refine HDA.out.mono ?_
        rintro e w6 ⟨v6, pv6, ps6, rfl, ⟨fv6, vs6, rfl, ho6, hv6, hp6⟩, hq6, hk6, hl6, hb6⟩
        obtain rfl : ps6 = [] := by simpa using hk6
        obtain ⟨f6, c6, rfl⟩ := own_form69 ho6
        obtain ⟨pA6, pc6, rfl⟩ := own_formE hq6
        rw [List.drop_zero] at hv6
        obtain ⟨q6, hq6'⟩ : ∃ q, vs6.length = q := ⟨_, rfl⟩
        rw [hq6'] at ho6
        unfold vLk
        dsimp only
        rw [hq6', show ([] : List Fl).length = 0 from rfl]
        obtain ⟨n6, hn6⟩ : ∃ n, w6.heap.size = n := ⟨_, rfl⟩
        obtain ⟨V6, hV6⟩ : ∃ X, w6.alloc (.cells #[.int .i64 r.s.mn, .int .i64 r.s.mx, .int .i64 r.s.rt, .bool r.s.dn, .int .i64 r.s.idle, .int .i64 r.s.next, .slice f6 q6 c6] 26) = X := ⟨_, rfl⟩
        have hz6 : Below w6.heap.size w6 V6 := by rw [← hV6]; exact al1 _ _
        have hN6 : V6.heap[n6]? = some (.cells #[.int .i64 r.s.mn, .int .i64 r.s.mx, .int .i64 r.s.rt, .bool r.s.dn, .int .i64 r.s.idle, .int .i64 r.s.next, .slice f6 q6 c6] 26) := by rw [← hV6, ← hn6]; exact heap_alloc_new _ _
        have HBV6 : Hid (Below wr.heap.size wr V6) := hid (HBV2.out.trans ((hb6.trans (hz6.mono hb6.size)).mono HBV2.out.size))
        have hFL6 : FL V6 (.slice f6 q6 c6) vs6 := (fl_of_own ho6 hq6' hp6).below hz6
        have HSM := hid (same_any r.s vs6 vs _ _ V6 hFL6 (HFL.out.below HBV6.out) (by rw [hq6', ← hq6', map_cores (hv6.trans HV.out.symm)]; have := HVL.out; have := HQ.out; omega) (hv6.trans HV.out.symm))
        unfold vLk at HSM
        have HV6 := hid hV6
        have HN6 := hid hn6
        have hm6 := (HBV6.out.block m hmr).trans HMR.out
        clear y0 y1 y2 y3 y4 y5 y6 hmX hV6 hn6 hz6 ho6 hv6 hp6 hq6 hk6 hl6 hb6 hq6' hFL6 HDA
        go_upto_region 15 with fail
        rw [HV6.out, HN6.out]
        have y0 := cell_of_row _ _ 0 _ _ _ (show V6.heap[m]? = some (.cells #[.int .i64 r.s.mn, .int .i64 r.s.mx, .int .i64 r.s.rt, .bool r.s.dn, .int .i64 r.s.idle, .int .i64 r.s.next, .slice fA2 q fc2] 26) from hm6)
        have y1 := cell_of_row _ _ 1 _ _ _ (show V6.heap[m]? = some (.cells #[.int .i64 r.s.mn, .int .i64 r.s.mx, .int .i64 r.s.rt, .bool r.s.dn, .int .i64 r.s.idle, .int .i64 r.s.next, .slice fA2 q fc2] 26) from hm6)
        have y2 := cell_of_row _ _ 2 _ _ _ (show V6.heap[m]? = some (.cells #[.int .i64 r.s.mn, .int .i64 r.s.mx, .int .i64 r.s.rt, .bool r.s.dn, .int .i64 r.s.idle, .int .i64 r.s.next, .slice fA2 q fc2] 26) from hm6)
        have y3 := cell_of_row _ _ 3 _ _ _ (show V6.heap[m]? = some (.cells #[.int .i64 r.s.mn, .int .i64 r.s.mx, .int .i64 r.s.rt, .bool r.s.dn, .int .i64 r.s.idle, .int .i64 r.s.next, .slice fA2 q fc2] 26) from hm6)
        have y4 := cell_of_row _ _ 4 _ _ _ (show V6.heap[m]? = some (.cells #[.int .i64 r.s.mn, .int .i64 r.s.mx, .int .i64 r.s.rt, .bool r.s.dn, .int .i64 r.s.idle, .int .i64 r.s.next, .slice fA2 q fc2] 26) from hm6)
        have y5 := cell_of_row _ _ 5 _ _ _ (show V6.heap[m]? = some (.cells #[.int .i64 r.s.mn, .int .i64 r.s.mx, .int .i64 r.s.rt, .bool r.s.dn, .int .i64 r.s.idle, .int .i64 r.s.next, .slice fA2 q fc2] 26) from hm6)
        have y6 := cell_of_row _ _ 6 _ _ _ (show V6.heap[m]? = some (.cells #[.int .i64 r.s.mn, .int .i64 r.s.mx, .int .i64 r.s.rt, .bool r.s.dn, .int .i64 r.s.idle, .int .i64 r.s.next, .slice fA2 q fc2] 26) from hm6)
        have z0 := cell_of_row _ _ 0 _ _ _ hN6
        have z1 := cell_of_row _ _ 1 _ _ _ hN6
        have z2 := cell_of_row _ _ 2 _ _ _ hN6
        have z3 := cell_of_row _ _ 3 _ _ _ hN6
        have z4 := cell_of_row _ _ 4 _ _ _ hN6
        have z5 := cell_of_row _ _ 5 _ _ _ hN6
        have z6 := cell_of_row _ _ 6 _ _ _ hN6
        go_wp2_with fail
        refine HSM.out.mono ?_
        rintro e w7 ⟨rfl, hb7⟩
        have HBw7 : Hid (Below wr.heap.size wr w7) := hid (HBV6.out.trans (hb7.mono HBV6.out.size))
        clear y0 y1 y2 y3 y4 y5 y6 z0 z1 z2 z3 z4 z5 z6 hb7 HSM hm6 hN6
        have x3 := cell_of_row _ _ 3 _ _ _ ((HBw7.out.block g (box_lt HXr.out)).trans HXr.out)
        have hii : w7.cell? ⟨bi, oi + i, none⟩ = some (.int .i64 I) := HID.out i I HIC.out w7 HBw7.out
        obtain ⟨i1, hi1⟩ : ∃ k, i + 1 = k := ⟨_, rfl⟩
        have ei1 : IntKind.i64.wrap ((i : Int) + 1) = (i1 : Int) := by rw [IntKind.wrap_i64]; omega
        by_cases hn1 : i1 < N
        · have hn1' : (i1 : Int) < (N : Int) := by omega
          have dn : decide ((i1 : Int) < (N : Int)) = true := decide_eq_true hn1'
          have dn' : decide (i1 < N) = true := decide_eq_true hn1
          have hI1c := HAT.out i1 hn1
          have hmo := HMO.out i1 (i1 + 1) (by omega) (by omega)
          obtain ⟨I1, hI1⟩ : ∃ I1, idl mn mn rt [] sts (i1 + 1) = I1 := ⟨_, rfl⟩
          rw [hI1] at hI1c hmo
          have hii1 : w7.cell? ⟨bi, oi + i1, none⟩ = some (.int .i64 I1) := HID.out i1 I1 hI1c w7 HBw7.out
          have HI1 := hid hi1
          have HMM := hid hmo
          have HEI := hid hI1
          clear hi1 hmo hI1 hI1c
          by_cases he : I1 = I
          · have HEQ : Hid (idl mn mn rt [] sts (d + 1) = idl mn mn rt [] sts (i1 + 1)) := hid (by rw [hdi, HEI.out, he])
            clear HEI HMM
            subst he
            have hI1' := HI1.out
            have deq : (I1 == I1) = true := by simp
            have HIX := hid hI1'
            clear hI1'
            go_upto_region 17 with fail
            go_quiet (fail)
            go_wp2_with fail
            go_roundw
            case rel => exact ⟨i1, d, _, vs, Nat.le_of_lt hn1, rfl, hid ⟨by have := HDD.out; have := HIX.out; omega, .inr ⟨hn1, HEQ.out⟩⟩, HV, hid ((below_both_drewN HBw7.out _).block m hmr |>.trans HMR.out), hid (by rw [HQ.out]; exact own_keep HO.out (keep_below (below_both_drewN HBw7.out _))), hid (fun x hx => (HP.out x hx).keep (keep_below (below_both_drewN HBw7.out _))), hid (HB.out.trans ((below_both_drewN HBw7.out _).mono HMS.out))⟩
            case measure => have := HI1.out; simp [Lib.intOf]; omega

          · have dne : (I1 == I) = false := by rw [beq_eq_false_iff_ne]; exact he
            have HDT : Hid (delN r.s (r.l.drop d) (I + mn) = i + 1 - d) := hid (del_eq HOD.out (by rw [HL.out, List.length_drop, List.length_map, List.length_range]; have := HDD.out; omega) (fun j x hj hx => by
              rw [HL.out] at hx
              obtain ⟨h5, rfl⟩ := flt_drop hx
              have h6 := HMO.out (d + j + 1) (i + 1) (by omega) (by omega)
              rw [HII2.out] at h6
              show idl mn mn rt [] sts (d + j + 1) + mn ≤ I + mn
              omega) (fun x hx => by
              rw [HL.out] at hx
              obtain ⟨h5, rfl⟩ := flt_drop hx
              show I + mn < idl mn mn rt [] sts (d + (i + 1 - d) + 1) + mn
              have h6 := HMM.out
              have h7 := HI1.out
              have h8 := HDD.out
              rw [show d + (i + 1 - d) + 1 = i1 + 1 by omega, HEI.out]
              rw [← h7, HII2.out] at h6
              omega))
            clear he
            go_upto_region 17 with fail
            go_quiet (fail)
            obtain ⟨V8, hV8⟩ : ∃ X, w7.drewN nq = X := ⟨_, rfl⟩
            rw [hV8]
            have HBV8 : Hid (Below wr.heap.size wr V8) := hid (by rw [← hV8]; exact below_both_drewN HBw7.out _)
            clear hV8
            have HDB := hid (HDV.out (I + mn) V8 HBV8.out)
            rw [HDT.out] at HDB
            have hmX := (HBV8.out.block m hmr).trans HMR.out
            have y0 := cell_of_row _ _ 0 _ _ _ (show V8.heap[m]? = some (.cells #[.int .i64 r.s.mn, .int .i64 r.s.mx, .int .i64 r.s.rt, .bool r.s.dn, .int .i64 r.s.idle, .int .i64 r.s.next, .slice fA2 q fc2] 26) from hmX)
            have y1 := cell_of_row _ _ 1 _ _ _ (show V8.heap[m]? = some (.cells #[.int .i64 r.s.mn, .int .i64 r.s.mx, .int .i64 r.s.rt, .bool r.s.dn, .int .i64 r.s.idle, .int .i64 r.s.next, .slice fA2 q fc2] 26) from hmX)
            have y2 := cell_of_row _ _ 2 _ _ _ (show V8.heap[m]? = some (.cells #[.int .i64 r.s.mn, .int .i64 r.s.mx, .int .i64 r.s.rt, .bool r.s.dn, .int .i64 r.s.idle, .int .i64 r.s.next, .slice fA2 q fc2] 26) from hmX)
            have y3 := cell_of_row _ _ 3 _ _ _ (show V8.heap[m]? = some (.cells #[.int .i64 r.s.mn, .int .i64 r.s.mx, .int .i64 r.s.rt, .bool r.s.dn, .int .i64 r.s.idle, .int .i64 r.s.next, .slice fA2 q fc2] 26) from hmX)
            have y4 := cell_of_row _ _ 4 _ _ _ (show V8.heap[m]? = some (.cells #[.int .i64 r.s.mn, .int .i64 r.s.mx, .int .i64 r.s.rt, .bool r.s.dn, .int .i64 r.s.idle, .int .i64 r.s.next, .slice fA2 q fc2] 26) from hmX)
            have y5 := cell_of_row _ _ 5 _ _ _ (show V8.heap[m]? = some (.cells #[.int .i64 r.s.mn, .int .i64 r.s.mx, .int .i64 r.s.rt, .bool r.s.dn, .int .i64 r.s.idle, .int .i64 r.s.next, .slice fA2 q fc2] 26) from hmX)
            have y6 := cell_of_row _ _ 6 _ _ _ (show V8.heap[m]? = some (.cells #[.int .i64 r.s.mn, .int .i64 r.s.mx, .int .i64 r.s.rt, .bool r.s.dn, .int .i64 r.s.idle, .int .i64 r.s.next, .slice fA2 q fc2] 26) from hmX)
            go_upto_region 18 with fail
            go_wp2_with fail
            refine HDB.out.mono ?_
            rintro e w8 ⟨v8, pv8, ps, rfl, ⟨fv8, vs8, rfl, ho8, hv8, hp8⟩, hq8, hk8, hl8, hb8⟩
            obtain ⟨f8, c8, rfl⟩ := own_form69 ho8
            obtain ⟨qA, qc, rfl⟩ := own_formE hq8
            have hPl : ps.length = i + 1 - d := by
              have h5 := congrArg List.length hk8
              rw [List.length_map, List.length_take, List.length_drop, HL.out, List.length_map, List.length_range] at h5
              have := HDD.out
              omega
            obtain ⟨x, hx⟩ : ∃ x, ps[i - d]? = some x := ⟨ps[i - d]'(by have := HDD.out; omega), List.getElem?_eq_getElem _⟩
            have hxc : core x = flt mn rt sts i := by
              have h5 := congrArg (fun l => l[i - d]?) hk8
              simp only [List.getElem?_map, hx, Option.map_some] at h5
              rw [List.getElem?_take, if_pos (by have := HDD.out; omega), HL.out, List.getElem?_drop, show d + (i - d) = i by have := HDD.out; omega, flt_at hin] at h5
              injection h5
            obtain ⟨P, hP⟩ : ∃ P, ps.length = P := ⟨_, rfl⟩
            obtain ⟨P1, hP1⟩ : ∃ P1, i - d = P1 := ⟨_, rfl⟩
            obtain ⟨q8, hq8'⟩ : ∃ q, vs8.length = q := ⟨_, rfl⟩
            rw [hP1] at hx
            rw [hP] at hq8
            rw [hq8'] at ho8
            unfold vLk
            dsimp only
            rw [hP, hq8']
            have hP2 : P = P1 + 1 := by have := HDD.out; omega
            have hv9 : vs8.map core = r.l.drop i1 := by rw [hv8, List.drop_drop]; congr 1; have := HDD.out; have := HI1.out; omega
            obtain ⟨n8, hn8⟩ : ∃ n, w8.heap.size = n := ⟨_, rfl⟩
            obtain ⟨W8, hW8⟩ : ∃ X, w8.alloc (.cells #[.int .i64 r.s.mn, .int .i64 r.s.mx, .int .i64 r.s.rt, .bool r.s.dn, .int .i64 r.s.idle, .int .i64 r.s.next, .slice f8 q8 c8] 26) = X := ⟨_, rfl⟩
            have hz8 : Below w8.heap.size w8 W8 := by rw [← hW8]; exact al1 _ _
            have HN8 : Hid (W8.heap[n8]? = some (.cells #[.int .i64 r.s.mn, .int .i64 r.s.mx, .int .i64 r.s.rt, .bool r.s.dn, .int .i64 r.s.idle, .int .i64 r.s.next, .slice f8 q8 c8] 26)) := hid (by rw [← hW8, ← hn8]; exact heap_alloc_new _ _)
            have HBW8 : Hid (Below wr.heap.size wr W8) := hid (HBV8.out.trans ((hb8.trans (hz8.mono hb8.size)).mono HBV8.out.size))
            have HO8 := hid (own_keep ho8 (keep_below hz8))
            have HP8 := hid (fun x hx => (hp8 x hx).keep (keep_below hz8))
            have hPY : PyL W8 (.slice qA P qc) ps := py_of_own (own_keep hq8 (keep_below hz8)) (fun x hx => (hl8 x hx).keep (keep_below hz8))
            have HV9 := hid hv9
            have HQ8 := hid hq8'
            have HW8 := hid hW8
            have HNN8 := hid hn8
            have hst : sts[i]? = some (sts[i]'(by rw [HN.out]; exact hin)) := List.getElem?_eq_getElem _
            obtain ⟨st, hste⟩ : ∃ st, sts[i]'(by rw [HN.out]; exact hin) = st := ⟨_, rfl⟩
            rw [hste] at hst
            obtain ⟨sz, wt⟩ := st
            have hxm := List.mem_of_getElem? hx
            have hxb := hPY.1 x hxm
            obtain ⟨qb, qo, rfl, hqb, hqc⟩ := py_cells hPY (by omega)
            have p0 := hqc P1 x hx
            obtain ⟨xt, xn, xd, xp⟩ := x
            dsimp only at hxb p0
            obtain rfl : xp = pay sz i := by
              have h5 : xp = po sts i := congrArg (fun z : Fc => z.2.2) hxc
              rw [h5, po_at hst]
            obtain ⟨xA, xc, rfl⟩ := byt_form hxb
            obtain ⟨xb, xo, rfl, hxbl, _⟩ := byt_at hxb (by unfold pay; simp)
            obtain ⟨xm, hxl⟩ : ∃ xm, (pay sz i).length = xm := ⟨_, rfl⟩
            rw [hxl] at p0 hxb
            have dP : ((P : Int) == 0) = false := by rw [beq_eq_false_iff_ne]; omega
            have eP : IntKind.i64.wrap ((P : Int) - 1) = (P1 : Int) := by rw [IntKind.wrap_i64]; omega
            have hPlt : P1 < P := by omega
            have hSt : Sts W8 (.slice A N c) sts := HS.out.below (HBr.out.trans (HBW8.out.mono HBr.out.size))
            obtain ⟨tb, tq, rfl, htb, htc⟩ := sts_cells hSt (by rw [HN.out]; omega)
            obtain ⟨s0, s1⟩ := htc i _ hst
            obtain ⟨hsz, hwt⟩ := hSt.1 _ (List.mem_of_getElem? hst)
            dsimp only at s0 s1 hsz hwt
            have hi8 : i < 256 := by omega
            have hx6 := (HBW8.out.block g (box_lt HXr.out)).trans HXr.out
            have x3 := cell_of_row _ _ 3 _ _ _ hx6
            obtain ⟨S, hS⟩ : ∃ S, strOfNums (ints (pay sz i)) = S := ⟨_, rfl⟩
            have HSS := hid hS
            have HXB := hid hxb
            have HHeld := hid (fun (X : World) (hX : Below W8.heap.size W8 X) => (show X.cell? ⟨qb, qo + P1, none⟩ = some (.slice (some ⟨xb, xo, none⟩) xm xc) ∧ X.cell? ⟨g, 3, none⟩ = some (.slice (some ⟨tb, tq, none⟩) N c) ∧ X.cell? ⟨tb, tq + i * 2, none⟩ = some (.int .u8 (sz : Int)) ∧ X.cell? ⟨tb, tq + i * 2 + 1, none⟩ = some (.int .u8 (wt : Int)) ∧ (convert 37 9 (.slice (some ⟨xb, xo, none⟩) xm xc)).run Try.prog X = .ok (.string S) X from ⟨(hX.cell (p := ⟨qb, qo + P1, none⟩) hqb).trans p0, (hX.cell (p := ⟨g, 3, none⟩) (box_lt hx6)).trans x3, (hX.cell (p := ⟨tb, tq + i * 2, none⟩) htb).trans s0, (hX.cell (p := ⟨tb, tq + i * 2 + 1, none⟩) htb).trans s1, by rw [← HSS.out]; exact conv_at HXB.out hX⟩))
            have hHeld := HHeld.out W8.drew (Below.refl _ W8).drew
            have dS' : (S.toList != S.toList) = false := by simp
            have HPAY := hid (fun (X : World) => payload_any sz wt i X hsz hi8)
            clear hqc hxc htc hSt hst hste hsz hwt hxm hx hS hxl hxb p0 x3 s0 s1 hx6 y0 y1 y2 y3 y4 y5 y6 hmX hW8 hn8 hz8 ho8 hv8 hp8 hq8 hk8 hl8 hb8 hq8' hv9 hP2 hPl hP hP1 hPY HDB
            go_upto_region 19 with fail
            rw [HW8.out, HNN8.out]
            refine region_tail 20 (fun X => X.cell? ⟨qb, qo + P1, none⟩ = some (.slice (some ⟨xb, xo, none⟩) xm xc) ∧ X.cell? ⟨g, 3, none⟩ = some (.slice (some ⟨tb, tq, none⟩) N c) ∧ X.cell? ⟨tb, tq + i * 2, none⟩ = some (.int .u8 (sz : Int)) ∧ X.cell? ⟨tb, tq + i * 2 + 1, none⟩ = some (.int .u8 (wt : Int)) ∧ (convert 37 9 (.slice (some ⟨xb, xo, none⟩) xm xc)).run Try.prog X = .ok (.string S) X) (by kernel_rfl) ?_
            refine' wpAnyT_take (i := 0) (oi := ?oiva0) (v := ?vva0) ?hiva0 (by kernel_rfl) (by kernel_rfl) ?hqva0 ?hyva0 hHeld ?restva0
            case hiva0 => (simp only [List.getElem?_toArray, List.getElem?_cons_zero]; rfl)
            case hqva0 => exact fun _ _ _ h => h
            case hyva0 => (refine Or.inl ⟨by rfl, ?_⟩; intro w' hSw; (try dsimp only at hSw); go_simp; try with_reducible rfl)
            (try simp only [Act.put, List.setIfInBounds_toArray, List.set_cons_zero, List.set_cons_succ])
            refine' wpAnyT_take (i := 1) (oi := ?oiva1) (v := ?vva1) ?hiva1 (by kernel_rfl) (by kernel_rfl) ?hqva1 ?hyva1 hHeld ?restva1
            case hiva1 => (simp only [List.getElem?_toArray, List.getElem?_cons_zero, List.getElem?_cons_succ]; rfl)
            case hqva1 => exact fun _ _ _ h => h
            case hyva1 => (refine Or.inl ⟨by rfl, ?_⟩; intro w' hSw; (try dsimp only at hSw); go_simp; try with_reducible rfl)
            (try simp only [Act.put, List.setIfInBounds_toArray, List.set_cons_zero, List.set_cons_succ])
            refine' wpAnyT_take (i := 2) (oi := ?oiva2) (v := ?vva2) ?hiva2 (by kernel_rfl) (by kernel_rfl) ?hqva2 ?hyva2 hHeld ?restva2
            case hiva2 => (simp only [List.getElem?_toArray, List.getElem?_cons_zero, List.getElem?_cons_succ]; rfl)
            case hqva2 => exact fun _ _ _ h => h
            case hyva2 => (refine Or.inl ⟨by rfl, ?_⟩; intro w' hSw; (try dsimp only at hSw); go_simp; try with_reducible rfl)
            (try simp only [Act.put, List.setIfInBounds_toArray, List.set_cons_zero, List.set_cons_succ])
            refine' wpAnyT_take (i := 3) (oi := ?oiva3) (v := ?vva3) ?hiva3 (by kernel_rfl) (by kernel_rfl) ?hqva3 ?hyva3 hHeld ?restva3
            case hiva3 => (simp only [List.getElem?_toArray, List.getElem?_cons_zero, List.getElem?_cons_succ]; rfl)
            case hqva3 => exact fun _ _ _ h => h
            case hyva3 => (refine Or.inl ⟨by rfl, ?_⟩; intro w' hSw; (try dsimp only at hSw); go_simp; try with_reducible rfl)
            (try simp only [Act.put, List.setIfInBounds_toArray, List.set_cons_zero, List.set_cons_succ])
            refine' wpAnyT_take (i := 4) (oi := ?oiva4) (v := ?vva4) ?hiva4 (by kernel_rfl) (by kernel_rfl) ?hqva4 ?hyva4 hHeld ?restva4
            case hiva4 => (simp only [List.getElem?_toArray, List.getElem?_cons_zero, List.getElem?_cons_succ]; rfl)
            case hqva4 => exact fun _ _ _ h => h
            case hyva4 => (refine Or.inl ⟨by rfl, ?_⟩; intro w' hSw; (try dsimp only at hSw); go_simp; try with_reducible rfl)
            (try simp only [Act.put, List.setIfInBounds_toArray, List.set_cons_zero, List.set_cons_succ])
            refine' wpAnyT_take (i := 5) (oi := ?oiva5) (v := ?vva5) ?hiva5 (by kernel_rfl) (by kernel_rfl) ?hqva5 ?hyva5 hHeld ?restva5
            case hiva5 => (simp only [List.getElem?_toArray, List.getElem?_cons_zero, List.getElem?_cons_succ]; rfl)
            case hqva5 => exact fun _ _ _ h => h
            case hyva5 => (refine Or.inl ⟨by rfl, ?_⟩; intro w' hSw; (try dsimp only at hSw); go_simp; try with_reducible rfl)
            (try simp only [Act.put, List.setIfInBounds_toArray, List.set_cons_zero, List.set_cons_succ])
            refine' wpAnyT_take (i := 6) (oi := ?oiva6) (v := ?vva6) ?hiva6 (by kernel_rfl) (by kernel_rfl) ?hqva6 ?hyva6 hHeld ?restva6
            case hiva6 => (simp only [List.getElem?_toArray, List.getElem?_cons_zero, List.getElem?_cons_succ]; rfl)
            case hqva6 => exact fun _ _ _ h => h
            case hyva6 => (refine Or.inl ⟨by rfl, ?_⟩; intro w' hSw; (try dsimp only at hSw); go_simp; try with_reducible rfl)
            (try simp only [Act.put, List.setIfInBounds_toArray, List.set_cons_zero, List.set_cons_succ])
            refine' wpAnyT_take (i := 7) (oi := ?oiva7) (v := ?vva7) ?hiva7 (by kernel_rfl) (by kernel_rfl) ?hqva7 ?hyva7 hHeld ?restva7
            case hiva7 => (simp only [List.getElem?_toArray, List.getElem?_cons_zero, List.getElem?_cons_succ]; rfl)
            case hqva7 => exact fun _ _ _ h => h
            case hyva7 => (refine Or.inl ⟨by rfl, ?_⟩; intro w' hSw; (try dsimp only at hSw); go_simp; try with_reducible rfl)
            (try simp only [Act.put, List.setIfInBounds_toArray, List.set_cons_zero, List.set_cons_succ])
            refine' wpAnyT_take (i := 8) (oi := ?oiva8) (v := ?vva8) ?hiva8 (by kernel_rfl) (by kernel_rfl) ?hqva8 ?hyva8 hHeld ?restva8
            case hiva8 => (simp only [List.getElem?_toArray, List.getElem?_cons_zero, List.getElem?_cons_succ]; rfl)
            case hqva8 => exact fun _ _ _ h => h
            case hyva8 => (refine Or.inl ⟨by rfl, ?_⟩; intro w' hSw; (try dsimp only at hSw); go_simp; try with_reducible rfl)
            (try simp only [Act.put, List.setIfInBounds_toArray, List.set_cons_zero, List.set_cons_succ])
            refine' wpAnyT_take (i := 9) (oi := ?oiva9) (v := ?vva9) ?hiva9 (by kernel_rfl) (by kernel_rfl) ?hqva9 ?hyva9 hHeld ?restva9
            case hiva9 => (simp only [List.getElem?_toArray, List.getElem?_cons_zero, List.getElem?_cons_succ]; rfl)
            case hqva9 => exact fun _ _ _ h => h
            case hyva9 => (refine Or.inl ⟨by rfl, ?_⟩; intro w' hSw; (try dsimp only at hSw); go_simp; try with_reducible rfl)
            (try simp only [Act.put, List.setIfInBounds_toArray, List.set_cons_zero, List.set_cons_succ])
            refine' wpAnyT_take (i := 10) (oi := ?oiva10) (v := ?vva10) ?hiva10 (by kernel_rfl) (by kernel_rfl) ?hqva10 ?hyva10 hHeld ?restva10
            case hiva10 => (simp only [List.getElem?_toArray, List.getElem?_cons_zero, List.getElem?_cons_succ]; rfl)
            case hqva10 => exact fun _ _ _ h => h
            case hyva10 => (refine Or.inl ⟨by rfl, ?_⟩; intro w' hSw; (try dsimp only at hSw); go_simp; try with_reducible rfl)
            (try simp only [Act.put, List.setIfInBounds_toArray, List.set_cons_zero, List.set_cons_succ])
            refine' wpAnyT_take (i := 11) (oi := ?oiva11) (v := ?vva11) ?hiva11 (by kernel_rfl) (by kernel_rfl) ?hqva11 ?hyva11 hHeld ?restva11
            case hiva11 => (simp only [List.getElem?_toArray, List.getElem?_cons_zero, List.getElem?_cons_succ]; rfl)
            case hqva11 => exact fun _ _ _ h => h
            case hyva11 => (refine Or.inl ⟨by rfl, ?_⟩; intro w' hSw; (try dsimp only at hSw); go_simp; try with_reducible rfl)
            (try simp only [Act.put, List.setIfInBounds_toArray, List.set_cons_zero, List.set_cons_succ])
            refine' wpAnyT_take (i := 12) (oi := ?oiva12) (v := ?vva12) ?hiva12 (by kernel_rfl) (by kernel_rfl) ?hqva12 ?hyva12 hHeld ?restva12
            case hiva12 => (simp only [List.getElem?_toArray, List.getElem?_cons_zero, List.getElem?_cons_succ]; rfl)
            case hqva12 => exact fun _ _ _ h => h
            case hyva12 => (refine Or.inl ⟨by rfl, ?_⟩; intro w' hSw; (try dsimp only at hSw); go_simp; try with_reducible rfl)
            (try simp only [Act.put, List.setIfInBounds_toArray, List.set_cons_zero, List.set_cons_succ])
            refine' wpAnyT_take (i := 13) (oi := ?oiva13) (v := ?vva13) ?hiva13 (by kernel_rfl) (by kernel_rfl) ?hqva13 ?hyva13 hHeld ?restva13
            case hiva13 => (simp only [List.getElem?_toArray, List.getElem?_cons_zero, List.getElem?_cons_succ]; rfl)
            case hqva13 => exact fun _ _ _ h => h
            case hyva13 => (refine Or.inl ⟨by rfl, ?_⟩; intro w' hSw; (try dsimp only at hSw); go_simp; try with_reducible rfl)
            (try simp only [Act.put, List.setIfInBounds_toArray, List.set_cons_zero, List.set_cons_succ])
            refine' wpAnyT_take (i := 14) (oi := ?oiva14) (v := ?vva14) ?hiva14 (by kernel_rfl) (by kernel_rfl) ?hqva14 ?hyva14 hHeld ?restva14
            case hiva14 => (simp only [List.getElem?_toArray, List.getElem?_cons_zero, List.getElem?_cons_succ]; rfl)
            case hqva14 => exact fun _ _ _ h => h
            case hyva14 => (refine Or.inl ⟨by rfl, ?_⟩; intro w' hSw; (try dsimp only at hSw); go_simp; try with_reducible rfl)
            (try simp only [Act.put, List.setIfInBounds_toArray, List.set_cons_zero, List.set_cons_succ])
            refine' wpAnyT_take (i := 15) (oi := ?oiva15) (v := ?vva15) ?hiva15 (by kernel_rfl) (by kernel_rfl) ?hqva15 ?hyva15 hHeld ?restva15
            case hiva15 => (simp only [List.getElem?_toArray, List.getElem?_cons_zero, List.getElem?_cons_succ]; rfl)
            case hqva15 => exact fun _ _ _ h => h
            case hyva15 => (refine Or.inl ⟨by rfl, ?_⟩; intro w' hSw; (try dsimp only at hSw); go_simp; try with_reducible rfl)
            (try simp only [Act.put, List.setIfInBounds_toArray, List.set_cons_zero, List.set_cons_succ])
            refine' wpAnyT_take (i := 16) (oi := ?oiva16) (v := ?vva16) ?hiva16 (by kernel_rfl) (by kernel_rfl) ?hqva16 ?hyva16 hHeld ?restva16
            case hiva16 => (simp only [List.getElem?_toArray, List.getElem?_cons_zero, List.getElem?_cons_succ]; rfl)
            case hqva16 => exact fun _ _ _ h => h
            case hyva16 => (refine Or.inl ⟨by rfl, ?_⟩; intro w' hSw; (try dsimp only at hSw); go_simp; try with_reducible rfl)
            (try simp only [Act.put, List.setIfInBounds_toArray, List.set_cons_zero, List.set_cons_succ])
            refine wpAnyT_all (l := [17]) (by kernel_rfl) (by decide) ?_
            intro ii hii
            simp only [List.mem_cons, List.not_mem_nil, or_false] at hii
            subst hii
            refine ⟨_, by (simp only [List.getElem?_toArray, List.getElem?_cons_zero, List.getElem?_cons_succ]; rfl), fun KK hKK => ?_⟩
            go_simp
            go_at_call 32
            refine (HPAY.out W8.drew).mono ?_
            rintro e w9 ⟨pv, rfl, hpo, hb9⟩
            obtain ⟨pA, pc, rfl⟩ := own_form hpo
            obtain ⟨pl, hpl⟩ : ∃ pl, (pay sz i).length = pl := ⟨_, rfl⟩
            rw [hpl] at hpo
            have hb7 : Below W8.heap.size W8 w9 := (Below.refl _ W8).drew.trans hb9
            have hHeld6 := HHeld.out w9 hb7
            have hc2 : (convert 37 9 (.slice pA pl pc)).run Try.prog w9 = .ok (.string S) w9 := by rw [← HSS.out]; exact byt_conv (byt_of_own hpo (pay_b8 sz i hi8))
            (try rw [hpl])
            have HB9 := hid hb7
            clear hpo hb9 hb7 hpl
            refine hKK.out _ _ (fun _ => hHeld6) ?_
            clear hKK KK
            (try simp only [Act.put, List.setIfInBounds_toArray, List.set_cons_zero, List.set_cons_succ])
            refine wpAnyT_all (l := [18]) (by kernel_rfl) (by decide) ?_
            intro ii hii
            simp only [List.mem_cons, List.not_mem_nil, or_false] at hii
            subst hii
            refine ⟨_, by (simp only [List.getElem?_toArray, List.getElem?_cons_zero, List.getElem?_cons_succ]; rfl), fun KK hKK => ?_⟩
            go_simp
            refine hKK.out _ _ (fun _ => hHeld6) ?_
            clear hKK KK
            (try simp only [Act.put, List.setIfInBounds_toArray, List.set_cons_zero, List.set_cons_succ])
            refine wpAnyT_all (l := [19]) (by kernel_rfl) (by decide) ?_
            intro ii hii
            simp only [List.mem_cons, List.not_mem_nil, or_false] at hii
            subst hii
            refine ⟨_, by (simp only [List.getElem?_toArray, List.getElem?_cons_zero, List.getElem?_cons_succ]; rfl), fun KK hKK => ?_⟩
            go_simp
            refine hKK.out _ _ (fun _ => hHeld6) ?_
            clear hKK KK
            (try simp only [Act.put, List.setIfInBounds_toArray, List.set_cons_zero, List.set_cons_succ])
            refine wpAnyT_all (l := [20]) (by kernel_rfl) (by decide) ?_
            intro ii hii
            simp only [List.mem_cons, List.not_mem_nil, or_false] at hii
            subst hii
            refine ⟨_, by (simp only [List.getElem?_toArray, List.getElem?_cons_zero, List.getElem?_cons_succ]; rfl), fun KK hKK => ?_⟩
            go_simp
            refine hKK.out _ _ (fun h => absurd h (by decide)) ?_
            clear hKK KK
            (try simp only [Act.put, List.setIfInBounds_toArray, List.set_cons_zero, List.set_cons_succ])
            refine wpAnyT_done (by kernel_rfl) ?_ _
            have HBw9 : Hid (Below wr.heap.size wr w9) := hid (HBW8.out.trans (HB9.out.mono HBW8.out.size))
            have hn9 := (HB9.out.block _ (box_lt HN8.out)).trans HN8.out
            have hm9 := (HBw9.out.block m hmr).trans HMR.out
            have ho9 := own_keep HO8.out (keep_below HB9.out)
            have z0 := cell_of_row _ _ 0 _ _ _ hn9
            have z1 := cell_of_row _ _ 1 _ _ _ hn9
            have z2 := cell_of_row _ _ 2 _ _ _ hn9
            have z3 := cell_of_row _ _ 3 _ _ _ hn9
            have z4 := cell_of_row _ _ 4 _ _ _ hn9
            have z5 := cell_of_row _ _ 5 _ _ _ hn9
            have z6 := cell_of_row _ _ 6 _ _ _ hn9
            have y0 := cell_of_row _ _ 0 _ _ _ (show w9.heap[m]? = some (.cells #[.int .i64 r.s.mn, .int .i64 r.s.mx, .int .i64 r.s.rt, .bool r.s.dn, .int .i64 r.s.idle, .int .i64 r.s.next, .slice fA2 q fc2] 26) from hm9)
            have y1 := cell_of_row _ _ 1 _ _ _ (show w9.heap[m]? = some (.cells #[.int .i64 r.s.mn, .int .i64 r.s.mx, .int .i64 r.s.rt, .bool r.s.dn, .int .i64 r.s.idle, .int .i64 r.s.next, .slice fA2 q fc2] 26) from hm9)
            have y2 := cell_of_row _ _ 2 _ _ _ (show w9.heap[m]? = some (.cells #[.int .i64 r.s.mn, .int .i64 r.s.mx, .int .i64 r.s.rt, .bool r.s.dn, .int .i64 r.s.idle, .int .i64 r.s.next, .slice fA2 q fc2] 26) from hm9)
            have y3 := cell_of_row _ _ 3 _ _ _ (show w9.heap[m]? = some (.cells #[.int .i64 r.s.mn, .int .i64 r.s.mx, .int .i64 r.s.rt, .bool r.s.dn, .int .i64 r.s.idle, .int .i64 r.s.next, .slice fA2 q fc2] 26) from hm9)
            have y4 := cell_of_row _ _ 4 _ _ _ (show w9.heap[m]? = some (.cells #[.int .i64 r.s.mn, .int .i64 r.s.mx, .int .i64 r.s.rt, .bool r.s.dn, .int .i64 r.s.idle, .int .i64 r.s.next, .slice fA2 q fc2] 26) from hm9)
            have y5 := cell_of_row _ _ 5 _ _ _ (show w9.heap[m]? = some (.cells #[.int .i64 r.s.mn, .int .i64 r.s.mx, .int .i64 r.s.rt, .bool r.s.dn, .int .i64 r.s.idle, .int .i64 r.s.next, .slice fA2 q fc2] 26) from hm9)
            have y6 := cell_of_row _ _ 6 _ _ _ (show w9.heap[m]? = some (.cells #[.int .i64 r.s.mn, .int .i64 r.s.mx, .int .i64 r.s.rt, .bool r.s.dn, .int .i64 r.s.idle, .int .i64 r.s.next, .slice fA2 q fc2] 26) from hm9)
            have fy0 := box_fr hm9 0
            have fy1 := box_fr hm9 1
            have fy2 := box_fr hm9 2
            have fy3 := box_fr hm9 3
            have fy4 := box_fr hm9 4
            have fy5 := box_fr hm9 5
            have fy6 := box_fr hm9 6
            obtain ⟨W9, hW9⟩ : ∃ X, (((((((w9.setCell ⟨m, 0, none⟩ (.int .i64 r.s.mn)).setCell ⟨m, 1, none⟩ (.int .i64 r.s.mx)).setCell ⟨m, 2, none⟩ (.int .i64 r.s.rt)).setCell ⟨m, 3, none⟩ (.bool r.s.dn)).setCell ⟨m, 4, none⟩ (.int .i64 r.s.idle)).setCell ⟨m, 5, none⟩ (.int .i64 r.s.next)).setCell ⟨m, 6, none⟩ (.slice f8 q8 c8)) = X := ⟨_, rfl⟩
            have HM9 : Hid (W9.heap[m]? = some (.cells #[.int .i64 r.s.mn, .int .i64 r.s.mx, .int .i64 r.s.rt, .bool r.s.dn, .int .i64 r.s.idle, .int .i64 r.s.next, .slice f8 q8 c8] 26)) := hid (by rw [← hW9]; exact set7h _ _ _ _ _ _ _ hm9)
            have HO9 : Hid (W9.ownsRow 0 69 3 (.slice f8 q8 c8) vs8.length (vs8.map cFl).flatten) := hid (by rw [HQ8.out, ← hW9]; exact own_base (own_keep ho9 (set7k hm9 (by decide) _ _ _ _ _ _ _)) (Nat.zero_le _))
            have HP9 : Hid (∀ x ∈ vs8, Pay W9 x) := hid (fun x hx => by rw [← hW9]; exact ((HP8.out x hx).keep (keep_below HB9.out)).keep (set7k hm9 (by decide) _ _ _ _ _ _ _))
            have HB10 : Hid (Below m w3 W9) := hid (by rw [← hW9]; exact set7b _ _ _ _ _ _ _ (HB.out.trans (HBw9.out.mono HMS.out)) (Nat.le_refl _))
            have HW9 := hid hW9
            clear hW9 hn9 hm9 ho9 hHeld hHeld6 hc2
            go_upto_region 9 with fail
            rw [HW9.out]
            go_wp2_with fail
            go_roundw
            case rel => exact ⟨i1, i1, _, vs8, by have := HI1.out; omega, rfl, hid ⟨Nat.le_refl _, .inl rfl⟩, HV9, HM9, HO9, HP9, HB10⟩
            case measure => have := HI1.out; simp [Lib.intOf]; omega

        · have dn : decide ((i1 : Int) < (N : Int)) = false := decide_eq_false (by omega)
          have dn' : decide (i1 < N) = false := decide_eq_false hn1
          have HDT : Hid (delN r.s (r.l.drop d) (I + mn) = i + 1 - d) := hid (del_eq HOD.out (by rw [HL.out, List.length_drop, List.length_map, List.length_range]; have := HDD.out; omega) (fun j x hj hx => by
            rw [HL.out] at hx
            obtain ⟨h5, rfl⟩ := flt_drop hx
            have h6 := HMO.out (d + j + 1) (i + 1) (by omega) (by omega)
            rw [HII2.out] at h6
            show idl mn mn rt [] sts (d + j + 1) + mn ≤ I + mn
            omega) (fun x hx => by
            rw [HL.out] at hx
            obtain ⟨h5, rfl⟩ := flt_drop hx
            have := HDD.out
            omega))
          have HNE := hid hn1
          have HI1 := hid hi1
          clear hn1 hi1
          go_upto_region 17 with fail
          go_quiet (fail)
          obtain ⟨V8, hV8⟩ : ∃ X, w7.drewN nq = X := ⟨_, rfl⟩
          rw [hV8]
          have HBV8 : Hid (Below wr.heap.size wr V8) := hid (by rw [← hV8]; exact below_both_drewN HBw7.out _)
          clear hV8
          have HDB := hid (HDV.out (I + mn) V8 HBV8.out)
          rw [HDT.out] at HDB
          have hmX := (HBV8.out.block m hmr).trans HMR.out
          have y0 := cell_of_row _ _ 0 _ _ _ (show V8.heap[m]? = some (.cells #[.int .i64 r.s.mn, .int .i64 r.s.mx, .int .i64 r.s.rt, .bool r.s.dn, .int .i64 r.s.idle, .int .i64 r.s.next, .slice fA2 q fc2] 26) from hmX)
          have y1 := cell_of_row _ _ 1 _ _ _ (show V8.heap[m]? = some (.cells #[.int .i64 r.s.mn, .int .i64 r.s.mx, .int .i64 r.s.rt, .bool r.s.dn, .int .i64 r.s.idle, .int .i64 r.s.next, .slice fA2 q fc2] 26) from hmX)
          have y2 := cell_of_row _ _ 2 _ _ _ (show V8.heap[m]? = some (.cells #[.int .i64 r.s.mn, .int .i64 r.s.mx, .int .i64 r.s.rt, .bool r.s.dn, .int .i64 r.s.idle, .int .i64 r.s.next, .slice fA2 q fc2] 26) from hmX)
          have y3 := cell_of_row _ _ 3 _ _ _ (show V8.heap[m]? = some (.cells #[.int .i64 r.s.mn, .int .i64 r.s.mx, .int .i64 r.s.rt, .bool r.s.dn, .int .i64 r.s.idle, .int .i64 r.s.next, .slice fA2 q fc2] 26) from hmX)
          have y4 := cell_of_row _ _ 4 _ _ _ (show V8.heap[m]? = some (.cells #[.int .i64 r.s.mn, .int .i64 r.s.mx, .int .i64 r.s.rt, .bool r.s.dn, .int .i64 r.s.idle, .int .i64 r.s.next, .slice fA2 q fc2] 26) from hmX)
          have y5 := cell_of_row _ _ 5 _ _ _ (show V8.heap[m]? = some (.cells #[.int .i64 r.s.mn, .int .i64 r.s.mx, .int .i64 r.s.rt, .bool r.s.dn, .int .i64 r.s.idle, .int .i64 r.s.next, .slice fA2 q fc2] 26) from hmX)
          have y6 := cell_of_row _ _ 6 _ _ _ (show V8.heap[m]? = some (.cells #[.int .i64 r.s.mn, .int .i64 r.s.mx, .int .i64 r.s.rt, .bool r.s.dn, .int .i64 r.s.idle, .int .i64 r.s.next, .slice fA2 q fc2] 26) from hmX)
          go_upto_region 18 with fail
          go_wp2_with fail
          refine HDB.out.mono ?_
          rintro e w8 ⟨v8, pv8, ps, rfl, ⟨fv8, vs8, rfl, ho8, hv8, hp8⟩, hq8, hk8, hl8, hb8⟩
          obtain ⟨f8, c8, rfl⟩ := own_form69 ho8
          obtain ⟨qA, qc, rfl⟩ := own_formE hq8
          have hPl : ps.length = i + 1 - d := by
            have h5 := congrArg List.length hk8
            rw [List.length_map, List.length_take, List.length_drop, HL.out, List.length_map, List.length_range] at h5
            have := HDD.out
            omega
          obtain ⟨x, hx⟩ : ∃ x, ps[i - d]? = some x := ⟨ps[i - d]'(by have := HDD.out; omega), List.getElem?_eq_getElem _⟩
          have hxc : core x = flt mn rt sts i := by
            have h5 := congrArg (fun l => l[i - d]?) hk8
            simp only [List.getElem?_map, hx, Option.map_some] at h5
            rw [List.getElem?_take, if_pos (by have := HDD.out; omega), HL.out, List.getElem?_drop, show d + (i - d) = i by have := HDD.out; omega, flt_at hin] at h5
            injection h5
          obtain ⟨P, hP⟩ : ∃ P, ps.length = P := ⟨_, rfl⟩
          obtain ⟨P1, hP1⟩ : ∃ P1, i - d = P1 := ⟨_, rfl⟩
          obtain ⟨q8, hq8'⟩ : ∃ q, vs8.length = q := ⟨_, rfl⟩
          rw [hP1] at hx
          rw [hP] at hq8
          rw [hq8'] at ho8
          unfold vLk
          dsimp only
          rw [hP, hq8']
          have hP2 : P = P1 + 1 := by have := HDD.out; omega
          have hv9 : vs8.map core = r.l.drop i1 := by rw [hv8, List.drop_drop]; congr 1; have := HDD.out; have := HI1.out; omega
          obtain ⟨n8, hn8⟩ : ∃ n, w8.heap.size = n := ⟨_, rfl⟩
          obtain ⟨W8, hW8⟩ : ∃ X, w8.alloc (.cells #[.int .i64 r.s.mn, .int .i64 r.s.mx, .int .i64 r.s.rt, .bool r.s.dn, .int .i64 r.s.idle, .int .i64 r.s.next, .slice f8 q8 c8] 26) = X := ⟨_, rfl⟩
          have hz8 : Below w8.heap.size w8 W8 := by rw [← hW8]; exact al1 _ _
          have HN8 : Hid (W8.heap[n8]? = some (.cells #[.int .i64 r.s.mn, .int .i64 r.s.mx, .int .i64 r.s.rt, .bool r.s.dn, .int .i64 r.s.idle, .int .i64 r.s.next, .slice f8 q8 c8] 26)) := hid (by rw [← hW8, ← hn8]; exact heap_alloc_new _ _)
          have HBW8 : Hid (Below wr.heap.size wr W8) := hid (HBV8.out.trans ((hb8.trans (hz8.mono hb8.size)).mono HBV8.out.size))
          have HO8 := hid (own_keep ho8 (keep_below hz8))
          have HP8 := hid (fun x hx => (hp8 x hx).keep (keep_below hz8))
          have hPY : PyL W8 (.slice qA P qc) ps := py_of_own (own_keep hq8 (keep_below hz8)) (fun x hx => (hl8 x hx).keep (keep_below hz8))
          have HV9 := hid hv9
          have HQ8 := hid hq8'
          have HW8 := hid hW8
          have HNN8 := hid hn8
          have hst : sts[i]? = some (sts[i]'(by rw [HN.out]; exact hin)) := List.getElem?_eq_getElem _
          obtain ⟨st, hste⟩ : ∃ st, sts[i]'(by rw [HN.out]; exact hin) = st := ⟨_, rfl⟩
          rw [hste] at hst
          obtain ⟨sz, wt⟩ := st
          have hxm := List.mem_of_getElem? hx
          have hxb := hPY.1 x hxm
          obtain ⟨qb, qo, rfl, hqb, hqc⟩ := py_cells hPY (by omega)
          have p0 := hqc P1 x hx
          obtain ⟨xt, xn, xd, xp⟩ := x
          dsimp only at hxb p0
          obtain rfl : xp = pay sz i := by
            have h5 : xp = po sts i := congrArg (fun z : Fc => z.2.2) hxc
            rw [h5, po_at hst]
          obtain ⟨xA, xc, rfl⟩ := byt_form hxb
          obtain ⟨xb, xo, rfl, hxbl, _⟩ := byt_at hxb (by unfold pay; simp)
          obtain ⟨xm, hxl⟩ : ∃ xm, (pay sz i).length = xm := ⟨_, rfl⟩
          rw [hxl] at p0 hxb
          have dP : ((P : Int) == 0) = false := by rw [beq_eq_false_iff_ne]; omega
          have eP : IntKind.i64.wrap ((P : Int) - 1) = (P1 : Int) := by rw [IntKind.wrap_i64]; omega
          have hPlt : P1 < P := by omega
          have hSt : Sts W8 (.slice A N c) sts := HS.out.below (HBr.out.trans (HBW8.out.mono HBr.out.size))
          obtain ⟨tb, tq, rfl, htb, htc⟩ := sts_cells hSt (by rw [HN.out]; omega)
          obtain ⟨s0, s1⟩ := htc i _ hst
          obtain ⟨hsz, hwt⟩ := hSt.1 _ (List.mem_of_getElem? hst)
          dsimp only at s0 s1 hsz hwt
          have hi8 : i < 256 := by omega
          have hx6 := (HBW8.out.block g (box_lt HXr.out)).trans HXr.out
          have x3 := cell_of_row _ _ 3 _ _ _ hx6
          obtain ⟨S, hS⟩ : ∃ S, strOfNums (ints (pay sz i)) = S := ⟨_, rfl⟩
          have HSS := hid hS
          have HXB := hid hxb
          have HHeld := hid (fun (X : World) (hX : Below W8.heap.size W8 X) => (show X.cell? ⟨qb, qo + P1, none⟩ = some (.slice (some ⟨xb, xo, none⟩) xm xc) ∧ X.cell? ⟨g, 3, none⟩ = some (.slice (some ⟨tb, tq, none⟩) N c) ∧ X.cell? ⟨tb, tq + i * 2, none⟩ = some (.int .u8 (sz : Int)) ∧ X.cell? ⟨tb, tq + i * 2 + 1, none⟩ = some (.int .u8 (wt : Int)) ∧ (convert 37 9 (.slice (some ⟨xb, xo, none⟩) xm xc)).run Try.prog X = .ok (.string S) X from ⟨(hX.cell (p := ⟨qb, qo + P1, none⟩) hqb).trans p0, (hX.cell (p := ⟨g, 3, none⟩) (box_lt hx6)).trans x3, (hX.cell (p := ⟨tb, tq + i * 2, none⟩) htb).trans s0, (hX.cell (p := ⟨tb, tq + i * 2 + 1, none⟩) htb).trans s1, by rw [← HSS.out]; exact conv_at HXB.out hX⟩))
          have hHeld := HHeld.out W8.drew (Below.refl _ W8).drew
          have dS' : (S.toList != S.toList) = false := by simp
          have HPAY := hid (fun (X : World) => payload_any sz wt i X hsz hi8)
          clear hqc hxc htc hSt hst hste hsz hwt hxm hx hS hxl hxb p0 x3 s0 s1 hx6 y0 y1 y2 y3 y4 y5 y6 hmX hW8 hn8 hz8 ho8 hv8 hp8 hq8 hk8 hl8 hb8 hq8' hv9 hP2 hPl hP hP1 hPY HDB
          go_upto_region 19 with fail
          rw [HW8.out, HNN8.out]
          refine region_tail 20 (fun X => X.cell? ⟨qb, qo + P1, none⟩ = some (.slice (some ⟨xb, xo, none⟩) xm xc) ∧ X.cell? ⟨g, 3, none⟩ = some (.slice (some ⟨tb, tq, none⟩) N c) ∧ X.cell? ⟨tb, tq + i * 2, none⟩ = some (.int .u8 (sz : Int)) ∧ X.cell? ⟨tb, tq + i * 2 + 1, none⟩ = some (.int .u8 (wt : Int)) ∧ (convert 37 9 (.slice (some ⟨xb, xo, none⟩) xm xc)).run Try.prog X = .ok (.string S) X) (by kernel_rfl) ?_
          refine' wpAnyT_take (i := 0) (oi := ?oivb0) (v := ?vvb0) ?hivb0 (by kernel_rfl) (by kernel_rfl) ?hqvb0 ?hyvb0 hHeld ?restvb0
          case hivb0 => (simp only [List.getElem?_toArray, List.getElem?_cons_zero]; rfl)
          case hqvb0 => exact fun _ _ _ h => h
          case hyvb0 => (refine Or.inl ⟨by rfl, ?_⟩; intro w' hSw; (try dsimp only at hSw); go_simp; try with_reducible rfl)
          (try simp only [Act.put, List.setIfInBounds_toArray, List.set_cons_zero, List.set_cons_succ])
          refine' wpAnyT_take (i := 1) (oi := ?oivb1) (v := ?vvb1) ?hivb1 (by kernel_rfl) (by kernel_rfl) ?hqvb1 ?hyvb1 hHeld ?restvb1
          case hivb1 => (simp only [List.getElem?_toArray, List.getElem?_cons_zero, List.getElem?_cons_succ]; rfl)
          case hqvb1 => exact fun _ _ _ h => h
          case hyvb1 => (refine Or.inl ⟨by rfl, ?_⟩; intro w' hSw; (try dsimp only at hSw); go_simp; try with_reducible rfl)
          (try simp only [Act.put, List.setIfInBounds_toArray, List.set_cons_zero, List.set_cons_succ])
          refine' wpAnyT_take (i := 2) (oi := ?oivb2) (v := ?vvb2) ?hivb2 (by kernel_rfl) (by kernel_rfl) ?hqvb2 ?hyvb2 hHeld ?restvb2
          case hivb2 => (simp only [List.getElem?_toArray, List.getElem?_cons_zero, List.getElem?_cons_succ]; rfl)
          case hqvb2 => exact fun _ _ _ h => h
          case hyvb2 => (refine Or.inl ⟨by rfl, ?_⟩; intro w' hSw; (try dsimp only at hSw); go_simp; try with_reducible rfl)
          (try simp only [Act.put, List.setIfInBounds_toArray, List.set_cons_zero, List.set_cons_succ])
          refine' wpAnyT_take (i := 3) (oi := ?oivb3) (v := ?vvb3) ?hivb3 (by kernel_rfl) (by kernel_rfl) ?hqvb3 ?hyvb3 hHeld ?restvb3
          case hivb3 => (simp only [List.getElem?_toArray, List.getElem?_cons_zero, List.getElem?_cons_succ]; rfl)
          case hqvb3 => exact fun _ _ _ h => h
          case hyvb3 => (refine Or.inl ⟨by rfl, ?_⟩; intro w' hSw; (try dsimp only at hSw); go_simp; try with_reducible rfl)
          (try simp only [Act.put, List.setIfInBounds_toArray, List.set_cons_zero, List.set_cons_succ])
          refine' wpAnyT_take (i := 4) (oi := ?oivb4) (v := ?vvb4) ?hivb4 (by kernel_rfl) (by kernel_rfl) ?hqvb4 ?hyvb4 hHeld ?restvb4
          case hivb4 => (simp only [List.getElem?_toArray, List.getElem?_cons_zero, List.getElem?_cons_succ]; rfl)
          case hqvb4 => exact fun _ _ _ h => h
          case hyvb4 => (refine Or.inl ⟨by rfl, ?_⟩; intro w' hSw; (try dsimp only at hSw); go_simp; try with_reducible rfl)
          (try simp only [Act.put, List.setIfInBounds_toArray, List.set_cons_zero, List.set_cons_succ])
          refine' wpAnyT_take (i := 5) (oi := ?oivb5) (v := ?vvb5) ?hivb5 (by kernel_rfl) (by kernel_rfl) ?hqvb5 ?hyvb5 hHeld ?restvb5
          case hivb5 => (simp only [List.getElem?_toArray, List.getElem?_cons_zero, List.getElem?_cons_succ]; rfl)
          case hqvb5 => exact fun _ _ _ h => h
          case hyvb5 => (refine Or.inl ⟨by rfl, ?_⟩; intro w' hSw; (try dsimp only at hSw); go_simp; try with_reducible rfl)
          (try simp only [Act.put, List.setIfInBounds_toArray, List.set_cons_zero, List.set_cons_succ])
          refine' wpAnyT_take (i := 6) (oi := ?oivb6) (v := ?vvb6) ?hivb6 (by kernel_rfl) (by kernel_rfl) ?hqvb6 ?hyvb6 hHeld ?restvb6
          case hivb6 => (simp only [List.getElem?_toArray, List.getElem?_cons_zero, List.getElem?_cons_succ]; rfl)
          case hqvb6 => exact fun _ _ _ h => h
          case hyvb6 => (refine Or.inl ⟨by rfl, ?_⟩; intro w' hSw; (try dsimp only at hSw); go_simp; try with_reducible rfl)
          (try simp only [Act.put, List.setIfInBounds_toArray, List.set_cons_zero, List.set_cons_succ])
          refine' wpAnyT_take (i := 7) (oi := ?oivb7) (v := ?vvb7) ?hivb7 (by kernel_rfl) (by kernel_rfl) ?hqvb7 ?hyvb7 hHeld ?restvb7
          case hivb7 => (simp only [List.getElem?_toArray, List.getElem?_cons_zero, List.getElem?_cons_succ]; rfl)
          case hqvb7 => exact fun _ _ _ h => h
          case hyvb7 => (refine Or.inl ⟨by rfl, ?_⟩; intro w' hSw; (try dsimp only at hSw); go_simp; try with_reducible rfl)
          (try simp only [Act.put, List.setIfInBounds_toArray, List.set_cons_zero, List.set_cons_succ])
          refine' wpAnyT_take (i := 8) (oi := ?oivb8) (v := ?vvb8) ?hivb8 (by kernel_rfl) (by kernel_rfl) ?hqvb8 ?hyvb8 hHeld ?restvb8
          case hivb8 => (simp only [List.getElem?_toArray, List.getElem?_cons_zero, List.getElem?_cons_succ]; rfl)
          case hqvb8 => exact fun _ _ _ h => h
          case hyvb8 => (refine Or.inl ⟨by rfl, ?_⟩; intro w' hSw; (try dsimp only at hSw); go_simp; try with_reducible rfl)
          (try simp only [Act.put, List.setIfInBounds_toArray, List.set_cons_zero, List.set_cons_succ])
          refine' wpAnyT_take (i := 9) (oi := ?oivb9) (v := ?vvb9) ?hivb9 (by kernel_rfl) (by kernel_rfl) ?hqvb9 ?hyvb9 hHeld ?restvb9
          case hivb9 => (simp only [List.getElem?_toArray, List.getElem?_cons_zero, List.getElem?_cons_succ]; rfl)
          case hqvb9 => exact fun _ _ _ h => h
          case hyvb9 => (refine Or.inl ⟨by rfl, ?_⟩; intro w' hSw; (try dsimp only at hSw); go_simp; try with_reducible rfl)
          (try simp only [Act.put, List.setIfInBounds_toArray, List.set_cons_zero, List.set_cons_succ])
          refine' wpAnyT_take (i := 10) (oi := ?oivb10) (v := ?vvb10) ?hivb10 (by kernel_rfl) (by kernel_rfl) ?hqvb10 ?hyvb10 hHeld ?restvb10
          case hivb10 => (simp only [List.getElem?_toArray, List.getElem?_cons_zero, List.getElem?_cons_succ]; rfl)
          case hqvb10 => exact fun _ _ _ h => h
          case hyvb10 => (refine Or.inl ⟨by rfl, ?_⟩; intro w' hSw; (try dsimp only at hSw); go_simp; try with_reducible rfl)
          (try simp only [Act.put, List.setIfInBounds_toArray, List.set_cons_zero, List.set_cons_succ])
          refine' wpAnyT_take (i := 11) (oi := ?oivb11) (v := ?vvb11) ?hivb11 (by kernel_rfl) (by kernel_rfl) ?hqvb11 ?hyvb11 hHeld ?restvb11
          case hivb11 => (simp only [List.getElem?_toArray, List.getElem?_cons_zero, List.getElem?_cons_succ]; rfl)
          case hqvb11 => exact fun _ _ _ h => h
          case hyvb11 => (refine Or.inl ⟨by rfl, ?_⟩; intro w' hSw; (try dsimp only at hSw); go_simp; try with_reducible rfl)
          (try simp only [Act.put, List.setIfInBounds_toArray, List.set_cons_zero, List.set_cons_succ])
          refine' wpAnyT_take (i := 12) (oi := ?oivb12) (v := ?vvb12) ?hivb12 (by kernel_rfl) (by kernel_rfl) ?hqvb12 ?hyvb12 hHeld ?restvb12
          case hivb12 => (simp only [List.getElem?_toArray, List.getElem?_cons_zero, List.getElem?_cons_succ]; rfl)
          case hqvb12 => exact fun _ _ _ h => h
          case hyvb12 => (refine Or.inl ⟨by rfl, ?_⟩; intro w' hSw; (try dsimp only at hSw); go_simp; try with_reducible rfl)
          (try simp only [Act.put, List.setIfInBounds_toArray, List.set_cons_zero, List.set_cons_succ])
          refine' wpAnyT_take (i := 13) (oi := ?oivb13) (v := ?vvb13) ?hivb13 (by kernel_rfl) (by kernel_rfl) ?hqvb13 ?hyvb13 hHeld ?restvb13
          case hivb13 => (simp only [List.getElem?_toArray, List.getElem?_cons_zero, List.getElem?_cons_succ]; rfl)
          case hqvb13 => exact fun _ _ _ h => h
          case hyvb13 => (refine Or.inl ⟨by rfl, ?_⟩; intro w' hSw; (try dsimp only at hSw); go_simp; try with_reducible rfl)
          (try simp only [Act.put, List.setIfInBounds_toArray, List.set_cons_zero, List.set_cons_succ])
          refine' wpAnyT_take (i := 14) (oi := ?oivb14) (v := ?vvb14) ?hivb14 (by kernel_rfl) (by kernel_rfl) ?hqvb14 ?hyvb14 hHeld ?restvb14
          case hivb14 => (simp only [List.getElem?_toArray, List.getElem?_cons_zero, List.getElem?_cons_succ]; rfl)
          case hqvb14 => exact fun _ _ _ h => h
          case hyvb14 => (refine Or.inl ⟨by rfl, ?_⟩; intro w' hSw; (try dsimp only at hSw); go_simp; try with_reducible rfl)
          (try simp only [Act.put, List.setIfInBounds_toArray, List.set_cons_zero, List.set_cons_succ])
          refine' wpAnyT_take (i := 15) (oi := ?oivb15) (v := ?vvb15) ?hivb15 (by kernel_rfl) (by kernel_rfl) ?hqvb15 ?hyvb15 hHeld ?restvb15
          case hivb15 => (simp only [List.getElem?_toArray, List.getElem?_cons_zero, List.getElem?_cons_succ]; rfl)
          case hqvb15 => exact fun _ _ _ h => h
          case hyvb15 => (refine Or.inl ⟨by rfl, ?_⟩; intro w' hSw; (try dsimp only at hSw); go_simp; try with_reducible rfl)
          (try simp only [Act.put, List.setIfInBounds_toArray, List.set_cons_zero, List.set_cons_succ])
          refine' wpAnyT_take (i := 16) (oi := ?oivb16) (v := ?vvb16) ?hivb16 (by kernel_rfl) (by kernel_rfl) ?hqvb16 ?hyvb16 hHeld ?restvb16
          case hivb16 => (simp only [List.getElem?_toArray, List.getElem?_cons_zero, List.getElem?_cons_succ]; rfl)
          case hqvb16 => exact fun _ _ _ h => h
          case hyvb16 => (refine Or.inl ⟨by rfl, ?_⟩; intro w' hSw; (try dsimp only at hSw); go_simp; try with_reducible rfl)
          (try simp only [Act.put, List.setIfInBounds_toArray, List.set_cons_zero, List.set_cons_succ])
          refine wpAnyT_all (l := [17]) (by kernel_rfl) (by decide) ?_
          intro ii hii
          simp only [List.mem_cons, List.not_mem_nil, or_false] at hii
          subst hii
          refine ⟨_, by (simp only [List.getElem?_toArray, List.getElem?_cons_zero, List.getElem?_cons_succ]; rfl), fun KK hKK => ?_⟩
          go_simp
          go_at_call 32
          refine (HPAY.out W8.drew).mono ?_
          rintro e w9 ⟨pv, rfl, hpo, hb9⟩
          obtain ⟨pA, pc, rfl⟩ := own_form hpo
          obtain ⟨pl, hpl⟩ : ∃ pl, (pay sz i).length = pl := ⟨_, rfl⟩
          rw [hpl] at hpo
          have hb7 : Below W8.heap.size W8 w9 := (Below.refl _ W8).drew.trans hb9
          have hHeld6 := HHeld.out w9 hb7
          have hc2 : (convert 37 9 (.slice pA pl pc)).run Try.prog w9 = .ok (.string S) w9 := by rw [← HSS.out]; exact byt_conv (byt_of_own hpo (pay_b8 sz i hi8))
          (try rw [hpl])
          have HB9 := hid hb7
          clear hpo hb9 hb7 hpl
          refine hKK.out _ _ (fun _ => hHeld6) ?_
          clear hKK KK
          (try simp only [Act.put, List.setIfInBounds_toArray, List.set_cons_zero, List.set_cons_succ])
          refine wpAnyT_all (l := [18]) (by kernel_rfl) (by decide) ?_
          intro ii hii
          simp only [List.mem_cons, List.not_mem_nil, or_false] at hii
          subst hii
          refine ⟨_, by (simp only [List.getElem?_toArray, List.getElem?_cons_zero, List.getElem?_cons_succ]; rfl), fun KK hKK => ?_⟩
          go_simp
          refine hKK.out _ _ (fun _ => hHeld6) ?_
          clear hKK KK
          (try simp only [Act.put, List.setIfInBounds_toArray, List.set_cons_zero, List.set_cons_succ])
          refine wpAnyT_all (l := [19]) (by kernel_rfl) (by decide) ?_
          intro ii hii
          simp only [List.mem_cons, List.not_mem_nil, or_false] at hii
          subst hii
          refine ⟨_, by (simp only [List.getElem?_toArray, List.getElem?_cons_zero, List.getElem?_cons_succ]; rfl), fun KK hKK => ?_⟩
          go_simp
          refine hKK.out _ _ (fun _ => hHeld6) ?_
          clear hKK KK
          (try simp only [Act.put, List.setIfInBounds_toArray, List.set_cons_zero, List.set_cons_succ])
          refine wpAnyT_all (l := [20]) (by kernel_rfl) (by decide) ?_
          intro ii hii
          simp only [List.mem_cons, List.not_mem_nil, or_false] at hii
          subst hii
          refine ⟨_, by (simp only [List.getElem?_toArray, List.getElem?_cons_zero, List.getElem?_cons_succ]; rfl), fun KK hKK => ?_⟩
          go_simp
          refine hKK.out _ _ (fun h => absurd h (by decide)) ?_
          clear hKK KK
          (try simp only [Act.put, List.setIfInBounds_toArray, List.set_cons_zero, List.set_cons_succ])
          refine wpAnyT_done (by kernel_rfl) ?_ _
          have HBw9 : Hid (Below wr.heap.size wr w9) := hid (HBW8.out.trans (HB9.out.mono HBW8.out.size))
          have hn9 := (HB9.out.block _ (box_lt HN8.out)).trans HN8.out
          have hm9 := (HBw9.out.block m hmr).trans HMR.out
          have ho9 := own_keep HO8.out (keep_below HB9.out)
          have z0 := cell_of_row _ _ 0 _ _ _ hn9
          have z1 := cell_of_row _ _ 1 _ _ _ hn9
          have z2 := cell_of_row _ _ 2 _ _ _ hn9
          have z3 := cell_of_row _ _ 3 _ _ _ hn9
          have z4 := cell_of_row _ _ 4 _ _ _ hn9
          have z5 := cell_of_row _ _ 5 _ _ _ hn9
          have z6 := cell_of_row _ _ 6 _ _ _ hn9
          have y0 := cell_of_row _ _ 0 _ _ _ (show w9.heap[m]? = some (.cells #[.int .i64 r.s.mn, .int .i64 r.s.mx, .int .i64 r.s.rt, .bool r.s.dn, .int .i64 r.s.idle, .int .i64 r.s.next, .slice fA2 q fc2] 26) from hm9)
          have y1 := cell_of_row _ _ 1 _ _ _ (show w9.heap[m]? = some (.cells #[.int .i64 r.s.mn, .int .i64 r.s.mx, .int .i64 r.s.rt, .bool r.s.dn, .int .i64 r.s.idle, .int .i64 r.s.next, .slice fA2 q fc2] 26) from hm9)
          have y2 := cell_of_row _ _ 2 _ _ _ (show w9.heap[m]? = some (.cells #[.int .i64 r.s.mn, .int .i64 r.s.mx, .int .i64 r.s.rt, .bool r.s.dn, .int .i64 r.s.idle, .int .i64 r.s.next, .slice fA2 q fc2] 26) from hm9)
          have y3 := cell_of_row _ _ 3 _ _ _ (show w9.heap[m]? = some (.cells #[.int .i64 r.s.mn, .int .i64 r.s.mx, .int .i64 r.s.rt, .bool r.s.dn, .int .i64 r.s.idle, .int .i64 r.s.next, .slice fA2 q fc2] 26) from hm9)
          have y4 := cell_of_row _ _ 4 _ _ _ (show w9.heap[m]? = some (.cells #[.int .i64 r.s.mn, .int .i64 r.s.mx, .int .i64 r.s.rt, .bool r.s.dn, .int .i64 r.s.idle, .int .i64 r.s.next, .slice fA2 q fc2] 26) from hm9)
          have y5 := cell_of_row _ _ 5 _ _ _ (show w9.heap[m]? = some (.cells #[.int .i64 r.s.mn, .int .i64 r.s.mx, .int .i64 r.s.rt, .bool r.s.dn, .int .i64 r.s.idle, .int .i64 r.s.next, .slice fA2 q fc2] 26) from hm9)
          have y6 := cell_of_row _ _ 6 _ _ _ (show w9.heap[m]? = some (.cells #[.int .i64 r.s.mn, .int .i64 r.s.mx, .int .i64 r.s.rt, .bool r.s.dn, .int .i64 r.s.idle, .int .i64 r.s.next, .slice fA2 q fc2] 26) from hm9)
          have fy0 := box_fr hm9 0
          have fy1 := box_fr hm9 1
          have fy2 := box_fr hm9 2
          have fy3 := box_fr hm9 3
          have fy4 := box_fr hm9 4
          have fy5 := box_fr hm9 5
          have fy6 := box_fr hm9 6
          obtain ⟨W9, hW9⟩ : ∃ X, (((((((w9.setCell ⟨m, 0, none⟩ (.int .i64 r.s.mn)).setCell ⟨m, 1, none⟩ (.int .i64 r.s.mx)).setCell ⟨m, 2, none⟩ (.int .i64 r.s.rt)).setCell ⟨m, 3, none⟩ (.bool r.s.dn)).setCell ⟨m, 4, none⟩ (.int .i64 r.s.idle)).setCell ⟨m, 5, none⟩ (.int .i64 r.s.next)).setCell ⟨m, 6, none⟩ (.slice f8 q8 c8)) = X := ⟨_, rfl⟩
          have HM9 : Hid (W9.heap[m]? = some (.cells #[.int .i64 r.s.mn, .int .i64 r.s.mx, .int .i64 r.s.rt, .bool r.s.dn, .int .i64 r.s.idle, .int .i64 r.s.next, .slice f8 q8 c8] 26)) := hid (by rw [← hW9]; exact set7h _ _ _ _ _ _ _ hm9)
          have HO9 : Hid (W9.ownsRow 0 69 3 (.slice f8 q8 c8) vs8.length (vs8.map cFl).flatten) := hid (by rw [HQ8.out, ← hW9]; exact own_base (own_keep ho9 (set7k hm9 (by decide) _ _ _ _ _ _ _)) (Nat.zero_le _))
          have HP9 : Hid (∀ x ∈ vs8, Pay W9 x) := hid (fun x hx => by rw [← hW9]; exact ((HP8.out x hx).keep (keep_below HB9.out)).keep (set7k hm9 (by decide) _ _ _ _ _ _ _))
          have HB10 : Hid (Below m w3 W9) := hid (by rw [← hW9]; exact set7b _ _ _ _ _ _ _ (HB.out.trans (HBw9.out.mono HMS.out)) (Nat.le_refl _))
          have HW9 := hid hW9
          clear hW9 hn9 hm9 ho9 hHeld hHeld6 hc2
          go_upto_region 9 with fail
          rw [HW9.out]
          go_wp2_with fail
          go_roundw
          case rel => exact ⟨i1, i1, _, vs8, by have := HI1.out; omega, rfl, hid ⟨Nat.le_refl _, .inl rfl⟩, HV9, HM9, HO9, HP9, HB10⟩
          case measure => have := HI1.out; simp [Lib.intOf]; omega

      · have dgt : decide (I0 < I) = false := decide_eq_false hgt
        go_upto_region 13 with fail
        go_quiet (fail)
        obtain ⟨V2, hV2⟩ : ∃ X, V1.drewN nq = X := ⟨_, rfl⟩
        rw [hV2]
        have HBV2 : Hid (Below wr.heap.size wr V2) := hid (by rw [← hV2]; exact below_both_drewN HBV1.out _)
        clear hV2
        clear dz dgt hii hii0 hgt
        have x3 := cell_of_row _ _ 3 _ _ _ ((HBV2.out.block g (box_lt HXr.out)).trans HXr.out)
        have hii : V2.cell? ⟨bi, oi + i, none⟩ = some (.int .i64 I) := HID.out i I HIC.out V2 HBV2.out
        obtain ⟨i1, hi1⟩ : ∃ k, i + 1 = k := ⟨_, rfl⟩
        have ei1 : IntKind.i64.wrap ((i : Int) + 1) = (i1 : Int) := by rw [IntKind.wrap_i64]; omega
        by_cases hn1 : i1 < N
        · have hn1' : (i1 : Int) < (N : Int) := by omega
          have dn : decide ((i1 : Int) < (N : Int)) = true := decide_eq_true hn1'
          have dn' : decide (i1 < N) = true := decide_eq_true hn1
          have hI1c := HAT.out i1 hn1
          have hmo := HMO.out i1 (i1 + 1) (by omega) (by omega)
          obtain ⟨I1, hI1⟩ : ∃ I1, idl mn mn rt [] sts (i1 + 1) = I1 := ⟨_, rfl⟩
          rw [hI1] at hI1c hmo
          have hii1 : V2.cell? ⟨bi, oi + i1, none⟩ = some (.int .i64 I1) := HID.out i1 I1 hI1c V2 HBV2.out
          have HI1 := hid hi1
          have HMM := hid hmo
          have HEI := hid hI1
          clear hi1 hmo hI1 hI1c
          by_cases he : I1 = I
          · have HEQ : Hid (idl mn mn rt [] sts (d + 1) = idl mn mn rt [] sts (i1 + 1)) := hid (by rw [hdi, HEI.out, he])
            clear HEI HMM
            subst he
            have hI1' := HI1.out
            have deq : (I1 == I1) = true := by simp
            have HIX := hid hI1'
            clear hI1'
            go_upto_region 17 with fail
            go_quiet (fail)
            go_wp2_with fail
            go_roundw
            case rel => exact ⟨i1, d, _, vs, Nat.le_of_lt hn1, rfl, hid ⟨by have := HDD.out; have := HIX.out; omega, .inr ⟨hn1, HEQ.out⟩⟩, HV, hid ((below_both_drewN HBV2.out _).block m hmr |>.trans HMR.out), hid (by rw [HQ.out]; exact own_keep HO.out (keep_below (below_both_drewN HBV2.out _))), hid (fun x hx => (HP.out x hx).keep (keep_below (below_both_drewN HBV2.out _))), hid (HB.out.trans ((below_both_drewN HBV2.out _).mono HMS.out))⟩
            case measure => have := HI1.out; simp [Lib.intOf]; omega

          · have dne : (I1 == I) = false := by rw [beq_eq_false_iff_ne]; exact he
            have HDT : Hid (delN r.s (r.l.drop d) (I + mn) = i + 1 - d) := hid (del_eq HOD.out (by rw [HL.out, List.length_drop, List.length_map, List.length_range]; have := HDD.out; omega) (fun j x hj hx => by
              rw [HL.out] at hx
              obtain ⟨h5, rfl⟩ := flt_drop hx
              have h6 := HMO.out (d + j + 1) (i + 1) (by omega) (by omega)
              rw [HII2.out] at h6
              show idl mn mn rt [] sts (d + j + 1) + mn ≤ I + mn
              omega) (fun x hx => by
              rw [HL.out] at hx
              obtain ⟨h5, rfl⟩ := flt_drop hx
              show I + mn < idl mn mn rt [] sts (d + (i + 1 - d) + 1) + mn
              have h6 := HMM.out
              have h7 := HI1.out
              have h8 := HDD.out
              rw [show d + (i + 1 - d) + 1 = i1 + 1 by omega, HEI.out]
              rw [← h7, HII2.out] at h6
              omega))
            clear he
            go_upto_region 17 with fail
            go_quiet (fail)
            obtain ⟨V8, hV8⟩ : ∃ X, V2.drewN nq = X := ⟨_, rfl⟩
            rw [hV8]
            have HBV8 : Hid (Below wr.heap.size wr V8) := hid (by rw [← hV8]; exact below_both_drewN HBV2.out _)
            clear hV8
            have HDB := hid (HDV.out (I + mn) V8 HBV8.out)
            rw [HDT.out] at HDB
            have hmX := (HBV8.out.block m hmr).trans HMR.out
            have y0 := cell_of_row _ _ 0 _ _ _ (show V8.heap[m]? = some (.cells #[.int .i64 r.s.mn, .int .i64 r.s.mx, .int .i64 r.s.rt, .bool r.s.dn, .int .i64 r.s.idle, .int .i64 r.s.next, .slice fA2 q fc2] 26) from hmX)
            have y1 := cell_of_row _ _ 1 _ _ _ (show V8.heap[m]? = some (.cells #[.int .i64 r.s.mn, .int .i64 r.s.mx, .int .i64 r.s.rt, .bool r.s.dn, .int .i64 r.s.idle, .int .i64 r.s.next, .slice fA2 q fc2] 26) from hmX)
            have y2 := cell_of_row _ _ 2 _ _ _ (show V8.heap[m]? = some (.cells #[.int .i64 r.s.mn, .int .i64 r.s.mx, .int .i64 r.s.rt, .bool r.s.dn, .int .i64 r.s.idle, .int .i64 r.s.next, .slice fA2 q fc2] 26) from hmX)
            have y3 := cell_of_row _ _ 3 _ _ _ (show V8.heap[m]? = some (.cells #[.int .i64 r.s.mn, .int .i64 r.s.mx, .int .i64 r.s.rt, .bool r.s.dn, .int .i64 r.s.idle, .int .i64 r.s.next, .slice fA2 q fc2] 26) from hmX)
            have y4 := cell_of_row _ _ 4 _ _ _ (show V8.heap[m]? = some (.cells #[.int .i64 r.s.mn, .int .i64 r.s.mx, .int .i64 r.s.rt, .bool r.s.dn, .int .i64 r.s.idle, .int .i64 r.s.next, .slice fA2 q fc2] 26) from hmX)
            have y5 := cell_of_row _ _ 5 _ _ _ (show V8.heap[m]? = some (.cells #[.int .i64 r.s.mn, .int .i64 r.s.mx, .int .i64 r.s.rt, .bool r.s.dn, .int .i64 r.s.idle, .int .i64 r.s.next, .slice fA2 q fc2] 26) from hmX)
            have y6 := cell_of_row _ _ 6 _ _ _ (show V8.heap[m]? = some (.cells #[.int .i64 r.s.mn, .int .i64 r.s.mx, .int .i64 r.s.rt, .bool r.s.dn, .int .i64 r.s.idle, .int .i64 r.s.next, .slice fA2 q fc2] 26) from hmX)
            go_upto_region 18 with fail
            go_wp2_with fail
            refine HDB.out.mono ?_
            rintro e w8 ⟨v8, pv8, ps, rfl, ⟨fv8, vs8, rfl, ho8, hv8, hp8⟩, hq8, hk8, hl8, hb8⟩
            obtain ⟨f8, c8, rfl⟩ := own_form69 ho8
            obtain ⟨qA, qc, rfl⟩ := own_formE hq8
            have hPl : ps.length = i + 1 - d := by
              have h5 := congrArg List.length hk8
              rw [List.length_map, List.length_take, List.length_drop, HL.out, List.length_map, List.length_range] at h5
              have := HDD.out
              omega
            obtain ⟨x, hx⟩ : ∃ x, ps[i - d]? = some x := ⟨ps[i - d]'(by have := HDD.out; omega), List.getElem?_eq_getElem _⟩
            have hxc : core x = flt mn rt sts i := by
              have h5 := congrArg (fun l => l[i - d]?) hk8
              simp only [List.getElem?_map, hx, Option.map_some] at h5
              rw [List.getElem?_take, if_pos (by have := HDD.out; omega), HL.out, List.getElem?_drop, show d + (i - d) = i by have := HDD.out; omega, flt_at hin] at h5
              injection h5
            obtain ⟨P, hP⟩ : ∃ P, ps.length = P := ⟨_, rfl⟩
            obtain ⟨P1, hP1⟩ : ∃ P1, i - d = P1 := ⟨_, rfl⟩
            obtain ⟨q8, hq8'⟩ : ∃ q, vs8.length = q := ⟨_, rfl⟩
            rw [hP1] at hx
            rw [hP] at hq8
            rw [hq8'] at ho8
            unfold vLk
            dsimp only
            rw [hP, hq8']
            have hP2 : P = P1 + 1 := by have := HDD.out; omega
            have hv9 : vs8.map core = r.l.drop i1 := by rw [hv8, List.drop_drop]; congr 1; have := HDD.out; have := HI1.out; omega
            obtain ⟨n8, hn8⟩ : ∃ n, w8.heap.size = n := ⟨_, rfl⟩
            obtain ⟨W8, hW8⟩ : ∃ X, w8.alloc (.cells #[.int .i64 r.s.mn, .int .i64 r.s.mx, .int .i64 r.s.rt, .bool r.s.dn, .int .i64 r.s.idle, .int .i64 r.s.next, .slice f8 q8 c8] 26) = X := ⟨_, rfl⟩
            have hz8 : Below w8.heap.size w8 W8 := by rw [← hW8]; exact al1 _ _
            have HN8 : Hid (W8.heap[n8]? = some (.cells #[.int .i64 r.s.mn, .int .i64 r.s.mx, .int .i64 r.s.rt, .bool r.s.dn, .int .i64 r.s.idle, .int .i64 r.s.next, .slice f8 q8 c8] 26)) := hid (by rw [← hW8, ← hn8]; exact heap_alloc_new _ _)
            have HBW8 : Hid (Below wr.heap.size wr W8) := hid (HBV8.out.trans ((hb8.trans (hz8.mono hb8.size)).mono HBV8.out.size))
            have HO8 := hid (own_keep ho8 (keep_below hz8))
            have HP8 := hid (fun x hx => (hp8 x hx).keep (keep_below hz8))
            have hPY : PyL W8 (.slice qA P qc) ps := py_of_own (own_keep hq8 (keep_below hz8)) (fun x hx => (hl8 x hx).keep (keep_below hz8))
            have HV9 := hid hv9
            have HQ8 := hid hq8'
            have HW8 := hid hW8
            have HNN8 := hid hn8
            have hst : sts[i]? = some (sts[i]'(by rw [HN.out]; exact hin)) := List.getElem?_eq_getElem _
            obtain ⟨st, hste⟩ : ∃ st, sts[i]'(by rw [HN.out]; exact hin) = st := ⟨_, rfl⟩
            rw [hste] at hst
            obtain ⟨sz, wt⟩ := st
            have hxm := List.mem_of_getElem? hx
            have hxb := hPY.1 x hxm
            obtain ⟨qb, qo, rfl, hqb, hqc⟩ := py_cells hPY (by omega)
            have p0 := hqc P1 x hx
            obtain ⟨xt, xn, xd, xp⟩ := x
            dsimp only at hxb p0
            obtain rfl : xp = pay sz i := by
              have h5 : xp = po sts i := congrArg (fun z : Fc => z.2.2) hxc
              rw [h5, po_at hst]
            obtain ⟨xA, xc, rfl⟩ := byt_form hxb
            obtain ⟨xb, xo, rfl, hxbl, _⟩ := byt_at hxb (by unfold pay; simp)
            obtain ⟨xm, hxl⟩ : ∃ xm, (pay sz i).length = xm := ⟨_, rfl⟩
            rw [hxl] at p0 hxb
            have dP : ((P : Int) == 0) = false := by rw [beq_eq_false_iff_ne]; omega
            have eP : IntKind.i64.wrap ((P : Int) - 1) = (P1 : Int) := by rw [IntKind.wrap_i64]; omega
            have hPlt : P1 < P := by omega
            have hSt : Sts W8 (.slice A N c) sts := HS.out.below (HBr.out.trans (HBW8.out.mono HBr.out.size))
            obtain ⟨tb, tq, rfl, htb, htc⟩ := sts_cells hSt (by rw [HN.out]; omega)
            obtain ⟨s0, s1⟩ := htc i _ hst
            obtain ⟨hsz, hwt⟩ := hSt.1 _ (List.mem_of_getElem? hst)
            dsimp only at s0 s1 hsz hwt
            have hi8 : i < 256 := by omega
            have hx6 := (HBW8.out.block g (box_lt HXr.out)).trans HXr.out
            have x3 := cell_of_row _ _ 3 _ _ _ hx6
            obtain ⟨S, hS⟩ : ∃ S, strOfNums (ints (pay sz i)) = S := ⟨_, rfl⟩
            have HSS := hid hS
            have HXB := hid hxb
            have HHeld := hid (fun (X : World) (hX : Below W8.heap.size W8 X) => (show X.cell? ⟨qb, qo + P1, none⟩ = some (.slice (some ⟨xb, xo, none⟩) xm xc) ∧ X.cell? ⟨g, 3, none⟩ = some (.slice (some ⟨tb, tq, none⟩) N c) ∧ X.cell? ⟨tb, tq + i * 2, none⟩ = some (.int .u8 (sz : Int)) ∧ X.cell? ⟨tb, tq + i * 2 + 1, none⟩ = some (.int .u8 (wt : Int)) ∧ (convert 37 9 (.slice (some ⟨xb, xo, none⟩) xm xc)).run Try.prog X = .ok (.string S) X from ⟨(hX.cell (p := ⟨qb, qo + P1, none⟩) hqb).trans p0, (hX.cell (p := ⟨g, 3, none⟩) (box_lt hx6)).trans x3, (hX.cell (p := ⟨tb, tq + i * 2, none⟩) htb).trans s0, (hX.cell (p := ⟨tb, tq + i * 2 + 1, none⟩) htb).trans s1, by rw [← HSS.out]; exact conv_at HXB.out hX⟩))
            have hHeld := HHeld.out W8.drew (Below.refl _ W8).drew
            have dS' : (S.toList != S.toList) = false := by simp
            have HPAY := hid (fun (X : World) => payload_any sz wt i X hsz hi8)
            clear hqc hxc htc hSt hst hste hsz hwt hxm hx hS hxl hxb p0 x3 s0 s1 hx6 y0 y1 y2 y3 y4 y5 y6 hmX hW8 hn8 hz8 ho8 hv8 hp8 hq8 hk8 hl8 hb8 hq8' hv9 hP2 hPl hP hP1 hPY HDB
            go_upto_region 19 with fail
            rw [HW8.out, HNN8.out]
            refine region_tail 20 (fun X => X.cell? ⟨qb, qo + P1, none⟩ = some (.slice (some ⟨xb, xo, none⟩) xm xc) ∧ X.cell? ⟨g, 3, none⟩ = some (.slice (some ⟨tb, tq, none⟩) N c) ∧ X.cell? ⟨tb, tq + i * 2, none⟩ = some (.int .u8 (sz : Int)) ∧ X.cell? ⟨tb, tq + i * 2 + 1, none⟩ = some (.int .u8 (wt : Int)) ∧ (convert 37 9 (.slice (some ⟨xb, xo, none⟩) xm xc)).run Try.prog X = .ok (.string S) X) (by kernel_rfl) ?_
            refine' wpAnyT_take (i := 0) (oi := ?oiza0) (v := ?vza0) ?hiza0 (by kernel_rfl) (by kernel_rfl) ?hqza0 ?hyza0 hHeld ?restza0
            case hiza0 => (simp only [List.getElem?_toArray, List.getElem?_cons_zero]; rfl)
            case hqza0 => exact fun _ _ _ h => h
            case hyza0 => (refine Or.inl ⟨by rfl, ?_⟩; intro w' hSw; (try dsimp only at hSw); go_simp; try with_reducible rfl)
            (try simp only [Act.put, List.setIfInBounds_toArray, List.set_cons_zero, List.set_cons_succ])
            refine' wpAnyT_take (i := 1) (oi := ?oiza1) (v := ?vza1) ?hiza1 (by kernel_rfl) (by kernel_rfl) ?hqza1 ?hyza1 hHeld ?restza1
            case hiza1 => (simp only [List.getElem?_toArray, List.getElem?_cons_zero, List.getElem?_cons_succ]; rfl)
            case hqza1 => exact fun _ _ _ h => h
            case hyza1 => (refine Or.inl ⟨by rfl, ?_⟩; intro w' hSw; (try dsimp only at hSw); go_simp; try with_reducible rfl)
            (try simp only [Act.put, List.setIfInBounds_toArray, List.set_cons_zero, List.set_cons_succ])
            refine' wpAnyT_take (i := 2) (oi := ?oiza2) (v := ?vza2) ?hiza2 (by kernel_rfl) (by kernel_rfl) ?hqza2 ?hyza2 hHeld ?restza2
            case hiza2 => (simp only [List.getElem?_toArray, List.getElem?_cons_zero, List.getElem?_cons_succ]; rfl)
            case hqza2 => exact fun _ _ _ h => h
            case hyza2 => (refine Or.inl ⟨by rfl, ?_⟩; intro w' hSw; (try dsimp only at hSw); go_simp; try with_reducible rfl)
            (try simp only [Act.put, List.setIfInBounds_toArray, List.set_cons_zero, List.set_cons_succ])
            refine' wpAnyT_take (i := 3) (oi := ?oiza3) (v := ?vza3) ?hiza3 (by kernel_rfl) (by kernel_rfl) ?hqza3 ?hyza3 hHeld ?restza3
            case hiza3 => (simp only [List.getElem?_toArray, List.getElem?_cons_zero, List.getElem?_cons_succ]; rfl)
            case hqza3 => exact fun _ _ _ h => h
            case hyza3 => (refine Or.inl ⟨by rfl, ?_⟩; intro w' hSw; (try dsimp only at hSw); go_simp; try with_reducible rfl)
            (try simp only [Act.put, List.setIfInBounds_toArray, List.set_cons_zero, List.set_cons_succ])
            refine' wpAnyT_take (i := 4) (oi := ?oiza4) (v := ?vza4) ?hiza4 (by kernel_rfl) (by kernel_rfl) ?hqza4 ?hyza4 hHeld ?restza4
            case hiza4 => (simp only [List.getElem?_toArray, List.getElem?_cons_zero, List.getElem?_cons_succ]; rfl)
            case hqza4 => exact fun _ _ _ h => h
            case hyza4 => (refine Or.inl ⟨by rfl, ?_⟩; intro w' hSw; (try dsimp only at hSw); go_simp; try with_reducible rfl)
            (try simp only [Act.put, List.setIfInBounds_toArray, List.set_cons_zero, List.set_cons_succ])
            refine' wpAnyT_take (i := 5) (oi := ?oiza5) (v := ?vza5) ?hiza5 (by kernel_rfl) (by kernel_rfl) ?hqza5 ?hyza5 hHeld ?restza5
            case hiza5 => (simp only [List.getElem?_toArray, List.getElem?_cons_zero, List.getElem?_cons_succ]; rfl)
            case hqza5 => exact fun _ _ _ h => h
            case hyza5 => (refine Or.inl ⟨by rfl, ?_⟩; intro w' hSw; (try dsimp only at hSw); go_simp; try with_reducible rfl)
            (try simp only [Act.put, List.setIfInBounds_toArray, List.set_cons_zero, List.set_cons_succ])
            refine' wpAnyT_take (i := 6) (oi := ?oiza6) (v := ?vza6) ?hiza6 (by kernel_rfl) (by kernel_rfl) ?hqza6 ?hyza6 hHeld ?restza6
            case hiza6 => (simp only [List.getElem?_toArray, List.getElem?_cons_zero, List.getElem?_cons_succ]; rfl)
            case hqza6 => exact fun _ _ _ h => h
            case hyza6 => (refine Or.inl ⟨by rfl, ?_⟩; intro w' hSw; (try dsimp only at hSw); go_simp; try with_reducible rfl)
            (try simp only [Act.put, List.setIfInBounds_toArray, List.set_cons_zero, List.set_cons_succ])
            refine' wpAnyT_take (i := 7) (oi := ?oiza7) (v := ?vza7) ?hiza7 (by kernel_rfl) (by kernel_rfl) ?hqza7 ?hyza7 hHeld ?restza7
            case hiza7 => (simp only [List.getElem?_toArray, List.getElem?_cons_zero, List.getElem?_cons_succ]; rfl)
            case hqza7 => exact fun _ _ _ h => h
            case hyza7 => (refine Or.inl ⟨by rfl, ?_⟩; intro w' hSw; (try dsimp only at hSw); go_simp; try with_reducible rfl)
            (try simp only [Act.put, List.setIfInBounds_toArray, List.set_cons_zero, List.set_cons_succ])
            refine' wpAnyT_take (i := 8) (oi := ?oiza8) (v := ?vza8) ?hiza8 (by kernel_rfl) (by kernel_rfl) ?hqza8 ?hyza8 hHeld ?restza8
            case hiza8 => (simp only [List.getElem?_toArray, List.getElem?_cons_zero, List.getElem?_cons_succ]; rfl)
            case hqza8 => exact fun _ _ _ h => h
            case hyza8 => (refine Or.inl ⟨by rfl, ?_⟩; intro w' hSw; (try dsimp only at hSw); go_simp; try with_reducible rfl)
            (try simp only [Act.put, List.setIfInBounds_toArray, List.set_cons_zero, List.set_cons_succ])
            refine' wpAnyT_take (i := 9) (oi := ?oiza9) (v := ?vza9) ?hiza9 (by kernel_rfl) (by kernel_rfl) ?hqza9 ?hyza9 hHeld ?restza9
            case hiza9 => (simp only [List.getElem?_toArray, List.getElem?_cons_zero, List.getElem?_cons_succ]; rfl)
            case hqza9 => exact fun _ _ _ h => h
            case hyza9 => (refine Or.inl ⟨by rfl, ?_⟩; intro w' hSw; (try dsimp only at hSw); go_simp; try with_reducible rfl)
            (try simp only [Act.put, List.setIfInBounds_toArray, List.set_cons_zero, List.set_cons_succ])
            refine' wpAnyT_take (i := 10) (oi := ?oiza10) (v := ?vza10) ?hiza10 (by kernel_rfl) (by kernel_rfl) ?hqza10 ?hyza10 hHeld ?restza10
            case hiza10 => (simp only [List.getElem?_toArray, List.getElem?_cons_zero, List.getElem?_cons_succ]; rfl)
            case hqza10 => exact fun _ _ _ h => h
            case hyza10 => (refine Or.inl ⟨by rfl, ?_⟩; intro w' hSw; (try dsimp only at hSw); go_simp; try with_reducible rfl)
            (try simp only [Act.put, List.setIfInBounds_toArray, List.set_cons_zero, List.set_cons_succ])
            refine' wpAnyT_take (i := 11) (oi := ?oiza11) (v := ?vza11) ?hiza11 (by kernel_rfl) (by kernel_rfl) ?hqza11 ?hyza11 hHeld ?restza11
            case hiza11 => (simp only [List.getElem?_toArray, List.getElem?_cons_zero, List.getElem?_cons_succ]; rfl)
            case hqza11 => exact fun _ _ _ h => h
            case hyza11 => (refine Or.inl ⟨by rfl, ?_⟩; intro w' hSw; (try dsimp only at hSw); go_simp; try with_reducible rfl)
            (try simp only [Act.put, List.setIfInBounds_toArray, List.set_cons_zero, List.set_cons_succ])
            refine' wpAnyT_take (i := 12) (oi := ?oiza12) (v := ?vza12) ?hiza12 (by kernel_rfl) (by kernel_rfl) ?hqza12 ?hyza12 hHeld ?restza12
            case hiza12 => (simp only [List.getElem?_toArray, List.getElem?_cons_zero, List.getElem?_cons_succ]; rfl)
            case hqza12 => exact fun _ _ _ h => h
            case hyza12 => (refine Or.inl ⟨by rfl, ?_⟩; intro w' hSw; (try dsimp only at hSw); go_simp; try with_reducible rfl)
            (try simp only [Act.put, List.setIfInBounds_toArray, List.set_cons_zero, List.set_cons_succ])
            refine' wpAnyT_take (i := 13) (oi := ?oiza13) (v := ?vza13) ?hiza13 (by kernel_rfl) (by kernel_rfl) ?hqza13 ?hyza13 hHeld ?restza13
            case hiza13 => (simp only [List.getElem?_toArray, List.getElem?_cons_zero, List.getElem?_cons_succ]; rfl)
            case hqza13 => exact fun _ _ _ h => h
            case hyza13 => (refine Or.inl ⟨by rfl, ?_⟩; intro w' hSw; (try dsimp only at hSw); go_simp; try with_reducible rfl)
            (try simp only [Act.put, List.setIfInBounds_toArray, List.set_cons_zero, List.set_cons_succ])
            refine' wpAnyT_take (i := 14) (oi := ?oiza14) (v := ?vza14) ?hiza14 (by kernel_rfl) (by kernel_rfl) ?hqza14 ?hyza14 hHeld ?restza14
            case hiza14 => (simp only [List.getElem?_toArray, List.getElem?_cons_zero, List.getElem?_cons_succ]; rfl)
            case hqza14 => exact fun _ _ _ h => h
            case hyza14 => (refine Or.inl ⟨by rfl, ?_⟩; intro w' hSw; (try dsimp only at hSw); go_simp; try with_reducible rfl)
            (try simp only [Act.put, List.setIfInBounds_toArray, List.set_cons_zero, List.set_cons_succ])
            refine' wpAnyT_take (i := 15) (oi := ?oiza15) (v := ?vza15) ?hiza15 (by kernel_rfl) (by kernel_rfl) ?hqza15 ?hyza15 hHeld ?restza15
            case hiza15 => (simp only [List.getElem?_toArray, List.getElem?_cons_zero, List.getElem?_cons_succ]; rfl)
            case hqza15 => exact fun _ _ _ h => h
            case hyza15 => (refine Or.inl ⟨by rfl, ?_⟩; intro w' hSw; (try dsimp only at hSw); go_simp; try with_reducible rfl)
            (try simp only [Act.put, List.setIfInBounds_toArray, List.set_cons_zero, List.set_cons_succ])
            refine' wpAnyT_take (i := 16) (oi := ?oiza16) (v := ?vza16) ?hiza16 (by kernel_rfl) (by kernel_rfl) ?hqza16 ?hyza16 hHeld ?restza16
            case hiza16 => (simp only [List.getElem?_toArray, List.getElem?_cons_zero, List.getElem?_cons_succ]; rfl)
            case hqza16 => exact fun _ _ _ h => h
            case hyza16 => (refine Or.inl ⟨by rfl, ?_⟩; intro w' hSw; (try dsimp only at hSw); go_simp; try with_reducible rfl)
            (try simp only [Act.put, List.setIfInBounds_toArray, List.set_cons_zero, List.set_cons_succ])
            refine wpAnyT_all (l := [17]) (by kernel_rfl) (by decide) ?_
            intro ii hii
            simp only [List.mem_cons, List.not_mem_nil, or_false] at hii
            subst hii
            refine ⟨_, by (simp only [List.getElem?_toArray, List.getElem?_cons_zero, List.getElem?_cons_succ]; rfl), fun KK hKK => ?_⟩
            go_simp
            go_at_call 32
            refine (HPAY.out W8.drew).mono ?_
            rintro e w9 ⟨pv, rfl, hpo, hb9⟩
            obtain ⟨pA, pc, rfl⟩ := own_form hpo
            obtain ⟨pl, hpl⟩ : ∃ pl, (pay sz i).length = pl := ⟨_, rfl⟩
            rw [hpl] at hpo
            have hb7 : Below W8.heap.size W8 w9 := (Below.refl _ W8).drew.trans hb9
            have hHeld6 := HHeld.out w9 hb7
            have hc2 : (convert 37 9 (.slice pA pl pc)).run Try.prog w9 = .ok (.string S) w9 := by rw [← HSS.out]; exact byt_conv (byt_of_own hpo (pay_b8 sz i hi8))
            (try rw [hpl])
            have HB9 := hid hb7
            clear hpo hb9 hb7 hpl
            refine hKK.out _ _ (fun _ => hHeld6) ?_
            clear hKK KK
            (try simp only [Act.put, List.setIfInBounds_toArray, List.set_cons_zero, List.set_cons_succ])
            refine wpAnyT_all (l := [18]) (by kernel_rfl) (by decide) ?_
            intro ii hii
            simp only [List.mem_cons, List.not_mem_nil, or_false] at hii
            subst hii
            refine ⟨_, by (simp only [List.getElem?_toArray, List.getElem?_cons_zero, List.getElem?_cons_succ]; rfl), fun KK hKK => ?_⟩
            go_simp
            refine hKK.out _ _ (fun _ => hHeld6) ?_
            clear hKK KK
            (try simp only [Act.put, List.setIfInBounds_toArray, List.set_cons_zero, List.set_cons_succ])
            refine wpAnyT_all (l := [19]) (by kernel_rfl) (by decide) ?_
            intro ii hii
            simp only [List.mem_cons, List.not_mem_nil, or_false] at hii
            subst hii
            refine ⟨_, by (simp only [List.getElem?_toArray, List.getElem?_cons_zero, List.getElem?_cons_succ]; rfl), fun KK hKK => ?_⟩
            go_simp
            refine hKK.out _ _ (fun _ => hHeld6) ?_
            clear hKK KK
            (try simp only [Act.put, List.setIfInBounds_toArray, List.set_cons_zero, List.set_cons_succ])
            refine wpAnyT_all (l := [20]) (by kernel_rfl) (by decide) ?_
            intro ii hii
            simp only [List.mem_cons, List.not_mem_nil, or_false] at hii
            subst hii
            refine ⟨_, by (simp only [List.getElem?_toArray, List.getElem?_cons_zero, List.getElem?_cons_succ]; rfl), fun KK hKK => ?_⟩
            go_simp
            refine hKK.out _ _ (fun h => absurd h (by decide)) ?_
            clear hKK KK
            (try simp only [Act.put, List.setIfInBounds_toArray, List.set_cons_zero, List.set_cons_succ])
            refine wpAnyT_done (by kernel_rfl) ?_ _
            have HBw9 : Hid (Below wr.heap.size wr w9) := hid (HBW8.out.trans (HB9.out.mono HBW8.out.size))
            have hn9 := (HB9.out.block _ (box_lt HN8.out)).trans HN8.out
            have hm9 := (HBw9.out.block m hmr).trans HMR.out
            have ho9 := own_keep HO8.out (keep_below HB9.out)
            have z0 := cell_of_row _ _ 0 _ _ _ hn9
            have z1 := cell_of_row _ _ 1 _ _ _ hn9
            have z2 := cell_of_row _ _ 2 _ _ _ hn9
            have z3 := cell_of_row _ _ 3 _ _ _ hn9
            have z4 := cell_of_row _ _ 4 _ _ _ hn9
            have z5 := cell_of_row _ _ 5 _ _ _ hn9
            have z6 := cell_of_row _ _ 6 _ _ _ hn9
            have y0 := cell_of_row _ _ 0 _ _ _ (show w9.heap[m]? = some (.cells #[.int .i64 r.s.mn, .int .i64 r.s.mx, .int .i64 r.s.rt, .bool r.s.dn, .int .i64 r.s.idle, .int .i64 r.s.next, .slice fA2 q fc2] 26) from hm9)
            have y1 := cell_of_row _ _ 1 _ _ _ (show w9.heap[m]? = some (.cells #[.int .i64 r.s.mn, .int .i64 r.s.mx, .int .i64 r.s.rt, .bool r.s.dn, .int .i64 r.s.idle, .int .i64 r.s.next, .slice fA2 q fc2] 26) from hm9)
            have y2 := cell_of_row _ _ 2 _ _ _ (show w9.heap[m]? = some (.cells #[.int .i64 r.s.mn, .int .i64 r.s.mx, .int .i64 r.s.rt, .bool r.s.dn, .int .i64 r.s.idle, .int .i64 r.s.next, .slice fA2 q fc2] 26) from hm9)
            have y3 := cell_of_row _ _ 3 _ _ _ (show w9.heap[m]? = some (.cells #[.int .i64 r.s.mn, .int .i64 r.s.mx, .int .i64 r.s.rt, .bool r.s.dn, .int .i64 r.s.idle, .int .i64 r.s.next, .slice fA2 q fc2] 26) from hm9)
            have y4 := cell_of_row _ _ 4 _ _ _ (show w9.heap[m]? = some (.cells #[.int .i64 r.s.mn, .int .i64 r.s.mx, .int .i64 r.s.rt, .bool r.s.dn, .int .i64 r.s.idle, .int .i64 r.s.next, .slice fA2 q fc2] 26) from hm9)
            have y5 := cell_of_row _ _ 5 _ _ _ (show w9.heap[m]? = some (.cells #[.int .i64 r.s.mn, .int .i64 r.s.mx, .int .i64 r.s.rt, .bool r.s.dn, .int .i64 r.s.idle, .int .i64 r.s.next, .slice fA2 q fc2] 26) from hm9)
            have y6 := cell_of_row _ _ 6 _ _ _ (show w9.heap[m]? = some (.cells #[.int .i64 r.s.mn, .int .i64 r.s.mx, .int .i64 r.s.rt, .bool r.s.dn, .int .i64 r.s.idle, .int .i64 r.s.next, .slice fA2 q fc2] 26) from hm9)
            have fy0 := box_fr hm9 0
            have fy1 := box_fr hm9 1
            have fy2 := box_fr hm9 2
            have fy3 := box_fr hm9 3
            have fy4 := box_fr hm9 4
            have fy5 := box_fr hm9 5
            have fy6 := box_fr hm9 6
            obtain ⟨W9, hW9⟩ : ∃ X, (((((((w9.setCell ⟨m, 0, none⟩ (.int .i64 r.s.mn)).setCell ⟨m, 1, none⟩ (.int .i64 r.s.mx)).setCell ⟨m, 2, none⟩ (.int .i64 r.s.rt)).setCell ⟨m, 3, none⟩ (.bool r.s.dn)).setCell ⟨m, 4, none⟩ (.int .i64 r.s.idle)).setCell ⟨m, 5, none⟩ (.int .i64 r.s.next)).setCell ⟨m, 6, none⟩ (.slice f8 q8 c8)) = X := ⟨_, rfl⟩
            have HM9 : Hid (W9.heap[m]? = some (.cells #[.int .i64 r.s.mn, .int .i64 r.s.mx, .int .i64 r.s.rt, .bool r.s.dn, .int .i64 r.s.idle, .int .i64 r.s.next, .slice f8 q8 c8] 26)) := hid (by rw [← hW9]; exact set7h _ _ _ _ _ _ _ hm9)
            have HO9 : Hid (W9.ownsRow 0 69 3 (.slice f8 q8 c8) vs8.length (vs8.map cFl).flatten) := hid (by rw [HQ8.out, ← hW9]; exact own_base (own_keep ho9 (set7k hm9 (by decide) _ _ _ _ _ _ _)) (Nat.zero_le _))
            have HP9 : Hid (∀ x ∈ vs8, Pay W9 x) := hid (fun x hx => by rw [← hW9]; exact ((HP8.out x hx).keep (keep_below HB9.out)).keep (set7k hm9 (by decide) _ _ _ _ _ _ _))
            have HB10 : Hid (Below m w3 W9) := hid (by rw [← hW9]; exact set7b _ _ _ _ _ _ _ (HB.out.trans (HBw9.out.mono HMS.out)) (Nat.le_refl _))
            have HW9 := hid hW9
            clear hW9 hn9 hm9 ho9 hHeld hHeld6 hc2
            go_upto_region 9 with fail
            rw [HW9.out]
            go_wp2_with fail
            go_roundw
            case rel => exact ⟨i1, i1, _, vs8, by have := HI1.out; omega, rfl, hid ⟨Nat.le_refl _, .inl rfl⟩, HV9, HM9, HO9, HP9, HB10⟩
            case measure => have := HI1.out; simp [Lib.intOf]; omega

        · have dn : decide ((i1 : Int) < (N : Int)) = false := decide_eq_false (by omega)
          have dn' : decide (i1 < N) = false := decide_eq_false hn1
          have HDT : Hid (delN r.s (r.l.drop d) (I + mn) = i + 1 - d) := hid (del_eq HOD.out (by rw [HL.out, List.length_drop, List.length_map, List.length_range]; have := HDD.out; omega) (fun j x hj hx => by
            rw [HL.out] at hx
            obtain ⟨h5, rfl⟩ := flt_drop hx
            have h6 := HMO.out (d + j + 1) (i + 1) (by omega) (by omega)
            rw [HII2.out] at h6
            show idl mn mn rt [] sts (d + j + 1) + mn ≤ I + mn
            omega) (fun x hx => by
            rw [HL.out] at hx
            obtain ⟨h5, rfl⟩ := flt_drop hx
            have := HDD.out
            omega))
          have HNE := hid hn1
          have HI1 := hid hi1
          clear hn1 hi1
          go_upto_region 17 with fail
          go_quiet (fail)
          obtain ⟨V8, hV8⟩ : ∃ X, V2.drewN nq = X := ⟨_, rfl⟩
          rw [hV8]
          have HBV8 : Hid (Below wr.heap.size wr V8) := hid (by rw [← hV8]; exact below_both_drewN HBV2.out _)
          clear hV8
          have HDB := hid (HDV.out (I + mn) V8 HBV8.out)
          rw [HDT.out] at HDB
          have hmX := (HBV8.out.block m hmr).trans HMR.out
          have y0 := cell_of_row _ _ 0 _ _ _ (show V8.heap[m]? = some (.cells #[.int .i64 r.s.mn, .int .i64 r.s.mx, .int .i64 r.s.rt, .bool r.s.dn, .int .i64 r.s.idle, .int .i64 r.s.next, .slice fA2 q fc2] 26) from hmX)
          have y1 := cell_of_row _ _ 1 _ _ _ (show V8.heap[m]? = some (.cells #[.int .i64 r.s.mn, .int .i64 r.s.mx, .int .i64 r.s.rt, .bool r.s.dn, .int .i64 r.s.idle, .int .i64 r.s.next, .slice fA2 q fc2] 26) from hmX)
          have y2 := cell_of_row _ _ 2 _ _ _ (show V8.heap[m]? = some (.cells #[.int .i64 r.s.mn, .int .i64 r.s.mx, .int .i64 r.s.rt, .bool r.s.dn, .int .i64 r.s.idle, .int .i64 r.s.next, .slice fA2 q fc2] 26) from hmX)
          have y3 := cell_of_row _ _ 3 _ _ _ (show V8.heap[m]? = some (.cells #[.int .i64 r.s.mn, .int .i64 r.s.mx, .int .i64 r.s.rt, .bool r.s.dn, .int .i64 r.s.idle, .int .i64 r.s.next, .slice fA2 q fc2] 26) from hmX)
          have y4 := cell_of_row _ _ 4 _ _ _ (show V8.heap[m]? = some (.cells #[.int .i64 r.s.mn, .int .i64 r.s.mx, .int .i64 r.s.rt, .bool r.s.dn, .int .i64 r.s.idle, .int .i64 r.s.next, .slice fA2 q fc2] 26) from hmX)
          have y5 := cell_of_row _ _ 5 _ _ _ (show V8.heap[m]? = some (.cells #[.int .i64 r.s.mn, .int .i64 r.s.mx, .int .i64 r.s.rt, .bool r.s.dn, .int .i64 r.s.idle, .int .i64 r.s.next, .slice fA2 q fc2] 26) from hmX)
          have y6 := cell_of_row _ _ 6 _ _ _ (show V8.heap[m]? = some (.cells #[.int .i64 r.s.mn, .int .i64 r.s.mx, .int .i64 r.s.rt, .bool r.s.dn, .int .i64 r.s.idle, .int .i64 r.s.next, .slice fA2 q fc2] 26) from hmX)
          go_upto_region 18 with fail
          go_wp2_with fail
          refine HDB.out.mono ?_
          rintro e w8 ⟨v8, pv8, ps, rfl, ⟨fv8, vs8, rfl, ho8, hv8, hp8⟩, hq8, hk8, hl8, hb8⟩
          obtain ⟨f8, c8, rfl⟩ := own_form69 ho8
          obtain ⟨qA, qc, rfl⟩ := own_formE hq8
          have hPl : ps.length = i + 1 - d := by
            have h5 := congrArg List.length hk8
            rw [List.length_map, List.length_take, List.length_drop, HL.out, List.length_map, List.length_range] at h5
            have := HDD.out
            omega
          obtain ⟨x, hx⟩ : ∃ x, ps[i - d]? = some x := ⟨ps[i - d]'(by have := HDD.out; omega), List.getElem?_eq_getElem _⟩
          have hxc : core x = flt mn rt sts i := by
            have h5 := congrArg (fun l => l[i - d]?) hk8
            simp only [List.getElem?_map, hx, Option.map_some] at h5
            rw [List.getElem?_take, if_pos (by have := HDD.out; omega), HL.out, List.getElem?_drop, show d + (i - d) = i by have := HDD.out; omega, flt_at hin] at h5
            injection h5
          obtain ⟨P, hP⟩ : ∃ P, ps.length = P := ⟨_, rfl⟩
          obtain ⟨P1, hP1⟩ : ∃ P1, i - d = P1 := ⟨_, rfl⟩
          obtain ⟨q8, hq8'⟩ : ∃ q, vs8.length = q := ⟨_, rfl⟩
          rw [hP1] at hx
          rw [hP] at hq8
          rw [hq8'] at ho8
          unfold vLk
          dsimp only
          rw [hP, hq8']
          have hP2 : P = P1 + 1 := by have := HDD.out; omega
          have hv9 : vs8.map core = r.l.drop i1 := by rw [hv8, List.drop_drop]; congr 1; have := HDD.out; have := HI1.out; omega
          obtain ⟨n8, hn8⟩ : ∃ n, w8.heap.size = n := ⟨_, rfl⟩
          obtain ⟨W8, hW8⟩ : ∃ X, w8.alloc (.cells #[.int .i64 r.s.mn, .int .i64 r.s.mx, .int .i64 r.s.rt, .bool r.s.dn, .int .i64 r.s.idle, .int .i64 r.s.next, .slice f8 q8 c8] 26) = X := ⟨_, rfl⟩
          have hz8 : Below w8.heap.size w8 W8 := by rw [← hW8]; exact al1 _ _
          have HN8 : Hid (W8.heap[n8]? = some (.cells #[.int .i64 r.s.mn, .int .i64 r.s.mx, .int .i64 r.s.rt, .bool r.s.dn, .int .i64 r.s.idle, .int .i64 r.s.next, .slice f8 q8 c8] 26)) := hid (by rw [← hW8, ← hn8]; exact heap_alloc_new _ _)
          have HBW8 : Hid (Below wr.heap.size wr W8) := hid (HBV8.out.trans ((hb8.trans (hz8.mono hb8.size)).mono HBV8.out.size))
          have HO8 := hid (own_keep ho8 (keep_below hz8))
          have HP8 := hid (fun x hx => (hp8 x hx).keep (keep_below hz8))
          have hPY : PyL W8 (.slice qA P qc) ps := py_of_own (own_keep hq8 (keep_below hz8)) (fun x hx => (hl8 x hx).keep (keep_below hz8))
          have HV9 := hid hv9
          have HQ8 := hid hq8'
          have HW8 := hid hW8
          have HNN8 := hid hn8
          have hst : sts[i]? = some (sts[i]'(by rw [HN.out]; exact hin)) := List.getElem?_eq_getElem _
          obtain ⟨st, hste⟩ : ∃ st, sts[i]'(by rw [HN.out]; exact hin) = st := ⟨_, rfl⟩
          rw [hste] at hst
          obtain ⟨sz, wt⟩ := st
          have hxm := List.mem_of_getElem? hx
          have hxb := hPY.1 x hxm
          obtain ⟨qb, qo, rfl, hqb, hqc⟩ := py_cells hPY (by omega)
          have p0 := hqc P1 x hx
          obtain ⟨xt, xn, xd, xp⟩ := x
          dsimp only at hxb p0
          obtain rfl : xp = pay sz i := by
            have h5 : xp = po sts i := congrArg (fun z : Fc => z.2.2) hxc
            rw [h5, po_at hst]
          obtain ⟨xA, xc, rfl⟩ := byt_form hxb
          obtain ⟨xb, xo, rfl, hxbl, _⟩ := byt_at hxb (by unfold pay; simp)
          obtain ⟨xm, hxl⟩ : ∃ xm, (pay sz i).length = xm := ⟨_, rfl⟩
          rw [hxl] at p0 hxb
          have dP : ((P : Int) == 0) = false := by rw [beq_eq_false_iff_ne]; omega
          have eP : IntKind.i64.wrap ((P : Int) - 1) = (P1 : Int) := by rw [IntKind.wrap_i64]; omega
          have hPlt : P1 < P := by omega
          have hSt : Sts W8 (.slice A N c) sts := HS.out.below (HBr.out.trans (HBW8.out.mono HBr.out.size))
          obtain ⟨tb, tq, rfl, htb, htc⟩ := sts_cells hSt (by rw [HN.out]; omega)
          obtain ⟨s0, s1⟩ := htc i _ hst
          obtain ⟨hsz, hwt⟩ := hSt.1 _ (List.mem_of_getElem? hst)
          dsimp only at s0 s1 hsz hwt
          have hi8 : i < 256 := by omega
          have hx6 := (HBW8.out.block g (box_lt HXr.out)).trans HXr.out
          have x3 := cell_of_row _ _ 3 _ _ _ hx6
          obtain ⟨S, hS⟩ : ∃ S, strOfNums (ints (pay sz i)) = S := ⟨_, rfl⟩
          have HSS := hid hS
          have HXB := hid hxb
          have HHeld := hid (fun (X : World) (hX : Below W8.heap.size W8 X) => (show X.cell? ⟨qb, qo + P1, none⟩ = some (.slice (some ⟨xb, xo, none⟩) xm xc) ∧ X.cell? ⟨g, 3, none⟩ = some (.slice (some ⟨tb, tq, none⟩) N c) ∧ X.cell? ⟨tb, tq + i * 2, none⟩ = some (.int .u8 (sz : Int)) ∧ X.cell? ⟨tb, tq + i * 2 + 1, none⟩ = some (.int .u8 (wt : Int)) ∧ (convert 37 9 (.slice (some ⟨xb, xo, none⟩) xm xc)).run Try.prog X = .ok (.string S) X from ⟨(hX.cell (p := ⟨qb, qo + P1, none⟩) hqb).trans p0, (hX.cell (p := ⟨g, 3, none⟩) (box_lt hx6)).trans x3, (hX.cell (p := ⟨tb, tq + i * 2, none⟩) htb).trans s0, (hX.cell (p := ⟨tb, tq + i * 2 + 1, none⟩) htb).trans s1, by rw [← HSS.out]; exact conv_at HXB.out hX⟩))
          have hHeld := HHeld.out W8.drew (Below.refl _ W8).drew
          have dS' : (S.toList != S.toList) = false := by simp
          have HPAY := hid (fun (X : World) => payload_any sz wt i X hsz hi8)
          clear hqc hxc htc hSt hst hste hsz hwt hxm hx hS hxl hxb p0 x3 s0 s1 hx6 y0 y1 y2 y3 y4 y5 y6 hmX hW8 hn8 hz8 ho8 hv8 hp8 hq8 hk8 hl8 hb8 hq8' hv9 hP2 hPl hP hP1 hPY HDB
          go_upto_region 19 with fail
          rw [HW8.out, HNN8.out]
          refine region_tail 20 (fun X => X.cell? ⟨qb, qo + P1, none⟩ = some (.slice (some ⟨xb, xo, none⟩) xm xc) ∧ X.cell? ⟨g, 3, none⟩ = some (.slice (some ⟨tb, tq, none⟩) N c) ∧ X.cell? ⟨tb, tq + i * 2, none⟩ = some (.int .u8 (sz : Int)) ∧ X.cell? ⟨tb, tq + i * 2 + 1, none⟩ = some (.int .u8 (wt : Int)) ∧ (convert 37 9 (.slice (some ⟨xb, xo, none⟩) xm xc)).run Try.prog X = .ok (.string S) X) (by kernel_rfl) ?_
          refine' wpAnyT_take (i := 0) (oi := ?oizb0) (v := ?vzb0) ?hizb0 (by kernel_rfl) (by kernel_rfl) ?hqzb0 ?hyzb0 hHeld ?restzb0
          case hizb0 => (simp only [List.getElem?_toArray, List.getElem?_cons_zero]; rfl)
          case hqzb0 => exact fun _ _ _ h => h
          case hyzb0 => (refine Or.inl ⟨by rfl, ?_⟩; intro w' hSw; (try dsimp only at hSw); go_simp; try with_reducible rfl)
          (try simp only [Act.put, List.setIfInBounds_toArray, List.set_cons_zero, List.set_cons_succ])
          refine' wpAnyT_take (i := 1) (oi := ?oizb1) (v := ?vzb1) ?hizb1 (by kernel_rfl) (by kernel_rfl) ?hqzb1 ?hyzb1 hHeld ?restzb1
          case hizb1 => (simp only [List.getElem?_toArray, List.getElem?_cons_zero, List.getElem?_cons_succ]; rfl)
          case hqzb1 => exact fun _ _ _ h => h
          case hyzb1 => (refine Or.inl ⟨by rfl, ?_⟩; intro w' hSw; (try dsimp only at hSw); go_simp; try with_reducible rfl)
          (try simp only [Act.put, List.setIfInBounds_toArray, List.set_cons_zero, List.set_cons_succ])
          refine' wpAnyT_take (i := 2) (oi := ?oizb2) (v := ?vzb2) ?hizb2 (by kernel_rfl) (by kernel_rfl) ?hqzb2 ?hyzb2 hHeld ?restzb2
          case hizb2 => (simp only [List.getElem?_toArray, List.getElem?_cons_zero, List.getElem?_cons_succ]; rfl)
          case hqzb2 => exact fun _ _ _ h => h
          case hyzb2 => (refine Or.inl ⟨by rfl, ?_⟩; intro w' hSw; (try dsimp only at hSw); go_simp; try with_reducible rfl)
          (try simp only [Act.put, List.setIfInBounds_toArray, List.set_cons_zero, List.set_cons_succ])
          refine' wpAnyT_take (i := 3) (oi := ?oizb3) (v := ?vzb3) ?hizb3 (by kernel_rfl) (by kernel_rfl) ?hqzb3 ?hyzb3 hHeld ?restzb3
          case hizb3 => (simp only [List.getElem?_toArray, List.getElem?_cons_zero, List.getElem?_cons_succ]; rfl)
          case hqzb3 => exact fun _ _ _ h => h
          case hyzb3 => (refine Or.inl ⟨by rfl, ?_⟩; intro w' hSw; (try dsimp only at hSw); go_simp; try with_reducible rfl)
          (try simp only [Act.put, List.setIfInBounds_toArray, List.set_cons_zero, List.set_cons_succ])
          refine' wpAnyT_take (i := 4) (oi := ?oizb4) (v := ?vzb4) ?hizb4 (by kernel_rfl) (by kernel_rfl) ?hqzb4 ?hyzb4 hHeld ?restzb4
          case hizb4 => (simp only [List.getElem?_toArray, List.getElem?_cons_zero, List.getElem?_cons_succ]; rfl)
          case hqzb4 => exact fun _ _ _ h => h
          case hyzb4 => (refine Or.inl ⟨by rfl, ?_⟩; intro w' hSw; (try dsimp only at hSw); go_simp; try with_reducible rfl)
          (try simp only [Act.put, List.setIfInBounds_toArray, List.set_cons_zero, List.set_cons_succ])
          refine' wpAnyT_take (i := 5) (oi := ?oizb5) (v := ?vzb5) ?hizb5 (by kernel_rfl) (by kernel_rfl) ?hqzb5 ?hyzb5 hHeld ?restzb5
          case hizb5 => (simp only [List.getElem?_toArray, List.getElem?_cons_zero, List.getElem?_cons_succ]; rfl)
          case hqzb5 => exact fun _ _ _ h => h
          case hyzb5 => (refine Or.inl ⟨by rfl, ?_⟩; intro w' hSw; (try dsimp only at hSw); go_simp; try with_reducible rfl)
          (try simp only [Act.put, List.setIfInBounds_toArray, List.set_cons_zero, List.set_cons_succ])
          refine' wpAnyT_take (i := 6) (oi := ?oizb6) (v := ?vzb6) ?hizb6 (by kernel_rfl) (by kernel_rfl) ?hqzb6 ?hyzb6 hHeld ?restzb6
          case hizb6 => (simp only [List.getElem?_toArray, List.getElem?_cons_zero, List.getElem?_cons_succ]; rfl)
          case hqzb6 => exact fun _ _ _ h => h
          case hyzb6 => (refine Or.inl ⟨by rfl, ?_⟩; intro w' hSw; (try dsimp only at hSw); go_simp; try with_reducible rfl)
          (try simp only [Act.put, List.setIfInBounds_toArray, List.set_cons_zero, List.set_cons_succ])
          refine' wpAnyT_take (i := 7) (oi := ?oizb7) (v := ?vzb7) ?hizb7 (by kernel_rfl) (by kernel_rfl) ?hqzb7 ?hyzb7 hHeld ?restzb7
          case hizb7 => (simp only [List.getElem?_toArray, List.getElem?_cons_zero, List.getElem?_cons_succ]; rfl)
          case hqzb7 => exact fun _ _ _ h => h
          case hyzb7 => (refine Or.inl ⟨by rfl, ?_⟩; intro w' hSw; (try dsimp only at hSw); go_simp; try with_reducible rfl)
          (try simp only [Act.put, List.setIfInBounds_toArray, List.set_cons_zero, List.set_cons_succ])
          refine' wpAnyT_take (i := 8) (oi := ?oizb8) (v := ?vzb8) ?hizb8 (by kernel_rfl) (by kernel_rfl) ?hqzb8 ?hyzb8 hHeld ?restzb8
          case hizb8 => (simp only [List.getElem?_toArray, List.getElem?_cons_zero, List.getElem?_cons_succ]; rfl)
          case hqzb8 => exact fun _ _ _ h => h
          case hyzb8 => (refine Or.inl ⟨by rfl, ?_⟩; intro w' hSw; (try dsimp only at hSw); go_simp; try with_reducible rfl)
          (try simp only [Act.put, List.setIfInBounds_toArray, List.set_cons_zero, List.set_cons_succ])
          refine' wpAnyT_take (i := 9) (oi := ?oizb9) (v := ?vzb9) ?hizb9 (by kernel_rfl) (by kernel_rfl) ?hqzb9 ?hyzb9 hHeld ?restzb9
          case hizb9 => (simp only [List.getElem?_toArray, List.getElem?_cons_zero, List.getElem?_cons_succ]; rfl)
          case hqzb9 => exact fun _ _ _ h => h
          case hyzb9 => (refine Or.inl ⟨by rfl, ?_⟩; intro w' hSw; (try dsimp only at hSw); go_simp; try with_reducible rfl)
          (try simp only [Act.put, List.setIfInBounds_toArray, List.set_cons_zero, List.set_cons_succ])
          refine' wpAnyT_take (i := 10) (oi := ?oizb10) (v := ?vzb10) ?hizb10 (by kernel_rfl) (by kernel_rfl) ?hqzb10 ?hyzb10 hHeld ?restzb10
          case hizb10 => (simp only [List.getElem?_toArray, List.getElem?_cons_zero, List.getElem?_cons_succ]; rfl)
          case hqzb10 => exact fun _ _ _ h => h
          case hyzb10 => (refine Or.inl ⟨by rfl, ?_⟩; intro w' hSw; (try dsimp only at hSw); go_simp; try with_reducible rfl)
          (try simp only [Act.put, List.setIfInBounds_toArray, List.set_cons_zero, List.set_cons_succ])
          refine' wpAnyT_take (i := 11) (oi := ?oizb11) (v := ?vzb11) ?hizb11 (by kernel_rfl) (by kernel_rfl) ?hqzb11 ?hyzb11 hHeld ?restzb11
          case hizb11 => (simp only [List.getElem?_toArray, List.getElem?_cons_zero, List.getElem?_cons_succ]; rfl)
          case hqzb11 => exact fun _ _ _ h => h
          case hyzb11 => (refine Or.inl ⟨by rfl, ?_⟩; intro w' hSw; (try dsimp only at hSw); go_simp; try with_reducible rfl)
          (try simp only [Act.put, List.setIfInBounds_toArray, List.set_cons_zero, List.set_cons_succ])
          refine' wpAnyT_take (i := 12) (oi := ?oizb12) (v := ?vzb12) ?hizb12 (by kernel_rfl) (by kernel_rfl) ?hqzb12 ?hyzb12 hHeld ?restzb12
          case hizb12 => (simp only [List.getElem?_toArray, List.getElem?_cons_zero, List.getElem?_cons_succ]; rfl)
          case hqzb12 => exact fun _ _ _ h => h
          case hyzb12 => (refine Or.inl ⟨by rfl, ?_⟩; intro w' hSw; (try dsimp only at hSw); go_simp; try with_reducible rfl)
          (try simp only [Act.put, List.setIfInBounds_toArray, List.set_cons_zero, List.set_cons_succ])
          refine' wpAnyT_take (i := 13) (oi := ?oizb13) (v := ?vzb13) ?hizb13 (by kernel_rfl) (by kernel_rfl) ?hqzb13 ?hyzb13 hHeld ?restzb13
          case hizb13 => (simp only [List.getElem?_toArray, List.getElem?_cons_zero, List.getElem?_cons_succ]; rfl)
          case hqzb13 => exact fun _ _ _ h => h
          case hyzb13 => (refine Or.inl ⟨by rfl, ?_⟩; intro w' hSw; (try dsimp only at hSw); go_simp; try with_reducible rfl)
          (try simp only [Act.put, List.setIfInBounds_toArray, List.set_cons_zero, List.set_cons_succ])
          refine' wpAnyT_take (i := 14) (oi := ?oizb14) (v := ?vzb14) ?hizb14 (by kernel_rfl) (by kernel_rfl) ?hqzb14 ?hyzb14 hHeld ?restzb14
          case hizb14 => (simp only [List.getElem?_toArray, List.getElem?_cons_zero, List.getElem?_cons_succ]; rfl)
          case hqzb14 => exact fun _ _ _ h => h
          case hyzb14 => (refine Or.inl ⟨by rfl, ?_⟩; intro w' hSw; (try dsimp only at hSw); go_simp; try with_reducible rfl)
          (try simp only [Act.put, List.setIfInBounds_toArray, List.set_cons_zero, List.set_cons_succ])
          refine' wpAnyT_take (i := 15) (oi := ?oizb15) (v := ?vzb15) ?hizb15 (by kernel_rfl) (by kernel_rfl) ?hqzb15 ?hyzb15 hHeld ?restzb15
          case hizb15 => (simp only [List.getElem?_toArray, List.getElem?_cons_zero, List.getElem?_cons_succ]; rfl)
          case hqzb15 => exact fun _ _ _ h => h
          case hyzb15 => (refine Or.inl ⟨by rfl, ?_⟩; intro w' hSw; (try dsimp only at hSw); go_simp; try with_reducible rfl)
          (try simp only [Act.put, List.setIfInBounds_toArray, List.set_cons_zero, List.set_cons_succ])
          refine' wpAnyT_take (i := 16) (oi := ?oizb16) (v := ?vzb16) ?hizb16 (by kernel_rfl) (by kernel_rfl) ?hqzb16 ?hyzb16 hHeld ?restzb16
          case hizb16 => (simp only [List.getElem?_toArray, List.getElem?_cons_zero, List.getElem?_cons_succ]; rfl)
          case hqzb16 => exact fun _ _ _ h => h
          case hyzb16 => (refine Or.inl ⟨by rfl, ?_⟩; intro w' hSw; (try dsimp only at hSw); go_simp; try with_reducible rfl)
          (try simp only [Act.put, List.setIfInBounds_toArray, List.set_cons_zero, List.set_cons_succ])
          refine wpAnyT_all (l := [17]) (by kernel_rfl) (by decide) ?_
          intro ii hii
          simp only [List.mem_cons, List.not_mem_nil, or_false] at hii
          subst hii
          refine ⟨_, by (simp only [List.getElem?_toArray, List.getElem?_cons_zero, List.getElem?_cons_succ]; rfl), fun KK hKK => ?_⟩
          go_simp
          go_at_call 32
          refine (HPAY.out W8.drew).mono ?_
          rintro e w9 ⟨pv, rfl, hpo, hb9⟩
          obtain ⟨pA, pc, rfl⟩ := own_form hpo
          obtain ⟨pl, hpl⟩ : ∃ pl, (pay sz i).length = pl := ⟨_, rfl⟩
          rw [hpl] at hpo
          have hb7 : Below W8.heap.size W8 w9 := (Below.refl _ W8).drew.trans hb9
          have hHeld6 := HHeld.out w9 hb7
          have hc2 : (convert 37 9 (.slice pA pl pc)).run Try.prog w9 = .ok (.string S) w9 := by rw [← HSS.out]; exact byt_conv (byt_of_own hpo (pay_b8 sz i hi8))
          (try rw [hpl])
          have HB9 := hid hb7
          clear hpo hb9 hb7 hpl
          refine hKK.out _ _ (fun _ => hHeld6) ?_
          clear hKK KK
          (try simp only [Act.put, List.setIfInBounds_toArray, List.set_cons_zero, List.set_cons_succ])
          refine wpAnyT_all (l := [18]) (by kernel_rfl) (by decide) ?_
          intro ii hii
          simp only [List.mem_cons, List.not_mem_nil, or_false] at hii
          subst hii
          refine ⟨_, by (simp only [List.getElem?_toArray, List.getElem?_cons_zero, List.getElem?_cons_succ]; rfl), fun KK hKK => ?_⟩
          go_simp
          refine hKK.out _ _ (fun _ => hHeld6) ?_
          clear hKK KK
          (try simp only [Act.put, List.setIfInBounds_toArray, List.set_cons_zero, List.set_cons_succ])
          refine wpAnyT_all (l := [19]) (by kernel_rfl) (by decide) ?_
          intro ii hii
          simp only [List.mem_cons, List.not_mem_nil, or_false] at hii
          subst hii
          refine ⟨_, by (simp only [List.getElem?_toArray, List.getElem?_cons_zero, List.getElem?_cons_succ]; rfl), fun KK hKK => ?_⟩
          go_simp
          refine hKK.out _ _ (fun _ => hHeld6) ?_
          clear hKK KK
          (try simp only [Act.put, List.setIfInBounds_toArray, List.set_cons_zero, List.set_cons_succ])
          refine wpAnyT_all (l := [20]) (by kernel_rfl) (by decide) ?_
          intro ii hii
          simp only [List.mem_cons, List.not_mem_nil, or_false] at hii
          subst hii
          refine ⟨_, by (simp only [List.getElem?_toArray, List.getElem?_cons_zero, List.getElem?_cons_succ]; rfl), fun KK hKK => ?_⟩
          go_simp
          refine hKK.out _ _ (fun h => absurd h (by decide)) ?_
          clear hKK KK
          (try simp only [Act.put, List.setIfInBounds_toArray, List.set_cons_zero, List.set_cons_succ])
          refine wpAnyT_done (by kernel_rfl) ?_ _
          have HBw9 : Hid (Below wr.heap.size wr w9) := hid (HBW8.out.trans (HB9.out.mono HBW8.out.size))
          have hn9 := (HB9.out.block _ (box_lt HN8.out)).trans HN8.out
          have hm9 := (HBw9.out.block m hmr).trans HMR.out
          have ho9 := own_keep HO8.out (keep_below HB9.out)
          have z0 := cell_of_row _ _ 0 _ _ _ hn9
          have z1 := cell_of_row _ _ 1 _ _ _ hn9
          have z2 := cell_of_row _ _ 2 _ _ _ hn9
          have z3 := cell_of_row _ _ 3 _ _ _ hn9
          have z4 := cell_of_row _ _ 4 _ _ _ hn9
          have z5 := cell_of_row _ _ 5 _ _ _ hn9
          have z6 := cell_of_row _ _ 6 _ _ _ hn9
          have y0 := cell_of_row _ _ 0 _ _ _ (show w9.heap[m]? = some (.cells #[.int .i64 r.s.mn, .int .i64 r.s.mx, .int .i64 r.s.rt, .bool r.s.dn, .int .i64 r.s.idle, .int .i64 r.s.next, .slice fA2 q fc2] 26) from hm9)
          have y1 := cell_of_row _ _ 1 _ _ _ (show w9.heap[m]? = some (.cells #[.int .i64 r.s.mn, .int .i64 r.s.mx, .int .i64 r.s.rt, .bool r.s.dn, .int .i64 r.s.idle, .int .i64 r.s.next, .slice fA2 q fc2] 26) from hm9)
          have y2 := cell_of_row _ _ 2 _ _ _ (show w9.heap[m]? = some (.cells #[.int .i64 r.s.mn, .int .i64 r.s.mx, .int .i64 r.s.rt, .bool r.s.dn, .int .i64 r.s.idle, .int .i64 r.s.next, .slice fA2 q fc2] 26) from hm9)
          have y3 := cell_of_row _ _ 3 _ _ _ (show w9.heap[m]? = some (.cells #[.int .i64 r.s.mn, .int .i64 r.s.mx, .int .i64 r.s.rt, .bool r.s.dn, .int .i64 r.s.idle, .int .i64 r.s.next, .slice fA2 q fc2] 26) from hm9)
          have y4 := cell_of_row _ _ 4 _ _ _ (show w9.heap[m]? = some (.cells #[.int .i64 r.s.mn, .int .i64 r.s.mx, .int .i64 r.s.rt, .bool r.s.dn, .int .i64 r.s.idle, .int .i64 r.s.next, .slice fA2 q fc2] 26) from hm9)
          have y5 := cell_of_row _ _ 5 _ _ _ (show w9.heap[m]? = some (.cells #[.int .i64 r.s.mn, .int .i64 r.s.mx, .int .i64 r.s.rt, .bool r.s.dn, .int .i64 r.s.idle, .int .i64 r.s.next, .slice fA2 q fc2] 26) from hm9)
          have y6 := cell_of_row _ _ 6 _ _ _ (show w9.heap[m]? = some (.cells #[.int .i64 r.s.mn, .int .i64 r.s.mx, .int .i64 r.s.rt, .bool r.s.dn, .int .i64 r.s.idle, .int .i64 r.s.next, .slice fA2 q fc2] 26) from hm9)
          have fy0 := box_fr hm9 0
          have fy1 := box_fr hm9 1
          have fy2 := box_fr hm9 2
          have fy3 := box_fr hm9 3
          have fy4 := box_fr hm9 4
          have fy5 := box_fr hm9 5
          have fy6 := box_fr hm9 6
          obtain ⟨W9, hW9⟩ : ∃ X, (((((((w9.setCell ⟨m, 0, none⟩ (.int .i64 r.s.mn)).setCell ⟨m, 1, none⟩ (.int .i64 r.s.mx)).setCell ⟨m, 2, none⟩ (.int .i64 r.s.rt)).setCell ⟨m, 3, none⟩ (.bool r.s.dn)).setCell ⟨m, 4, none⟩ (.int .i64 r.s.idle)).setCell ⟨m, 5, none⟩ (.int .i64 r.s.next)).setCell ⟨m, 6, none⟩ (.slice f8 q8 c8)) = X := ⟨_, rfl⟩
          have HM9 : Hid (W9.heap[m]? = some (.cells #[.int .i64 r.s.mn, .int .i64 r.s.mx, .int .i64 r.s.rt, .bool r.s.dn, .int .i64 r.s.idle, .int .i64 r.s.next, .slice f8 q8 c8] 26)) := hid (by rw [← hW9]; exact set7h _ _ _ _ _ _ _ hm9)
          have HO9 : Hid (W9.ownsRow 0 69 3 (.slice f8 q8 c8) vs8.length (vs8.map cFl).flatten) := hid (by rw [HQ8.out, ← hW9]; exact own_base (own_keep ho9 (set7k hm9 (by decide) _ _ _ _ _ _ _)) (Nat.zero_le _))
          have HP9 : Hid (∀ x ∈ vs8, Pay W9 x) := hid (fun x hx => by rw [← hW9]; exact ((HP8.out x hx).keep (keep_below HB9.out)).keep (set7k hm9 (by decide) _ _ _ _ _ _ _))
          have HB10 : Hid (Below m w3 W9) := hid (by rw [← hW9]; exact set7b _ _ _ _ _ _ _ (HB.out.trans (HBw9.out.mono HMS.out)) (Nat.le_refl _))
          have HW9 := hid hW9
          clear hW9 hn9 hm9 ho9 hHeld hHeld6 hc2
          go_upto_region 9 with fail
          rw [HW9.out]
          go_wp2_with fail
          go_roundw
          case rel => exact ⟨i1, i1, _, vs8, by have := HI1.out; omega, rfl, hid ⟨Nat.le_refl _, .inl rfl⟩, HV9, HM9, HO9, HP9, HB10⟩
          case measure => have := HI1.out; simp [Lib.intOf]; omega

end Go.Proofs.Ytacpejoablcffaa
