/- The law LinkConserves walked. -/
import Derived.Test.YtacpejoablcffaaZa
namespace Go.Proofs.Ytacpejoablcffaa
open Go.RowKit Go.Lib

theorem drop_all {s : Lk} {l : List Fc} (h : OkL s l) : l.drop (unt l 1073741824) = [] := by
  rw [List.eq_nil_iff_forall_not_mem]
  intro x hx
  have h1 := drop_mem h.ord hx
  have h2 := h.fld x (List.mem_of_mem_drop hx)
  omega
theorem cps_row {mn mx rt : Int} {ch : List Int} {sts : List (Nat × Nat)} {r : Rn} {N : Nat} (h : r.cps.length = N) (ha : ∀ j, j < N → r.cps[j]? = some ((cop mn mx rt ch sts j : Nat) : Int)) :
    r.cps.map intV = rowF N fun j => ((cop mn mx rt ch sts j : Nat) : Int) - ((cnt [] j : Nat) : Int) := by
  apply List.ext_getElem?
  intro j
  by_cases hj : j < N
  · rw [List.getElem?_map, ha j hj, rowF_at _ hj, cnt_nil]
    simp
  · rw [List.getElem?_eq_none (by rw [List.length_map]; omega), List.getElem?_eq_none (by rw [rowF_len]; omega)]
set_option maxHeartbeats 8000000 in
set_option maxRecDepth 100000 in
theorem conserves_walk (mn mx rt : Int) (sv cv : Value) (sts : List (Nat × Nat)) (ch : List Int) (w : World) (hs : Sts w sv sts) (hc : Ints w cv ch) :
    Calls Try.prog 6 #[.agg #[.int .i64 mn, .int .i64 mx, .int .i64 rt, sv, cv]] w (TrueQ w) := by
  obtain ⟨A, c, rfl⟩ := sts_form hs
  obtain ⟨B, c2, rfl⟩ := ints_form hc
  obtain ⟨N, hN⟩ : ∃ N, sts.length = N := ⟨_, rfl⟩
  obtain ⟨C, hC⟩ : ∃ C, ch.length = C := ⟨_, rfl⟩
  rw [hN] at hs ⊢
  rw [hC] at hc ⊢
  obtain ⟨g, hg⟩ : ∃ g, w.heap.size = g := ⟨_, rfl⟩
  obtain ⟨W1, hW1⟩ : ∃ X, w.alloc (.cells #[.int .i64 mn, .int .i64 mx, .int .i64 rt, .slice A N c, .slice B C c2] 58) = X := ⟨_, rfl⟩
  have hb1 : Below w.heap.size w W1 := by rw [← hW1]; exact al1 _ _
  have hx1 : W1.heap[g]? = some (.cells #[.int .i64 mn, .int .i64 mx, .int .i64 rt, .slice A N c, .slice B C c2] 58) := by rw [← hW1, ← hg]; exact heap_alloc_new w _
  have HFT := hid (fit_any mn mx rt A B N c C c2 W1)
  have HS := hid hs
  have HC := hid hc
  have HN := hid hN
  have HCC := hid hC
  have HB1 := hid hb1
  have HX1 := hid hx1
  have HW1 := hid hW1
  have HG := hid hg
  have x0 := cell_of_row _ _ 0 _ _ _ HX1.out
  have x1 := cell_of_row _ _ 1 _ _ _ HX1.out
  have x2 := cell_of_row _ _ 2 _ _ _ HX1.out
  have x3 := cell_of_row _ _ 3 _ _ _ HX1.out
  have x4 := cell_of_row _ _ 4 _ _ _ HX1.out
  clear hs hc hN hC hb1 hx1 hW1 hg 
  go_enter Try.func6, Try.ntmps6
  go_wp2_with fail
  rw [HW1.out, HG.out]
  refine HFT.out.mono ?_
  rintro e w2 ⟨rfl, hb2⟩
  have HX2 := hid ((hb2.block _ (box_lt HX1.out)).trans HX1.out)
  have HB2 := hid (HB1.out.trans (hb2.mono HB1.out.size))
  clear hb2 HFT x0 x1 x2 x3 x4
  by_cases hf : fitB mn mx rt N C = true
  rotate_left
  · have hf' : fitB mn mx rt N C = false := by simpa using hf
    rw [hf']
    go_wp2_with fail
    have HAW := hid (awake_any w2)
    refine HAW.out.mono ?_
    rintro e w3 ⟨rfl, hb3⟩
    go_wp2_with fail
    go_ret
    exact ⟨rfl, HB2.out.trans (hb3.mono HB2.out.size)⟩
  rw [hf]
  unfold fitB at hf
  have hf' := of_decide_eq_true hf
  obtain ⟨h0, h1, h2, h3, h4, hn20, hc100⟩ := hf'
  clear hf
  obtain ⟨r, hr⟩ : ∃ r, runK mn mx rt ch sts N = r := ⟨_, rfl⟩
  have HI : Hid (InvR mn mx rt ch N r) := hid (by rw [← hr]; exact runK_inv mn mx rt ch sts h0 h1 h2 h3 h4 (by rw [HN.out]; exact hn20) N (by rw [HN.out]; exact Nat.le_refl _))
  have HRN := hid (run_any mn mx rt sts _ ch _ w2 (HS.out.below HB2.out) (HC.out.below HB2.out) h0 h1 h2 h3 h4 (by rw [HN.out]; exact hn20) (by rw [HCC.out]; exact hc100))
  rw [HN.out, hr] at HRN
  have HR := hid hr
  clear hr
  have x0 := cell_of_row _ _ 0 _ _ _ HX2.out
  have x1 := cell_of_row _ _ 1 _ _ _ HX2.out
  have x2 := cell_of_row _ _ 2 _ _ _ HX2.out
  have x3 := cell_of_row _ _ 3 _ _ _ HX2.out
  have x4 := cell_of_row _ _ 4 _ _ _ HX2.out
  go_wp2_with fail
  refine HRN.out.mono ?_
  rintro e w3 ⟨v, tv, iv, kv, rfl, ⟨fv, vs, rfl, ho3, hv3, hp3⟩, ht3, hb3⟩
  obtain ⟨fA, fc, rfl⟩ := own_form69 ho3
  obtain ⟨q, hq⟩ : ∃ q, vs.length = q := ⟨_, rfl⟩
  rw [hq] at ho3
  unfold vLk
  dsimp only
  rw [hq]
  obtain ⟨m, hm⟩ : ∃ m, w3.heap.size = m := ⟨_, rfl⟩
  obtain ⟨W3, hW3⟩ : ∃ X, w3.alloc (.cells #[.int .i64 r.s.mn, .int .i64 r.s.mx, .int .i64 r.s.rt, .bool r.s.dn, .int .i64 r.s.idle, .int .i64 r.s.next, .slice fA q fc] 26) = X := ⟨_, rfl⟩
  have hz : Below w3.heap.size w3 W3 := by rw [← hW3]; exact al1 _ _
  have HM3 : Hid (W3.heap[m]? = some (.cells #[.int .i64 r.s.mn, .int .i64 r.s.mx, .int .i64 r.s.rt, .bool r.s.dn, .int .i64 r.s.idle, .int .i64 r.s.next, .slice fA q fc] 26)) := hid (by rw [← hW3, ← hm]; exact heap_alloc_new _ _)
  have HX3 := hid ((hz.block _ (Nat.lt_of_lt_of_le (box_lt HX2.out) hb3.size)).trans ((hb3.block _ (box_lt HX2.out)).trans HX2.out))
  have HO3 := hid (own_keep ho3 (keep_below hz))
  have HV3 := hid hv3
  have HQ := hid hq
  have HP3 := hid (fun x hx => (hp3 x hx).keep (keep_below hz))
  have HT3 := hid (ht3.keep (keep_below hz))
  have HB3 := hid (HB2.out.trans ((hb3.trans (hz.mono hb3.size)).mono HB2.out.size))
  have hgm : g ≤ m := by rw [← HG.out, ← hm]; exact (HB2.out.trans (hb3.mono HB2.out.size)).size
  have hHm : w2.heap.size ≤ m := by rw [← hm]; exact hb3.size
  have hgl : g < m := by rw [← hm]; exact Nat.lt_of_lt_of_le (box_lt HX2.out) hb3.size
  have HW3 := hid hW3
  have HM := hid hm
  clear hW3 hz ho3 hv3 hq hp3 ht3 hm HRN hb3
  clear x0 x1 x2 x3 x4
  have HOK := hid HI.out.ok
  have hr64 : ∀ x ∈ vs, R64 x.n := fun x hx => by
    have h5 := HOK.out.fld (core x) (by rw [← HV3.out]; exact List.mem_map_of_mem hx)
    have h6 := HOK.out.next
    have e1 : (core x).2.1 = x.n := rfl
    unfold R64
    omega
  have hp64 : ∀ x ∈ vs, x.p.length ≤ 100000 := fun x hx => by
    have h5 := HOK.out.fld (core x) (by rw [← HV3.out]; exact List.mem_map_of_mem hx)
    have e1 : (core x).2.2 = x.p := rfl
    rw [e1] at h5
    omega
  have hl64 : vs.length ≤ 100000 := by
    have h5 := HOK.out.len
    have h6 : vs.length = r.l.length := by rw [← HV3.out, List.length_map]
    omega
  have hts : r.ts.length = N := HI.out.lts
  have hids : r.ids.length = N := HI.out.lid
  have hcps : r.cps.length = N := HI.out.lcp
  obtain ⟨tA, tc, rfl⟩ := own_formE HT3.out.oa
  obtain ⟨iA, ic, rfl⟩ := own_formE HT3.out.ob
  obtain ⟨kA, kc, rfl⟩ := own_formE HT3.out.oc
  have hk3 := HT3.out.oc
  rw [hts, hids, hcps] at HT3
  rw [hcps] at hk3
  rw [hts, hids, hcps]
  obtain ⟨H, hH⟩ : ∃ H, w2.heap.size = H := ⟨_, rfl⟩
  rw [hH] at hk3 hHm
  have hgH : g < H := by rw [← hH]; exact box_lt HX2.out
  have hwH : w.heap.size ≤ H := by rw [← hH]; exact HB2.out.size
  have HK3 := hid hk3
  clear hk3 HT3 hH
  go_upto_region 6 with fail
  rw [HW3.out, HM.out]
  have y0 := cell_of_row _ _ 0 _ _ _ HM3.out
  have y1 := cell_of_row _ _ 1 _ _ _ HM3.out
  have y2 := cell_of_row _ _ 2 _ _ _ HM3.out
  have y3 := cell_of_row _ _ 3 _ _ _ HM3.out
  have y4 := cell_of_row _ _ 4 _ _ _ HM3.out
  have y5 := cell_of_row _ _ 5 _ _ _ HM3.out
  have y6 := cell_of_row _ _ 6 _ _ _ HM3.out
  obtain ⟨n, hn⟩ : ∃ n, delN r.s r.l 1073741824 = n := ⟨_, rfl⟩
  have HDV := hid (deliver_any r.s vs (.slice fA q fc) 1073741824 W3 (fl_of_own HO3.out HQ.out HP3.out) hr64 hl64 hp64)
  rw [HV3.out, hn] at HDV
  have HNU : Hid (n = unt r.l 1073741824) := hid (by rw [← hn]; unfold delN; rw [if_pos ((chk_iff r.s r.l).2 HOK.out)])
  unfold vLk at HDV
  clear hr64 hl64 hp64 hn
  go_wp2_with fail
  refine HDV.out.mono ?_
  rintro e w4 ⟨v4, pv4, ps, rfl, ⟨fv4, vs4, rfl, ho4, hv4, hp4⟩, hq4, hk4, hl4, hb4⟩
  obtain rfl : vs4 = [] := by
    have h5 : vs4.map core = [] := by rw [hv4, HNU.out]; exact drop_all HOK.out
    simpa using h5
  obtain ⟨f4, c4, rfl⟩ := own_form69 ho4
  obtain ⟨qA, qc, rfl⟩ := own_formE hq4
  obtain ⟨P, hP⟩ : ∃ P, ps.length = P := ⟨_, rfl⟩
  unfold vLk
  dsimp only
  rw [hP, show ([] : List Fl).length = 0 from rfl]
  rw [hP] at hq4
  clear y0 y1 y2 y3 y4 y5 y6
  have hm4 := (hb4.block _ (box_lt HM3.out)).trans HM3.out
  have hx4 := (hb4.block _ (box_lt HX3.out)).trans HX3.out
  have hk4' := own_keep HK3.out (keep_below hb4)
  obtain ⟨W4, hW4⟩ : ∃ X, (((((((w4.setCell ⟨m, 0, none⟩ (.int .i64 r.s.mn)).setCell ⟨m, 1, none⟩ (.int .i64 r.s.mx)).setCell ⟨m, 2, none⟩ (.int .i64 r.s.rt)).setCell ⟨m, 3, none⟩ (.bool r.s.dn)).setCell ⟨m, 4, none⟩ (.int .i64 r.s.idle)).setCell ⟨m, 5, none⟩ (.int .i64 r.s.next)).setCell ⟨m, 6, none⟩ (.slice f4 0 c4)) = X := ⟨_, rfl⟩
  have HM4 : Hid (W4.heap[m]? = some (.cells #[.int .i64 r.s.mn, .int .i64 r.s.mx, .int .i64 r.s.rt, .bool r.s.dn, .int .i64 r.s.idle, .int .i64 r.s.next, .slice f4 0 c4] 26)) := hid (by rw [← hW4]; exact set7h _ _ _ _ _ _ _ hm4)
  have HX4 : Hid (W4.heap[g]? = some (.cells #[.int .i64 mn, .int .i64 mx, .int .i64 rt, .slice A N c, .slice B C c2] 58)) := hid (by rw [← hW4]; exact (set7o _ _ _ _ _ _ _ (by omega)).trans hx4)
  have HQ4 := hid (show W4.ownsRow _ 37 1 _ P _ by rw [← hW4]; exact own_keep hq4 (set7k hm4 (by decide) _ _ _ _ _ _ _))
  have HL4 : Hid (∀ x ∈ ps, Pay W4 x) := hid (fun x hx => by rw [← hW4]; exact (hl4 x hx).keep (set7k hm4 (by decide) _ _ _ _ _ _ _))
  have HK4 : Hid (W4.ownsRow H 3 1 (.slice kA N kc) N (r.cps.map intV)) := hid (by rw [← hW4]; exact own_keep hk4' (set7k hm4 (by decide) _ _ _ _ _ _ _))
  have HB4 : Hid (Below w.heap.size w W4) := hid (by rw [← hW4]; exact set7b _ _ _ _ _ _ _ (HB3.out.trans (hb4.mono HB3.out.size)) (by rw [HG.out]; exact hgm))
  have hHW : H ≤ W4.heap.size := by
    have h5 := box_lt HM4.out
    omega
  have HPL := hid hP
  have HPK := hid hk4
  have HW4 := hid hW4
  have y0 := cell_of_row _ _ 0 _ _ _ hm4
  have y1 := cell_of_row _ _ 1 _ _ _ hm4
  have y2 := cell_of_row _ _ 2 _ _ _ hm4
  have y3 := cell_of_row _ _ 3 _ _ _ hm4
  have y4 := cell_of_row _ _ 4 _ _ _ hm4
  have y5 := cell_of_row _ _ 5 _ _ _ hm4
  have y6 := cell_of_row _ _ 6 _ _ _ hm4
  have fy0 := box_fr hm4 0
  have fy1 := box_fr hm4 1
  have fy2 := box_fr hm4 2
  have fy3 := box_fr hm4 3
  have fy4 := box_fr hm4 4
  have fy5 := box_fr hm4 5
  have fy6 := box_fr hm4 6
  clear hW4 ho4 hv4 hp4 hq4 hl4 hb4 hx4 hm4 hk4 hk4' HDV hP
  go_upto_region 7 with fail
  rw [HW4.out]
  clear y0 y1 y2 y3 y4 y5 y6 fy0 fy1 fy2 fy3 fy4 fy5 fy6
  have y6 := cell_of_row _ _ 6 _ _ _ HM4.out
  have hP40 : P ≤ 40 := by
    have h5 := congrArg List.length HPK.out
    rw [List.length_map, HPL.out, List.length_take] at h5
    have h6 := HI.out.len1
    omega
  have HINF := hid (fun (x : Fl) (hx : x ∈ ps) => (run_fl (ch := ch) h0 h1 h2 h3 h4 (by rw [HN.out]; exact hn20) N (by rw [HN.out]; exact Nat.le_refl _)).1 (core x) (by
    rw [HR.out]
    exact List.mem_of_mem_take (by rw [← HPK.out]; exact List.mem_map_of_mem hx)))
  have HAT := hid (fun j (hj : j < N) => runK_at (ch := ch) h0 h1 h2 h3 h4 (by rw [HN.out]; exact hn20) N (by rw [HN.out]; exact Nat.le_refl _) j hj)
  rw [HR.out] at HAT
  have HCB : Hid (∀ j, j < N → ((cop mn mx rt ch sts j : Nat) : Int) ≤ 2) := hid (fun j hj => (HI.out.cp2 _ (List.mem_of_getElem? (HAT.out j hj).2.2)).2)
  have HK0 : Hid (W4.ownsRow H 3 1 (.slice kA N kc) N (rowF N fun j => ((cop mn mx rt ch sts j : Nat) : Int) - ((cnt ((ps.take 0).map core) j : Nat) : Int))) := hid (by
    have h := HK4.out
    rw [cps_row hcps (fun j hj => (HAT.out j hj).2.2)] at h
    exact h)
  clear hcps
  go_upto_region 10 with fail
  go_loopw [9] (fun iv wr => ∃ i : Nat, i ≤ P ∧ iv = .int .i64 (i : Int) ∧ Hid (wr.ownsRow H 3 1 (.slice kA N kc) N (rowF N fun j => ((cop mn mx rt ch sts j : Nat) : Int) - ((cnt ((ps.take i).map core) j : Nat) : Int))) ∧ Hid (Keep 37 W4 wr ∧ Keep 5 W4 wr) ∧ Hid (Below H W4 wr)) (fun j _ => P - (Go.RowKit.intOf j).toNat)
  case atStart => exact ⟨0, Nat.zero_le _, rfl, HK0, hid ⟨fun _ _ h => h, fun _ _ h => h⟩, hid (Below.refl _ _)⟩
  case round =>
    obtain ⟨i, hi, rfl, HO2, HKK, HBH⟩ := hrel
    have HBW := hid (HB4.out.trans (HBH.out.mono hwH))
    have hHr : H ≤ wr.heap.size := Nat.le_trans hHW HBH.out.size
    by_cases hip : i < P
    · have hip' : (i : Int) < (P : Int) := by omega
      obtain ⟨x, hx⟩ : ∃ x, ps[i]? = some x := ⟨ps[i]'(by rw [HPL.out]; exact hip), List.getElem?_eq_getElem _⟩
      have hxm := List.mem_of_getElem? hx
      obtain ⟨j, st, hjN, hst, hxp, _, _⟩ := HINF.out x hxm
      obtain ⟨sz, wt⟩ := st
      have hPY : PyL wr (.slice qA P qc) ps := py_of_own (own_keep HQ4.out HKK.out.1) (fun x hx => (HL4.out x hx).keep HKK.out.2)
      have hxb := hPY.1 x hxm
      obtain ⟨qb, qo, rfl, hqb, hqc⟩ := py_cells hPY (by rw [HPL.out]; omega)
      have p0 := hqc i x hx
      have HTK := hid (cnt_take hx)
      obtain ⟨xt, xn, xd, xp⟩ := x
      dsimp only at hxb p0 HTK
      obtain rfl : xp = pay sz j := hxp
      obtain ⟨xA, xc, rfl⟩ := byt_form hxb
      obtain ⟨xb, xo, rfl, hxbl, hxc⟩ := byt_at hxb (by unfold pay; simp)
      have p1 := hxc 0 j rfl
      obtain ⟨xm, hxl⟩ : ∃ xm, (pay sz j).length = xm := ⟨_, rfl⟩
      have hxm1 : 1 ≤ xm := by rw [← hxl]; unfold pay; simp
      rw [hxl] at p0 hxb
      rw [Nat.add_zero] at p1
      have d6 : ((xm : Int) == 0) = false := by rw [beq_eq_false_iff_ne]; omega
      have hx0 : (0 : Int) < (xm : Int) := by omega
      have hx0n : 0 < xm := by omega
      have hj8 : j < 256 := by omega
      have ej : IntKind.i64.wrap (j : Int) = (j : Int) := by rw [IntKind.wrap_i64]; omega
      have hjN' : (j : Int) < (N : Int) := by omega
      have dj : decide ((N : Int) ≤ (j : Int)) = false := decide_eq_false (by omega)
      have djn : decide (N ≤ j) = false := decide_eq_false (by omega)
      have hSt := HS.out.below HBW.out
      obtain ⟨tb, tq, rfl, htb, htc⟩ := sts_cells hSt (by rw [HN.out]; omega)
      obtain ⟨s0, s1⟩ := htc j _ hst
      obtain ⟨hsz, hwt⟩ := hSt.1 _ (List.mem_of_getElem? hst)
      dsimp only at s0 s1 hsz hwt
      have hx6 := (HBH.out.block g hgH).trans HX4.out
      have x3 := cell_of_row _ _ 3 _ _ _ hx6
      obtain ⟨sb, rfl, hsb, hsG, hso, hscs, hsc⟩ := own_at1 HO2.out (by omega)
      have hcb := HCB.out j hjN
      obtain ⟨co, hco⟩ : ∃ co, cop mn mx rt ch sts j = co := ⟨_, rfl⟩
      obtain ⟨cj, hcj⟩ : ∃ cj, cnt ((ps.take i).map core) j = cj := ⟨_, rfl⟩
      have p2 := hsc j _ (rowF_at _ hjN)
      unfold intV at p2
      rw [hco] at p2 hcb
      rw [hcj] at p2
      have hcl := cnt_le ((ps.take i).map core) j
      rw [hcj, List.length_map, List.length_take] at hcl
      obtain ⟨cz, hcz⟩ : ∃ cz : Int, (co : Int) - (cj : Int) = cz := ⟨_, rfl⟩
      rw [hcz] at p2
      have HCZ := hid hcz
      have es : IntKind.i64.wrap (cz - 1) = cz - 1 := by rw [IntKind.wrap_i64]; omega
      obtain ⟨S, hS⟩ : ∃ S, strOfNums (ints (pay sz j)) = S := ⟨_, rfl⟩
      have hc1 : (convert 37 9 (.slice (some ⟨xb, xo, none⟩) xm xc)).run Try.prog wr.drew = .ok (.string (strOfNums (ints (pay sz j)))) wr.drew := conv_at hxb (Below.refl _ wr).drew
      rw [hS] at hc1
      have HSS := hid hS
      have HXB := hid hxb
      have HHeld := hid (fun (X : World) (hX : Below wr.heap.size wr X) => (show X.cell? ⟨qb, qo + i, none⟩ = some (.slice (some ⟨xb, xo, none⟩) xm xc) ∧ X.cell? ⟨xb, xo, none⟩ = some (.int .u8 (j : Int)) ∧ X.cell? ⟨g, 3, none⟩ = some (.slice (some ⟨tb, tq, none⟩) N c) ∧ X.cell? ⟨tb, tq + j * 2, none⟩ = some (.int .u8 (sz : Int)) ∧ X.cell? ⟨tb, tq + j * 2 + 1, none⟩ = some (.int .u8 (wt : Int)) ∧ (convert 37 9 (.slice (some ⟨xb, xo, none⟩) xm xc)).run Try.prog X = .ok (.string S) X from ⟨(hX.cell (p := ⟨qb, qo + i, none⟩) hqb).trans p0, (hX.cell (p := ⟨xb, xo, none⟩) hxbl).trans p1, (hX.cell (p := ⟨g, 3, none⟩) (box_lt hx6)).trans x3, (hX.cell (p := ⟨tb, tq + j * 2, none⟩) htb).trans s0, (hX.cell (p := ⟨tb, tq + j * 2 + 1, none⟩) htb).trans s1, by rw [← HSS.out]; exact conv_at HXB.out hX⟩))
      have hHeld := HHeld.out wr.drew (Below.refl _ wr).drew
      have dS' : (S.toList != S.toList) = false := by simp
      have HPAY := hid (fun (X : World) => payload_any sz wt j X hsz hj8)
      have HSB := hid hscs
      clear hqc hxc hsc hPY hcb hcl htc hSt hst hsz hwt hxm hx hS hxl hxb hcz hc1 p0 p1 x3 s0 s1 hscs hx6
      go_upto_region 12 with fail
      refine region_tail 44 (fun X => X.cell? ⟨qb, qo + i, none⟩ = some (.slice (some ⟨xb, xo, none⟩) xm xc) ∧ X.cell? ⟨xb, xo, none⟩ = some (.int .u8 (j : Int)) ∧ X.cell? ⟨g, 3, none⟩ = some (.slice (some ⟨tb, tq, none⟩) N c) ∧ X.cell? ⟨tb, tq + j * 2, none⟩ = some (.int .u8 (sz : Int)) ∧ X.cell? ⟨tb, tq + j * 2 + 1, none⟩ = some (.int .u8 (wt : Int)) ∧ (convert 37 9 (.slice (some ⟨xb, xo, none⟩) xm xc)).run Try.prog X = .ok (.string S) X) (by kernel_rfl) ?_
      refine' wpAnyT_take (i := 0) (oi := ?oit0) (v := ?vt0) ?hit0 (by kernel_rfl) (by kernel_rfl) ?hqt0 ?hyt0 hHeld ?restt0
      case hit0 => (simp only [List.getElem?_toArray, List.getElem?_cons_zero]; rfl)
      case hqt0 => exact fun _ _ _ h => h
      case hyt0 => (refine Or.inl ⟨by rfl, ?_⟩; intro w' hSw; (try dsimp only at hSw); go_simp; try with_reducible rfl)
      (try simp only [Act.put, List.setIfInBounds_toArray, List.set_cons_zero, List.set_cons_succ])
      refine' wpAnyT_take (i := 1) (oi := ?oit1) (v := ?vt1) ?hit1 (by kernel_rfl) (by kernel_rfl) ?hqt1 ?hyt1 hHeld ?restt1
      case hit1 => (simp only [List.getElem?_toArray, List.getElem?_cons_zero, List.getElem?_cons_succ]; rfl)
      case hqt1 => exact fun _ _ _ h => h
      case hyt1 => (refine Or.inl ⟨by rfl, ?_⟩; intro w' hSw; (try dsimp only at hSw); go_simp; try with_reducible rfl)
      (try simp only [Act.put, List.setIfInBounds_toArray, List.set_cons_zero, List.set_cons_succ])
      refine' wpAnyT_take (i := 2) (oi := ?oit2) (v := ?vt2) ?hit2 (by kernel_rfl) (by kernel_rfl) ?hqt2 ?hyt2 hHeld ?restt2
      case hit2 => (simp only [List.getElem?_toArray, List.getElem?_cons_zero, List.getElem?_cons_succ]; rfl)
      case hqt2 => exact fun _ _ _ h => h
      case hyt2 => (refine Or.inl ⟨by rfl, ?_⟩; intro w' hSw; (try dsimp only at hSw); go_simp; try with_reducible rfl)
      (try simp only [Act.put, List.setIfInBounds_toArray, List.set_cons_zero, List.set_cons_succ])
      refine' wpAnyT_take (i := 3) (oi := ?oit3) (v := ?vt3) ?hit3 (by kernel_rfl) (by kernel_rfl) ?hqt3 ?hyt3 hHeld ?restt3
      case hit3 => (simp only [List.getElem?_toArray, List.getElem?_cons_zero, List.getElem?_cons_succ]; rfl)
      case hqt3 => exact fun _ _ _ h => h
      case hyt3 => (refine Or.inl ⟨by rfl, ?_⟩; intro w' hSw; (try dsimp only at hSw); go_simp; try with_reducible rfl)
      (try simp only [Act.put, List.setIfInBounds_toArray, List.set_cons_zero, List.set_cons_succ])
      refine' wpAnyT_take (i := 4) (oi := ?oit4) (v := ?vt4) ?hit4 (by kernel_rfl) (by kernel_rfl) ?hqt4 ?hyt4 hHeld ?restt4
      case hit4 => (simp only [List.getElem?_toArray, List.getElem?_cons_zero, List.getElem?_cons_succ]; rfl)
      case hqt4 => exact fun _ _ _ h => h
      case hyt4 => (refine Or.inl ⟨by rfl, ?_⟩; intro w' hSw; (try dsimp only at hSw); go_simp; try with_reducible rfl)
      (try simp only [Act.put, List.setIfInBounds_toArray, List.set_cons_zero, List.set_cons_succ])
      refine' wpAnyT_take (i := 5) (oi := ?oit5) (v := ?vt5) ?hit5 (by kernel_rfl) (by kernel_rfl) ?hqt5 ?hyt5 hHeld ?restt5
      case hit5 => (simp only [List.getElem?_toArray, List.getElem?_cons_zero, List.getElem?_cons_succ]; rfl)
      case hqt5 => exact fun _ _ _ h => h
      case hyt5 => (refine Or.inl ⟨by rfl, ?_⟩; intro w' hSw; (try dsimp only at hSw); go_simp; try with_reducible rfl)
      (try simp only [Act.put, List.setIfInBounds_toArray, List.set_cons_zero, List.set_cons_succ])
      refine' wpAnyT_take (i := 6) (oi := ?oit6) (v := ?vt6) ?hit6 (by kernel_rfl) (by kernel_rfl) ?hqt6 ?hyt6 hHeld ?restt6
      case hit6 => (simp only [List.getElem?_toArray, List.getElem?_cons_zero, List.getElem?_cons_succ]; rfl)
      case hqt6 => exact fun _ _ _ h => h
      case hyt6 => (refine Or.inl ⟨by rfl, ?_⟩; intro w' hSw; (try dsimp only at hSw); go_simp; try with_reducible rfl)
      (try simp only [Act.put, List.setIfInBounds_toArray, List.set_cons_zero, List.set_cons_succ])
      refine' wpAnyT_take (i := 7) (oi := ?oit7) (v := ?vt7) ?hit7 (by kernel_rfl) (by kernel_rfl) ?hqt7 ?hyt7 hHeld ?restt7
      case hit7 => (simp only [List.getElem?_toArray, List.getElem?_cons_zero, List.getElem?_cons_succ]; rfl)
      case hqt7 => exact fun _ _ _ h => h
      case hyt7 => (refine Or.inl ⟨by rfl, ?_⟩; intro w' hSw; (try dsimp only at hSw); go_simp; try with_reducible rfl)
      (try simp only [Act.put, List.setIfInBounds_toArray, List.set_cons_zero, List.set_cons_succ])
      refine' wpAnyT_take (i := 8) (oi := ?oit8) (v := ?vt8) ?hit8 (by kernel_rfl) (by kernel_rfl) ?hqt8 ?hyt8 hHeld ?restt8
      case hit8 => (simp only [List.getElem?_toArray, List.getElem?_cons_zero, List.getElem?_cons_succ]; rfl)
      case hqt8 => exact fun _ _ _ h => h
      case hyt8 => (refine Or.inl ⟨by rfl, ?_⟩; intro w' hSw; (try dsimp only at hSw); go_simp; try with_reducible rfl)
      (try simp only [Act.put, List.setIfInBounds_toArray, List.set_cons_zero, List.set_cons_succ])
      refine' wpAnyT_take (i := 9) (oi := ?oit9) (v := ?vt9) ?hit9 (by kernel_rfl) (by kernel_rfl) ?hqt9 ?hyt9 hHeld ?restt9
      case hit9 => (simp only [List.getElem?_toArray, List.getElem?_cons_zero, List.getElem?_cons_succ]; rfl)
      case hqt9 => exact fun _ _ _ h => h
      case hyt9 => (refine Or.inl ⟨by rfl, ?_⟩; intro w' hSw; (try dsimp only at hSw); go_simp; try with_reducible rfl)
      (try simp only [Act.put, List.setIfInBounds_toArray, List.set_cons_zero, List.set_cons_succ])
      refine' wpAnyT_take (i := 10) (oi := ?oit10) (v := ?vt10) ?hit10 (by kernel_rfl) (by kernel_rfl) ?hqt10 ?hyt10 hHeld ?restt10
      case hit10 => (simp only [List.getElem?_toArray, List.getElem?_cons_zero, List.getElem?_cons_succ]; rfl)
      case hqt10 => exact fun _ _ _ h => h
      case hyt10 => (refine Or.inl ⟨by rfl, ?_⟩; intro w' hSw; (try dsimp only at hSw); go_simp; try with_reducible rfl)
      (try simp only [Act.put, List.setIfInBounds_toArray, List.set_cons_zero, List.set_cons_succ])
      refine' wpAnyT_take (i := 11) (oi := ?oit11) (v := ?vt11) ?hit11 (by kernel_rfl) (by kernel_rfl) ?hqt11 ?hyt11 hHeld ?restt11
      case hit11 => (simp only [List.getElem?_toArray, List.getElem?_cons_zero, List.getElem?_cons_succ]; rfl)
      case hqt11 => exact fun _ _ _ h => h
      case hyt11 => (refine Or.inl ⟨by rfl, ?_⟩; intro w' hSw; (try dsimp only at hSw); go_simp; try with_reducible rfl)
      (try simp only [Act.put, List.setIfInBounds_toArray, List.set_cons_zero, List.set_cons_succ])
      refine' wpAnyT_take (i := 12) (oi := ?oit12) (v := ?vt12) ?hit12 (by kernel_rfl) (by kernel_rfl) ?hqt12 ?hyt12 hHeld ?restt12
      case hit12 => (simp only [List.getElem?_toArray, List.getElem?_cons_zero, List.getElem?_cons_succ]; rfl)
      case hqt12 => exact fun _ _ _ h => h
      case hyt12 => (refine Or.inl ⟨by rfl, ?_⟩; intro w' hSw; (try dsimp only at hSw); go_simp; try with_reducible rfl)
      (try simp only [Act.put, List.setIfInBounds_toArray, List.set_cons_zero, List.set_cons_succ])
      refine' wpAnyT_take (i := 13) (oi := ?oit13) (v := ?vt13) ?hit13 (by kernel_rfl) (by kernel_rfl) ?hqt13 ?hyt13 hHeld ?restt13
      case hit13 => (simp only [List.getElem?_toArray, List.getElem?_cons_zero, List.getElem?_cons_succ]; rfl)
      case hqt13 => exact fun _ _ _ h => h
      case hyt13 => (refine Or.inl ⟨by rfl, ?_⟩; intro w' hSw; (try dsimp only at hSw); go_simp; try with_reducible rfl)
      (try simp only [Act.put, List.setIfInBounds_toArray, List.set_cons_zero, List.set_cons_succ])
      refine' wpAnyT_take (i := 14) (oi := ?oit14) (v := ?vt14) ?hit14 (by kernel_rfl) (by kernel_rfl) ?hqt14 ?hyt14 hHeld ?restt14
      case hit14 => (simp only [List.getElem?_toArray, List.getElem?_cons_zero, List.getElem?_cons_succ]; rfl)
      case hqt14 => exact fun _ _ _ h => h
      case hyt14 => (refine Or.inl ⟨by rfl, ?_⟩; intro w' hSw; (try dsimp only at hSw); go_simp; try with_reducible rfl)
      (try simp only [Act.put, List.setIfInBounds_toArray, List.set_cons_zero, List.set_cons_succ])
      refine' wpAnyT_take (i := 15) (oi := ?oit15) (v := ?vt15) ?hit15 (by kernel_rfl) (by kernel_rfl) ?hqt15 ?hyt15 hHeld ?restt15
      case hit15 => (simp only [List.getElem?_toArray, List.getElem?_cons_zero, List.getElem?_cons_succ]; rfl)
      case hqt15 => exact fun _ _ _ h => h
      case hyt15 => (refine Or.inl ⟨by rfl, ?_⟩; intro w' hSw; (try dsimp only at hSw); go_simp; try with_reducible rfl)
      (try simp only [Act.put, List.setIfInBounds_toArray, List.set_cons_zero, List.set_cons_succ])
      refine' wpAnyT_take (i := 16) (oi := ?oit16) (v := ?vt16) ?hit16 (by kernel_rfl) (by kernel_rfl) ?hqt16 ?hyt16 hHeld ?restt16
      case hit16 => (simp only [List.getElem?_toArray, List.getElem?_cons_zero, List.getElem?_cons_succ]; rfl)
      case hqt16 => exact fun _ _ _ h => h
      case hyt16 => (refine Or.inl ⟨by rfl, ?_⟩; intro w' hSw; (try dsimp only at hSw); go_simp; try with_reducible rfl)
      (try simp only [Act.put, List.setIfInBounds_toArray, List.set_cons_zero, List.set_cons_succ])
      refine' wpAnyT_take (i := 17) (oi := ?oit17) (v := ?vt17) ?hit17 (by kernel_rfl) (by kernel_rfl) ?hqt17 ?hyt17 hHeld ?restt17
      case hit17 => (simp only [List.getElem?_toArray, List.getElem?_cons_zero, List.getElem?_cons_succ]; rfl)
      case hqt17 => exact fun _ _ _ h => h
      case hyt17 => (refine Or.inl ⟨by rfl, ?_⟩; intro w' hSw; (try dsimp only at hSw); go_simp; try with_reducible rfl)
      (try simp only [Act.put, List.setIfInBounds_toArray, List.set_cons_zero, List.set_cons_succ])
      refine' wpAnyT_take (i := 18) (oi := ?oit18) (v := ?vt18) ?hit18 (by kernel_rfl) (by kernel_rfl) ?hqt18 ?hyt18 hHeld ?restt18
      case hit18 => (simp only [List.getElem?_toArray, List.getElem?_cons_zero, List.getElem?_cons_succ]; rfl)
      case hqt18 => exact fun _ _ _ h => h
      case hyt18 => (refine Or.inl ⟨by rfl, ?_⟩; intro w' hSw; (try dsimp only at hSw); go_simp; try with_reducible rfl)
      (try simp only [Act.put, List.setIfInBounds_toArray, List.set_cons_zero, List.set_cons_succ])
      refine' wpAnyT_take (i := 19) (oi := ?oit19) (v := ?vt19) ?hit19 (by kernel_rfl) (by kernel_rfl) ?hqt19 ?hyt19 hHeld ?restt19
      case hit19 => (simp only [List.getElem?_toArray, List.getElem?_cons_zero, List.getElem?_cons_succ]; rfl)
      case hqt19 => exact fun _ _ _ h => h
      case hyt19 => (refine Or.inl ⟨by rfl, ?_⟩; intro w' hSw; (try dsimp only at hSw); go_simp; try with_reducible rfl)
      (try simp only [Act.put, List.setIfInBounds_toArray, List.set_cons_zero, List.set_cons_succ])
      refine' wpAnyT_take (i := 20) (oi := ?oit20) (v := ?vt20) ?hit20 (by kernel_rfl) (by kernel_rfl) ?hqt20 ?hyt20 hHeld ?restt20
      case hit20 => (simp only [List.getElem?_toArray, List.getElem?_cons_zero, List.getElem?_cons_succ]; rfl)
      case hqt20 => exact fun _ _ _ h => h
      case hyt20 => (refine Or.inl ⟨by rfl, ?_⟩; intro w' hSw; (try dsimp only at hSw); go_simp; try with_reducible rfl)
      (try simp only [Act.put, List.setIfInBounds_toArray, List.set_cons_zero, List.set_cons_succ])
      refine' wpAnyT_take (i := 21) (oi := ?oit21) (v := ?vt21) ?hit21 (by kernel_rfl) (by kernel_rfl) ?hqt21 ?hyt21 hHeld ?restt21
      case hit21 => (simp only [List.getElem?_toArray, List.getElem?_cons_zero, List.getElem?_cons_succ]; rfl)
      case hqt21 => exact fun _ _ _ h => h
      case hyt21 => (refine Or.inl ⟨by rfl, ?_⟩; intro w' hSw; (try dsimp only at hSw); go_simp; try with_reducible rfl)
      (try simp only [Act.put, List.setIfInBounds_toArray, List.set_cons_zero, List.set_cons_succ])
      refine' wpAnyT_take (i := 22) (oi := ?oit22) (v := ?vt22) ?hit22 (by kernel_rfl) (by kernel_rfl) ?hqt22 ?hyt22 hHeld ?restt22
      case hit22 => (simp only [List.getElem?_toArray, List.getElem?_cons_zero, List.getElem?_cons_succ]; rfl)
      case hqt22 => exact fun _ _ _ h => h
      case hyt22 => (refine Or.inl ⟨by rfl, ?_⟩; intro w' hSw; (try dsimp only at hSw); go_simp; try with_reducible rfl)
      (try simp only [Act.put, List.setIfInBounds_toArray, List.set_cons_zero, List.set_cons_succ])
      refine' wpAnyT_take (i := 23) (oi := ?oit23) (v := ?vt23) ?hit23 (by kernel_rfl) (by kernel_rfl) ?hqt23 ?hyt23 hHeld ?restt23
      case hit23 => (simp only [List.getElem?_toArray, List.getElem?_cons_zero, List.getElem?_cons_succ]; rfl)
      case hqt23 => exact fun _ _ _ h => h
      case hyt23 => (refine Or.inl ⟨by rfl, ?_⟩; intro w' hSw; (try dsimp only at hSw); go_simp; try with_reducible rfl)
      (try simp only [Act.put, List.setIfInBounds_toArray, List.set_cons_zero, List.set_cons_succ])
      refine' wpAnyT_take (i := 24) (oi := ?oit24) (v := ?vt24) ?hit24 (by kernel_rfl) (by kernel_rfl) ?hqt24 ?hyt24 hHeld ?restt24
      case hit24 => (simp only [List.getElem?_toArray, List.getElem?_cons_zero, List.getElem?_cons_succ]; rfl)
      case hqt24 => exact fun _ _ _ h => h
      case hyt24 => (refine Or.inl ⟨by rfl, ?_⟩; intro w' hSw; (try dsimp only at hSw); go_simp; try with_reducible rfl)
      (try simp only [Act.put, List.setIfInBounds_toArray, List.set_cons_zero, List.set_cons_succ])
      refine' wpAnyT_take (i := 25) (oi := ?oit25) (v := ?vt25) ?hit25 (by kernel_rfl) (by kernel_rfl) ?hqt25 ?hyt25 hHeld ?restt25
      case hit25 => (simp only [List.getElem?_toArray, List.getElem?_cons_zero, List.getElem?_cons_succ]; rfl)
      case hqt25 => exact fun _ _ _ h => h
      case hyt25 => (refine Or.inl ⟨by rfl, ?_⟩; intro w' hSw; (try dsimp only at hSw); go_simp; try with_reducible rfl)
      (try simp only [Act.put, List.setIfInBounds_toArray, List.set_cons_zero, List.set_cons_succ])
      refine' wpAnyT_take (i := 26) (oi := ?oit26) (v := ?vt26) ?hit26 (by kernel_rfl) (by kernel_rfl) ?hqt26 ?hyt26 hHeld ?restt26
      case hit26 => (simp only [List.getElem?_toArray, List.getElem?_cons_zero, List.getElem?_cons_succ]; rfl)
      case hqt26 => exact fun _ _ _ h => h
      case hyt26 => (refine Or.inl ⟨by rfl, ?_⟩; intro w' hSw; (try dsimp only at hSw); go_simp; try with_reducible rfl)
      (try simp only [Act.put, List.setIfInBounds_toArray, List.set_cons_zero, List.set_cons_succ])
      refine' wpAnyT_take (i := 27) (oi := ?oit27) (v := ?vt27) ?hit27 (by kernel_rfl) (by kernel_rfl) ?hqt27 ?hyt27 hHeld ?restt27
      case hit27 => (simp only [List.getElem?_toArray, List.getElem?_cons_zero, List.getElem?_cons_succ]; rfl)
      case hqt27 => exact fun _ _ _ h => h
      case hyt27 => (refine Or.inl ⟨by rfl, ?_⟩; intro w' hSw; (try dsimp only at hSw); go_simp; try with_reducible rfl)
      (try simp only [Act.put, List.setIfInBounds_toArray, List.set_cons_zero, List.set_cons_succ])
      refine' wpAnyT_take (i := 28) (oi := ?oit28) (v := ?vt28) ?hit28 (by kernel_rfl) (by kernel_rfl) ?hqt28 ?hyt28 hHeld ?restt28
      case hit28 => (simp only [List.getElem?_toArray, List.getElem?_cons_zero, List.getElem?_cons_succ]; rfl)
      case hqt28 => exact fun _ _ _ h => h
      case hyt28 => (refine Or.inl ⟨by rfl, ?_⟩; intro w' hSw; (try dsimp only at hSw); go_simp; try with_reducible rfl)
      (try simp only [Act.put, List.setIfInBounds_toArray, List.set_cons_zero, List.set_cons_succ])
      refine' wpAnyT_take (i := 29) (oi := ?oit29) (v := ?vt29) ?hit29 (by kernel_rfl) (by kernel_rfl) ?hqt29 ?hyt29 hHeld ?restt29
      case hit29 => (simp only [List.getElem?_toArray, List.getElem?_cons_zero, List.getElem?_cons_succ]; rfl)
      case hqt29 => exact fun _ _ _ h => h
      case hyt29 => (refine Or.inl ⟨by rfl, ?_⟩; intro w' hSw; (try dsimp only at hSw); go_simp; try with_reducible rfl)
      (try simp only [Act.put, List.setIfInBounds_toArray, List.set_cons_zero, List.set_cons_succ])
      refine' wpAnyT_take (i := 30) (oi := ?oit30) (v := ?vt30) ?hit30 (by kernel_rfl) (by kernel_rfl) ?hqt30 ?hyt30 hHeld ?restt30
      case hit30 => (simp only [List.getElem?_toArray, List.getElem?_cons_zero, List.getElem?_cons_succ]; rfl)
      case hqt30 => exact fun _ _ _ h => h
      case hyt30 => (refine Or.inl ⟨by rfl, ?_⟩; intro w' hSw; (try dsimp only at hSw); go_simp; try with_reducible rfl)
      (try simp only [Act.put, List.setIfInBounds_toArray, List.set_cons_zero, List.set_cons_succ])
      refine' wpAnyT_take (i := 31) (oi := ?oit31) (v := ?vt31) ?hit31 (by kernel_rfl) (by kernel_rfl) ?hqt31 ?hyt31 hHeld ?restt31
      case hit31 => (simp only [List.getElem?_toArray, List.getElem?_cons_zero, List.getElem?_cons_succ]; rfl)
      case hqt31 => exact fun _ _ _ h => h
      case hyt31 => (refine Or.inl ⟨by rfl, ?_⟩; intro w' hSw; (try dsimp only at hSw); go_simp; try with_reducible rfl)
      (try simp only [Act.put, List.setIfInBounds_toArray, List.set_cons_zero, List.set_cons_succ])
      refine' wpAnyT_take (i := 32) (oi := ?oit32) (v := ?vt32) ?hit32 (by kernel_rfl) (by kernel_rfl) ?hqt32 ?hyt32 hHeld ?restt32
      case hit32 => (simp only [List.getElem?_toArray, List.getElem?_cons_zero, List.getElem?_cons_succ]; rfl)
      case hqt32 => exact fun _ _ _ h => h
      case hyt32 => (refine Or.inl ⟨by rfl, ?_⟩; intro w' hSw; (try dsimp only at hSw); go_simp; try with_reducible rfl)
      (try simp only [Act.put, List.setIfInBounds_toArray, List.set_cons_zero, List.set_cons_succ])
      refine' wpAnyT_take (i := 33) (oi := ?oit33) (v := ?vt33) ?hit33 (by kernel_rfl) (by kernel_rfl) ?hqt33 ?hyt33 hHeld ?restt33
      case hit33 => (simp only [List.getElem?_toArray, List.getElem?_cons_zero, List.getElem?_cons_succ]; rfl)
      case hqt33 => exact fun _ _ _ h => h
      case hyt33 => (refine Or.inl ⟨by rfl, ?_⟩; intro w' hSw; (try dsimp only at hSw); go_simp; try with_reducible rfl)
      (try simp only [Act.put, List.setIfInBounds_toArray, List.set_cons_zero, List.set_cons_succ])
      refine' wpAnyT_take (i := 34) (oi := ?oit34) (v := ?vt34) ?hit34 (by kernel_rfl) (by kernel_rfl) ?hqt34 ?hyt34 hHeld ?restt34
      case hit34 => (simp only [List.getElem?_toArray, List.getElem?_cons_zero, List.getElem?_cons_succ]; rfl)
      case hqt34 => exact fun _ _ _ h => h
      case hyt34 => (refine Or.inl ⟨by rfl, ?_⟩; intro w' hSw; (try dsimp only at hSw); go_simp; try with_reducible rfl)
      (try simp only [Act.put, List.setIfInBounds_toArray, List.set_cons_zero, List.set_cons_succ])
      refine' wpAnyT_take (i := 35) (oi := ?oit35) (v := ?vt35) ?hit35 (by kernel_rfl) (by kernel_rfl) ?hqt35 ?hyt35 hHeld ?restt35
      case hit35 => (simp only [List.getElem?_toArray, List.getElem?_cons_zero, List.getElem?_cons_succ]; rfl)
      case hqt35 => exact fun _ _ _ h => h
      case hyt35 => (refine Or.inl ⟨by rfl, ?_⟩; intro w' hSw; (try dsimp only at hSw); go_simp; try with_reducible rfl)
      (try simp only [Act.put, List.setIfInBounds_toArray, List.set_cons_zero, List.set_cons_succ])
      refine' wpAnyT_take (i := 36) (oi := ?oit36) (v := ?vt36) ?hit36 (by kernel_rfl) (by kernel_rfl) ?hqt36 ?hyt36 hHeld ?restt36
      case hit36 => (simp only [List.getElem?_toArray, List.getElem?_cons_zero, List.getElem?_cons_succ]; rfl)
      case hqt36 => exact fun _ _ _ h => h
      case hyt36 => (refine Or.inl ⟨by rfl, ?_⟩; intro w' hSw; (try dsimp only at hSw); go_simp; try with_reducible rfl)
      (try simp only [Act.put, List.setIfInBounds_toArray, List.set_cons_zero, List.set_cons_succ])
      refine' wpAnyT_take (i := 37) (oi := ?oit37) (v := ?vt37) ?hit37 (by kernel_rfl) (by kernel_rfl) ?hqt37 ?hyt37 hHeld ?restt37
      case hit37 => (simp only [List.getElem?_toArray, List.getElem?_cons_zero, List.getElem?_cons_succ]; rfl)
      case hqt37 => exact fun _ _ _ h => h
      case hyt37 => (refine Or.inl ⟨by rfl, ?_⟩; intro w' hSw; (try dsimp only at hSw); go_simp; try with_reducible rfl)
      (try simp only [Act.put, List.setIfInBounds_toArray, List.set_cons_zero, List.set_cons_succ])
      refine' wpAnyT_take (i := 38) (oi := ?oit38) (v := ?vt38) ?hit38 (by kernel_rfl) (by kernel_rfl) ?hqt38 ?hyt38 hHeld ?restt38
      case hit38 => (simp only [List.getElem?_toArray, List.getElem?_cons_zero, List.getElem?_cons_succ]; rfl)
      case hqt38 => exact fun _ _ _ h => h
      case hyt38 => (refine Or.inl ⟨by rfl, ?_⟩; intro w' hSw; (try dsimp only at hSw); go_simp; try with_reducible rfl)
      (try simp only [Act.put, List.setIfInBounds_toArray, List.set_cons_zero, List.set_cons_succ])
      refine' wpAnyT_take (i := 39) (oi := ?oit39) (v := ?vt39) ?hit39 (by kernel_rfl) (by kernel_rfl) ?hqt39 ?hyt39 hHeld ?restt39
      case hit39 => (simp only [List.getElem?_toArray, List.getElem?_cons_zero, List.getElem?_cons_succ]; rfl)
      case hqt39 => exact fun _ _ _ h => h
      case hyt39 => (refine Or.inl ⟨by rfl, ?_⟩; intro w' hSw; (try dsimp only at hSw); go_simp; try with_reducible rfl)
      (try simp only [Act.put, List.setIfInBounds_toArray, List.set_cons_zero, List.set_cons_succ])
      refine' wpAnyT_take (i := 40) (oi := ?oit40) (v := ?vt40) ?hit40 (by kernel_rfl) (by kernel_rfl) ?hqt40 ?hyt40 hHeld ?restt40
      case hit40 => (simp only [List.getElem?_toArray, List.getElem?_cons_zero, List.getElem?_cons_succ]; rfl)
      case hqt40 => exact fun _ _ _ h => h
      case hyt40 => (refine Or.inl ⟨by rfl, ?_⟩; intro w' hSw; (try dsimp only at hSw); go_simp; try with_reducible rfl)
      (try simp only [Act.put, List.setIfInBounds_toArray, List.set_cons_zero, List.set_cons_succ])
      refine wpAnyT_all (l := [41]) (by kernel_rfl) (by decide) ?_
      intro ii hii
      simp only [List.mem_cons, List.not_mem_nil, or_false] at hii
      subst hii
      refine ⟨_, by (simp only [List.getElem?_toArray, List.getElem?_cons_zero, List.getElem?_cons_succ]; rfl), fun KK hKK => ?_⟩
      go_simp
      go_at_call 32
      refine (HPAY.out wr.drew).mono ?_
      rintro e w6 ⟨pv, rfl, hpo, hb6⟩
      obtain ⟨pA, pc, rfl⟩ := own_form hpo
      obtain ⟨pl, hpl⟩ : ∃ pl, (pay sz j).length = pl := ⟨_, rfl⟩
      rw [hpl] at hpo
      have hb7 : Below wr.heap.size wr w6 := (Below.refl _ wr).drew.trans hb6
      have hHeld6 := HHeld.out w6 hb7
      have hc2 : (convert 37 9 (.slice pA pl pc)).run Try.prog w6 = .ok (.string S) w6 := by rw [← HSS.out]; exact byt_conv (byt_of_own hpo (pay_b8 sz j hj8))
      (try rw [hpl])
      have HB7 := hid hb7
      clear hpo hb6 hb7 hpl
      refine hKK.out _ _ (fun _ => hHeld6) ?_
      clear hKK KK
      (try simp only [Act.put, List.setIfInBounds_toArray, List.set_cons_zero, List.set_cons_succ])
      refine wpAnyT_all (l := [42]) (by kernel_rfl) (by decide) ?_
      intro ii hii
      simp only [List.mem_cons, List.not_mem_nil, or_false] at hii
      subst hii
      refine ⟨_, by (simp only [List.getElem?_toArray, List.getElem?_cons_zero, List.getElem?_cons_succ]; rfl), fun KK hKK => ?_⟩
      go_simp
      refine hKK.out _ _ (fun _ => hHeld6) ?_
      clear hKK KK
      (try simp only [Act.put, List.setIfInBounds_toArray, List.set_cons_zero, List.set_cons_succ])
      refine wpAnyT_all (l := [43]) (by kernel_rfl) (by decide) ?_
      intro ii hii
      simp only [List.mem_cons, List.not_mem_nil, or_false] at hii
      subst hii
      refine ⟨_, by (simp only [List.getElem?_toArray, List.getElem?_cons_zero, List.getElem?_cons_succ]; rfl), fun KK hKK => ?_⟩
      go_simp
      refine hKK.out _ _ (fun _ => hHeld6) ?_
      clear hKK KK
      (try simp only [Act.put, List.setIfInBounds_toArray, List.set_cons_zero, List.set_cons_succ])
      refine wpAnyT_all (l := [44]) (by kernel_rfl) (by decide) ?_
      intro ii hii
      simp only [List.mem_cons, List.not_mem_nil, or_false] at hii
      subst hii
      refine ⟨_, by (simp only [List.getElem?_toArray, List.getElem?_cons_zero, List.getElem?_cons_succ]; rfl), fun KK hKK => ?_⟩
      go_simp
      refine hKK.out _ _ (fun h => absurd h (by decide)) ?_
      clear hKK KK
      (try simp only [Act.put, List.setIfInBounds_toArray, List.set_cons_zero, List.set_cons_succ])
      refine wpAnyT_done (by kernel_rfl) ?_ _
      have p0' := hHeld6.1
      have p1' := hHeld6.2.1
      have p2' := (HB7.out.cell (p := ⟨sb, j, none⟩) hsb).trans p2
      have HO6 := hid (own_keep HO2.out (keep_below HB7.out))
      have fz := own_fr HO6.out j
      obtain ⟨W7, hW7⟩ : ∃ X, w6.setCell ⟨sb, j, none⟩ (.int .i64 (cz - 1)) = X := ⟨_, rfl⟩
      have HO7 : Hid (W7.ownsRow H 3 1 (.slice (some ⟨sb, 0, none⟩) N kc) N (rowF N fun j => ((cop mn mx rt ch sts j : Nat) : Int) - ((cnt ((ps.take (i + 1)).map core) j : Nat) : Int))) := hid (by
        have h := own_put HO6.out j (intV (cz - 1))
        rw [rowF_set (f' := fun j => ((cop mn mx rt ch sts j : Nat) : Int) - ((cnt ((ps.take (i + 1)).map core) j : Nat) : Int)) (by
          rw [HTK.out, hcj, hd_pay, if_pos rfl, hco, ← HCZ.out]; omega) (fun j' hj' => by
          rw [HTK.out, hd_pay, if_neg (fun e => hj' e.symm), Nat.add_zero])] at h
        rw [← hW7]
        exact h)
      have HK7 : Hid (Keep 37 W4 W7 ∧ Keep 5 W4 W7) := hid (by
        rw [← hW7]
        exact ⟨(HKK.out.1.trans (keep_below HB7.out)).trans (keep_ownset HO6.out (by decide) _ _), (HKK.out.2.trans (keep_below HB7.out)).trans (keep_ownset HO6.out (by decide) _ _)⟩)
      have HB8 : Hid (Below H W4 W7) := hid (by rw [← hW7]; exact (HBH.out.trans (HB7.out.mono hHr)).setCell hsG _)
      have HW7 := hid hW7
      clear hW7 hHeld hco hcj p2
      go_upto_region 11 with fail
      rw [HW7.out]
      go_wp2_with fail
      go_roundw
      case rel => exact ⟨i + 1, by omega, by go_num, HO7, HK7, HB8⟩
      case measure => simp [Go.RowKit.intOf]; omega
    · obtain rfl : P = i := by omega
      have hip' : ¬ ((P : Nat) : Int) < (P : Int) := by omega
      have HZ : Hid (∀ k, k < N → ((cop mn mx rt ch sts k : Nat) : Int) - ((cnt ((ps.take P).map core) k : Nat) : Int) = 0) := hid (fun k hk => by
        have h5 := (times_ok (ch := ch) h0 h1 h2 h3 h4 (by rw [HN.out]; exact hn20) 1073741824 (k := k) (by rw [HN.out]; exact hk)).2
        have h6 := HI.out.id2 _ (List.mem_of_getElem? (HAT.out k hk).2.1)
        rw [HN.out, HR.out] at h5
        rw [show ps.take P = ps from List.take_of_length_le (by rw [HPL.out]; exact Nat.le_refl _), HPK.out, HNU.out, h5 (by omega)]
        omega)
      go_upto_region 16 with fail
      go_loopw [10] (fun jv wr3 => ∃ k : Nat, k ≤ N ∧ jv = .int .i64 (k : Int) ∧ ∃ q, wr3 = wr.drewN q) (fun j _ => N - (Go.RowKit.intOf j).toNat)
      case atStart => exact ⟨0, Nat.zero_le _, rfl, 0, rfl⟩
      case round =>
        obtain ⟨k, hk, rfl, q, rfl⟩ := hrel
        by_cases hkn : k < N
        · have hkn' : (k : Int) < (N : Int) := by omega
          obtain ⟨bs, rfl, hbs, _, _, _, hcs⟩ := own_at1 HO2.out (by omega)
          have p3 := hcs k _ (rowF_at _ hkn)
          rw [HZ.out k hkn] at p3
          unfold intV at p3
          clear hcs
          go_wp2_with fail
          go_roundw
          case rel => exact ⟨k + 1, by omega, by go_num, _, rfl⟩
          case measure => simp [Go.RowKit.intOf]; omega
        · obtain rfl : N = k := by omega
          have hkn' : ¬ ((N : Nat) : Int) < (N : Int) := by omega
          go_upto_region 20 with fail
          have HAW := hid (awake_any (wr.drewN q))
          go_wp2_with fail
          refine HAW.out.mono ?_
          rintro e w9 ⟨rfl, hb9⟩
          go_wp2_with fail
          go_ret
          exact ⟨rfl, (below_both_drewN HBW.out q).trans (hb9.mono (below_both_drewN HBW.out q).size)⟩
end Go.Proofs.Ytacpejoablcffaa
