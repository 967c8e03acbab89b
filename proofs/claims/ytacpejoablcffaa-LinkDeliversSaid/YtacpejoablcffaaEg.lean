/- The law LinkDelivers walked. -/
import Derived.Test.YtacpejoablcffaaEf
namespace Go.Proofs.Ytacpejoablcffaa
open Go.RowKit Go.Lib

theorem few_len {l : List Fl} (h : fewP l) : l.length ≤ 40 ∧ ∀ x ∈ l, x.p.length ≤ 100 := by
  refine ⟨h.2, fun x hx => ?_⟩
  obtain ⟨i, hi⟩ := List.getElem?_of_mem hx
  have h1 := (List.getElem?_eq_some_iff.1 hi).1
  exact h.1 i x (by have := h.2; omega) hi
theorem cut_len (s : Lk) (l : List Fc) : (cutS s l).2.length ≤ l.length := by
  unfold cutS
  split
  · exact Nat.le_refl _
  · exact Nat.zero_le _
theorem res_len (s : Lk) (l : List Fc) (t : Int) : (resS s l t).2.length ≤ l.length := by
  unfold resS
  split <;> exact Nat.le_refl _
theorem map_len {l : List Fl} {r : List Fc} (h : l.map core = r) : l.length = r.length := by rw [← h, List.length_map]
set_option maxHeartbeats 8000000 in
set_option maxRecDepth 100000 in
theorem delivers_walk (s : Lk) (u : Value) (l : List Fl) (now : Int) (w : World) (hv : FL w u l) (hr : ∀ x ∈ l, R64 x.n) (_ : (Lit.int .i64 now).wf = true) :
    Calls Try.prog 5 #[vLk s u, .int .i64 now] w (TrueQ w) := by
  obtain ⟨A, c, rfl⟩ := fl_form hv
  obtain ⟨N, hN⟩ : ∃ N, l.length = N := ⟨_, rfl⟩
  rw [hN] at hv ⊢
  obtain ⟨mn, mx, rt, dn, idle, next⟩ := s
  obtain ⟨g, hg⟩ : ∃ g, w.heap.size = g := ⟨_, rfl⟩
  obtain ⟨W1, hW1⟩ : ∃ X, w.alloc (.cells #[.int .i64 mn, .int .i64 mx, .int .i64 rt, .bool dn, .int .i64 idle, .int .i64 next, .slice A N c] 26) = X := ⟨_, rfl⟩
  have hb1 : Below w.heap.size w W1 := by rw [← hW1]; exact al1 _ _
  have hx1 : W1.heap[g]? = some (.cells #[.int .i64 mn, .int .i64 mx, .int .i64 rt, .bool dn, .int .i64 idle, .int .i64 next, .slice A N c] 26) := by rw [← hW1, ← hg]; exact heap_alloc_new w _
  have HFW := hid (few_dec ⟨mn, mx, rt, dn, idle, next⟩ l _ W1 (hv.below hb1))
  unfold vLk at HFW
  unfold vLk
  dsimp only
  have HV := hid hv
  have HN := hid hN
  have HRR := hid hr
  have HB1 := hid hb1
  have HX1 := hid hx1
  have HW1 := hid hW1
  have HG := hid hg
  have x0 := cell_of_row _ _ 0 _ _ _ HX1.out
  have x1 := cell_of_row _ _ 1 _ _ _ HX1.out
  have x2 := cell_of_row _ _ 2 _ _ _ HX1.out
  have x3 := cell_of_row _ _ 3 _ _ _ HX1.out
  have x4 := cell_of_row _ _ 4 _ _ _ HX1.out
  have x5 := cell_of_row _ _ 5 _ _ _ HX1.out
  have x6 := cell_of_row _ _ 6 _ _ _ HX1.out
  clear hv hN hb1 hx1 hW1 hg hr
  go_enter Try.func5, Try.ntmps5
  go_upto_region 1 with fail
  rw [HW1.out, HG.out]
  go_wp2_with fail
  refine HFW.out.mono ?_
  rintro e w2 ⟨he, hb2⟩
  have HX2 := hid ((hb2.block _ (box_lt HX1.out)).trans HX1.out)
  have HB2 := hid (HB1.out.trans (hb2.mono HB1.out.size))
  clear hb2 HFW x0 x1 x2 x3 x4 x5 x6
  rcases he with ⟨rfl, hfp⟩ | ⟨rfl, _⟩
  rotate_left
  · have HAW := hid (awake_any w2)
    go_wp2_with fail
    refine HAW.out.mono ?_
    rintro e w3 ⟨rfl, hb3⟩
    go_wp2_with fail
    go_ret
    exact ⟨rfl, HB2.out.trans (hb3.mono HB2.out.size)⟩
  obtain ⟨hl40, hp100⟩ := few_len hfp
  have HL40 := hid hl40
  obtain ⟨R0, hR0⟩ : ∃ R, l.map core = R := ⟨_, rfl⟩
  have HRL : Hid (R0.length ≤ 40) := hid (by rw [← hR0, List.length_map]; exact hl40)
  obtain ⟨n, hn⟩ : ∃ n, delN ⟨mn, mx, rt, dn, idle, next⟩ R0 now = n := ⟨_, rfl⟩
  have HDV := hid (fun (X : World) (hX : Below w.heap.size w X) => deliver_any ⟨mn, mx, rt, dn, idle, next⟩ l _ now X (HV.out.below hX) HRR.out (by omega) (fun x hx => by have := hp100 x hx; omega))
  have HRD := hid (fun (X : World) (hX : Below w.heap.size w X) => refDeliver_any ⟨mn, mx, rt, dn, idle, next⟩ l _ now X (HV.out.below hX) (by omega) (fun x hx => by have := hp100 x hx; omega))
  have HNX := hid (fun (X : World) (hX : Below w.heap.size w X) => next_any ⟨mn, mx, rt, dn, idle, next⟩ l _ X (HV.out.below hX) HRR.out)
  have HRX := hid (fun (X : World) (hX : Below w.heap.size w X) => refNext_any ⟨mn, mx, rt, dn, idle, next⟩ l _ X (HV.out.below hX))
  have HCU := hid (fun (X : World) (hX : Below w.heap.size w X) => cut_any ⟨mn, mx, rt, dn, idle, next⟩ l _ X (HV.out.below hX) HRR.out (by omega) (fun x hx => by have := hp100 x hx; omega))
  have HRC := hid (fun (X : World) (hX : Below w.heap.size w X) => refCut_any ⟨mn, mx, rt, dn, idle, next⟩ l _ X (HV.out.below hX))
  have HRS := hid (fun (X : World) (hX : Below w.heap.size w X) => restore_any ⟨mn, mx, rt, dn, idle, next⟩ l _ now X (HV.out.below hX) HRR.out (by omega) (fun x hx => by have := hp100 x hx; omega))
  have HRR2 := hid (fun (X : World) (hX : Below w.heap.size w X) => refRestore_any ⟨mn, mx, rt, dn, idle, next⟩ l _ now X (HV.out.below hX))
  rw [hR0] at HDV HRD HNX HRX HCU HRC HRS HRR2
  rw [hn] at HDV HRD
  obtain ⟨⟨tt, tb⟩, hnx⟩ : ∃ r, nxtS ⟨mn, mx, rt, dn, idle, next⟩ R0 = r := ⟨_, rfl⟩
  rw [hnx] at HNX HRX
  obtain ⟨⟨cs, cl⟩, hcu⟩ : ∃ r, cutS ⟨mn, mx, rt, dn, idle, next⟩ R0 = r := ⟨_, rfl⟩
  obtain ⟨⟨es, el⟩, hre⟩ : ∃ r, resS ⟨mn, mx, rt, dn, idle, next⟩ R0 now = r := ⟨_, rfl⟩
  have HCL : Hid (cl.length ≤ 40) := hid (by have h := cut_len ⟨mn, mx, rt, dn, idle, next⟩ R0; rw [hcu] at h; have := HRL.out; exact Nat.le_trans h this)
  have HEL : Hid (el.length ≤ 40) := hid (by have h := res_len ⟨mn, mx, rt, dn, idle, next⟩ R0 now; rw [hre] at h; have := HRL.out; exact Nat.le_trans h this)
  rw [hcu] at HCU HRC
  rw [hre] at HRS HRR2
  unfold vLk at HDV HRD HNX HRX HCU HRC HRS HRR2
  dsimp only at HDV HRD HNX HRX HCU HRC HRS HRR2
  clear hl40 hp100 hfp hn hnx hcu hre hR0
  have x0 := cell_of_row _ _ 0 _ _ _ HX2.out
  have x1 := cell_of_row _ _ 1 _ _ _ HX2.out
  have x2 := cell_of_row _ _ 2 _ _ _ HX2.out
  have x3 := cell_of_row _ _ 3 _ _ _ HX2.out
  have x4 := cell_of_row _ _ 4 _ _ _ HX2.out
  have x5 := cell_of_row _ _ 5 _ _ _ HX2.out
  have x6 := cell_of_row _ _ 6 _ _ _ HX2.out
  have HD2 := hid (HDV.out w2 HB2.out)
  go_upto_region 3 with fail
  go_wp2_with fail
  refine HD2.out.mono ?_
  rintro e w3 ⟨v3, pv3, ps3, rfl, ⟨fv3, vs3, rfl, ho3, hc3, hp3⟩, hq3, hk3, hl3, hb3⟩
  obtain ⟨f3, c3, rfl⟩ := own_form69 ho3
  obtain ⟨pA3, pc3, rfl⟩ := own_formE hq3
  obtain ⟨q3, hq3'⟩ : ∃ q, vs3.length = q := ⟨_, rfl⟩
  obtain ⟨P3, hP3⟩ : ∃ q, ps3.length = q := ⟨_, rfl⟩
  unfold vLk
  dsimp only
  rw [hq3', hP3]
  rw [hq3'] at ho3
  rw [hP3] at hq3
  obtain ⟨p, hp⟩ : ∃ p, w3.heap.size = p := ⟨_, rfl⟩
  obtain ⟨W3, hW3⟩ : ∃ X, w3.alloc (.cells #[.int .i64 mn, .int .i64 mx, .int .i64 rt, .bool dn, .int .i64 idle, .int .i64 next, .slice f3 q3 c3] 26) = X := ⟨_, rfl⟩
  have hz3 : Below w3.heap.size w3 W3 := by rw [← hW3]; exact al1 _ _
  have HP3 : Hid (W3.heap[p]? = some (.cells #[.int .i64 mn, .int .i64 mx, .int .i64 rt, .bool dn, .int .i64 idle, .int .i64 next, .slice f3 q3 c3] 26)) := hid (by rw [← hW3, ← hp]; exact heap_alloc_new _ _)
  have hb3' := hb3.trans (hz3.mono hb3.size)
  have HX3 := hid ((hb3'.block _ (box_lt HX2.out)).trans HX2.out)
  have HB3 := hid (HB2.out.trans (hb3'.mono HB2.out.size))
  have HF3 : Hid (FL W3 (.slice f3 q3 c3) vs3) := hid ((fl_of_own ho3 hq3' hp3).below hz3)
  have HY3 : Hid (PyL W3 (.slice pA3 P3 pc3) ps3) := hid ((py_of_own hq3 hl3).below hz3)
  have HC3 := hid hc3
  have HK3 : Hid (ps3.map Fl.p = (R0.take n).map (fun x => x.2.2)) := hid (by rw [← hk3, List.map_map]; rfl)
  have HPL3 : Hid (ps3.length ≤ 40) := hid (by have := map_len hk3; rw [List.length_take] at this; have := HRL.out; omega)
  have HVL3 : Hid (vs3.length ≤ 40) := hid (by have := map_len hc3; rw [List.length_drop] at this; have := HRL.out; omega)
  have HW3 := hid hW3
  have HPP := hid hp
  clear hp hW3 hz3 hb3 hb3' HD2 x0 x1 x2 x3 x4 x5 x6 ho3 hc3 hp3 hq3 hk3 hl3 hq3' hP3
  have x0 := cell_of_row _ _ 0 _ _ _ HX3.out
  have x1 := cell_of_row _ _ 1 _ _ _ HX3.out
  have x2 := cell_of_row _ _ 2 _ _ _ HX3.out
  have x3 := cell_of_row _ _ 3 _ _ _ HX3.out
  have x4 := cell_of_row _ _ 4 _ _ _ HX3.out
  have x5 := cell_of_row _ _ 5 _ _ _ HX3.out
  have x6 := cell_of_row _ _ 6 _ _ _ HX3.out
  have HD3 := hid (HRD.out W3 HB3.out)
  go_upto_region 4 with fail
  rw [HW3.out, HPP.out]
  go_wp2_with fail
  refine HD3.out.mono ?_
  rintro e w4 ⟨fv4, pv4, vs4, ps4, rfl, hf4, hy4, hc4, hk4, hb4⟩
  obtain ⟨f4, c4, rfl⟩ := fl_form hf4
  obtain ⟨pA4, pc4, rfl⟩ := py_form hy4
  obtain ⟨q4, hq4'⟩ : ∃ q, vs4.length = q := ⟨_, rfl⟩
  obtain ⟨P4, hP4⟩ : ∃ q, ps4.length = q := ⟨_, rfl⟩
  unfold vLk
  dsimp only
  rw [hq4', hP4]
  rw [hq4'] at hf4
  rw [hP4] at hy4
  obtain ⟨q, hq⟩ : ∃ q, w4.heap.size = q := ⟨_, rfl⟩
  obtain ⟨W4, hW4⟩ : ∃ X, w4.alloc (.cells #[.int .i64 mn, .int .i64 mx, .int .i64 rt, .bool dn, .int .i64 idle, .int .i64 next, .slice f4 q4 c4] 26) = X := ⟨_, rfl⟩
  have hz4 : Below w4.heap.size w4 W4 := by rw [← hW4]; exact al1 _ _
  have HQ4 : Hid (W4.heap[q]? = some (.cells #[.int .i64 mn, .int .i64 mx, .int .i64 rt, .bool dn, .int .i64 idle, .int .i64 next, .slice f4 q4 c4] 26)) := hid (by rw [← hW4, ← hq]; exact heap_alloc_new _ _)
  have hb4' := hb4.trans (hz4.mono hb4.size)
  have HX4 := hid ((hb4'.block _ (box_lt HX3.out)).trans HX3.out)
  have HP4 := hid ((hb4'.block _ (box_lt HP3.out)).trans HP3.out)
  have HB4 := hid (HB3.out.trans (hb4'.mono HB3.out.size))
  have HSM := hid (same_any ⟨mn, mx, rt, dn, idle, next⟩ vs3 vs4 _ _ W4 (HF3.out.below hb4') (hf4.below hz4) (by have := HVL3.out; omega) (HC3.out.trans hc4.symm))
  have HSP := hid (fun (X : World) (hX : Below W4.heap.size W4 X) => samePays_any ps3 ps4 _ _ X ((HY3.out.below hb4').below hX) ((hy4.below hz4).below hX) (by have := HPL3.out; omega) (HK3.out.trans hk4.symm))
  unfold vLk at HSM
  dsimp only at HSM
  have HW4 := hid hW4
  have HQQ := hid hq
  clear hq hW4 hz4 hb4 hb4' HD3 x0 x1 x2 x3 x4 x5 x6 hf4 hy4 hc4 hk4 hq4' hP4
  have y0 := cell_of_row _ _ 0 _ _ _ HP4.out
  have y1 := cell_of_row _ _ 1 _ _ _ HP4.out
  have y2 := cell_of_row _ _ 2 _ _ _ HP4.out
  have y3 := cell_of_row _ _ 3 _ _ _ HP4.out
  have y4 := cell_of_row _ _ 4 _ _ _ HP4.out
  have y5 := cell_of_row _ _ 5 _ _ _ HP4.out
  have y6 := cell_of_row _ _ 6 _ _ _ HP4.out
  have z0 := cell_of_row _ _ 0 _ _ _ HQ4.out
  have z1 := cell_of_row _ _ 1 _ _ _ HQ4.out
  have z2 := cell_of_row _ _ 2 _ _ _ HQ4.out
  have z3 := cell_of_row _ _ 3 _ _ _ HQ4.out
  have z4 := cell_of_row _ _ 4 _ _ _ HQ4.out
  have z5 := cell_of_row _ _ 5 _ _ _ HQ4.out
  have z6 := cell_of_row _ _ 6 _ _ _ HQ4.out
  go_upto_region 5 with fail
  rw [HW4.out, HQQ.out]
  go_wp2_with fail
  refine HSM.out.mono ?_
  rintro e w5 ⟨rfl, hb5⟩
  have HSP' := hid (HSP.out w5 hb5)
  clear y0 y1 y2 y3 y4 y5 y6 z0 z1 z2 z3 z4 z5 z6
  go_wp2_with fail
  refine HSP'.out.mono ?_
  rintro e w6 ⟨rfl, hb6⟩
  have hb6' := hb5.trans (hb6.mono hb5.size)
  have HX6 := hid ((hb6'.block _ (box_lt HX4.out)).trans HX4.out)
  have HB6 := hid (HB4.out.trans (hb6'.mono HB4.out.size))
  have HN6 := hid (HNX.out w6 HB6.out)
  clear hb5 hb6 hb6' HSP HSP' HSM
  have x0 := cell_of_row _ _ 0 _ _ _ HX6.out
  have x1 := cell_of_row _ _ 1 _ _ _ HX6.out
  have x2 := cell_of_row _ _ 2 _ _ _ HX6.out
  have x3 := cell_of_row _ _ 3 _ _ _ HX6.out
  have x4 := cell_of_row _ _ 4 _ _ _ HX6.out
  have x5 := cell_of_row _ _ 5 _ _ _ HX6.out
  have x6 := cell_of_row _ _ 6 _ _ _ HX6.out
  go_upto_region 7 with fail
  go_wp2_with fail
  refine HN6.out.mono ?_
  rintro e w7 ⟨rfl, hb7⟩
  have HX7 := hid ((hb7.block _ (box_lt HX6.out)).trans HX6.out)
  have HB7 := hid (HB6.out.trans (hb7.mono HB6.out.size))
  have HN7 := hid (HRX.out w7 HB7.out)
  clear hb7 HN6 x0 x1 x2 x3 x4 x5 x6
  have x0 := cell_of_row _ _ 0 _ _ _ HX7.out
  have x1 := cell_of_row _ _ 1 _ _ _ HX7.out
  have x2 := cell_of_row _ _ 2 _ _ _ HX7.out
  have x3 := cell_of_row _ _ 3 _ _ _ HX7.out
  have x4 := cell_of_row _ _ 4 _ _ _ HX7.out
  have x5 := cell_of_row _ _ 5 _ _ _ HX7.out
  have x6 := cell_of_row _ _ 6 _ _ _ HX7.out
  go_upto_region 8 with fail
  go_wp2_with fail
  refine HN7.out.mono ?_
  rintro e w8 ⟨rfl, hb8⟩
  have hx8 := (hb8.block _ (box_lt HX7.out)).trans HX7.out
  have HB8 := hid (HB7.out.trans (hb8.mono HB7.out.size))
  clear hb8 HN7 x0 x1 x2 x3 x4 x5 x6
  have HK := hid (fun (X : World) (hX : Below w8.heap.size w8 X) => (show X.cell? ⟨g, 0, none⟩ = some (.int .i64 mn) ∧ X.cell? ⟨g, 1, none⟩ = some (.int .i64 mx) ∧ X.cell? ⟨g, 2, none⟩ = some (.int .i64 rt) ∧ X.cell? ⟨g, 3, none⟩ = some (.bool dn) ∧ X.cell? ⟨g, 4, none⟩ = some (.int .i64 idle) ∧ X.cell? ⟨g, 5, none⟩ = some (.int .i64 next) ∧ X.cell? ⟨g, 6, none⟩ = some (.slice A N c) from (by
    have h1 := (hX.block _ (box_lt hx8)).trans hx8
    exact ⟨cell_of_row _ _ 0 _ _ _ h1, cell_of_row _ _ 1 _ _ _ h1, cell_of_row _ _ 2 _ _ _ h1, cell_of_row _ _ 3 _ _ _ h1, cell_of_row _ _ 4 _ _ _ h1, cell_of_row _ _ 5 _ _ _ h1, cell_of_row _ _ 6 _ _ _ h1⟩)))
  have dtt : (tt == tt) = true := beq_self_eq_true tt
  have dtb : (tb == tb) = true := beq_self_eq_true tb
  clear hx8
  go_upto_region 9 with fail
  refine region_tail 27 (fun X => X.cell? ⟨g, 0, none⟩ = some (.int .i64 mn) ∧ X.cell? ⟨g, 1, none⟩ = some (.int .i64 mx) ∧ X.cell? ⟨g, 2, none⟩ = some (.int .i64 rt) ∧ X.cell? ⟨g, 3, none⟩ = some (.bool dn) ∧ X.cell? ⟨g, 4, none⟩ = some (.int .i64 idle) ∧ X.cell? ⟨g, 5, none⟩ = some (.int .i64 next) ∧ X.cell? ⟨g, 6, none⟩ = some (.slice A N c)) (by kernel_rfl) ?_
  obtain ⟨X0, hX0⟩ : ∃ X, w8.drew = X := ⟨_, rfl⟩
  have hB0 : Below w8.heap.size w8 X0 := by rw [← hX0]; exact (Below.refl w8.heap.size w8).drew
  have hHeld := HK.out X0 hB0
  rw [hX0]
  clear hX0
  refine' wpAnyT_one (i := 0) (o := ?oia0) (by kernel_rfl) ?hia0 (fun K hK => ?sta0)
  case hia0 => (simp only [List.getElem?_toArray, List.getElem?_cons_zero]; rfl)
  go_simp
  go_at_call 12
  refine (awake_any X0).mono ?_
  rintro e X1 ⟨rfl, hbc⟩
  have hB1 : Below w8.heap.size w8 X1 := hB0.trans (hbc.mono hB0.size)
  clear hbc hHeld
  have hHeld := HK.out X1 hB1
  refine hK.out _ _ (fun _ => hHeld) ?_
  clear hK K
  (try simp only [Act.put, List.setIfInBounds_toArray, List.set_cons_zero, List.set_cons_succ])
  refine' wpAnyT_take (i := 1) (oi := ?oia1) (v := ?va1) ?hia1 (by kernel_rfl) (by kernel_rfl) ?hqa1 ?hya1 hHeld ?resta1
  case hia1 => (simp only [List.getElem?_toArray, List.getElem?_cons_zero, List.getElem?_cons_succ]; rfl)
  case hqa1 => exact fun _ _ _ h => h
  case hya1 => (refine Or.inl ⟨by rfl, ?_⟩; intro w' hSw; (try dsimp only at hSw); go_simp; try with_reducible rfl)
  (try simp only [Act.put, List.setIfInBounds_toArray, List.set_cons_zero, List.set_cons_succ])
  refine' wpAnyT_take (i := 2) (oi := ?oia2) (v := ?va2) ?hia2 (by kernel_rfl) (by kernel_rfl) ?hqa2 ?hya2 hHeld ?resta2
  case hia2 => (simp only [List.getElem?_toArray, List.getElem?_cons_zero, List.getElem?_cons_succ]; rfl)
  case hqa2 => exact fun _ _ _ h => h
  case hya2 => (refine Or.inl ⟨by rfl, ?_⟩; intro w' hSw; (try dsimp only at hSw); go_simp; try with_reducible rfl)
  (try simp only [Act.put, List.setIfInBounds_toArray, List.set_cons_zero, List.set_cons_succ])
  refine' wpAnyT_take (i := 3) (oi := ?oia3) (v := ?va3) ?hia3 (by kernel_rfl) (by kernel_rfl) ?hqa3 ?hya3 hHeld ?resta3
  case hia3 => (simp only [List.getElem?_toArray, List.getElem?_cons_zero, List.getElem?_cons_succ]; rfl)
  case hqa3 => exact fun _ _ _ h => h
  case hya3 => (refine Or.inl ⟨by rfl, ?_⟩; intro w' hSw; (try dsimp only at hSw); go_simp; try with_reducible rfl)
  (try simp only [Act.put, List.setIfInBounds_toArray, List.set_cons_zero, List.set_cons_succ])
  refine' wpAnyT_take (i := 4) (oi := ?oia4) (v := ?va4) ?hia4 (by kernel_rfl) (by kernel_rfl) ?hqa4 ?hya4 hHeld ?resta4
  case hia4 => (simp only [List.getElem?_toArray, List.getElem?_cons_zero, List.getElem?_cons_succ]; rfl)
  case hqa4 => exact fun _ _ _ h => h
  case hya4 => (refine Or.inl ⟨by rfl, ?_⟩; intro w' hSw; (try dsimp only at hSw); go_simp; try with_reducible rfl)
  (try simp only [Act.put, List.setIfInBounds_toArray, List.set_cons_zero, List.set_cons_succ])
  refine' wpAnyT_take (i := 5) (oi := ?oia5) (v := ?va5) ?hia5 (by kernel_rfl) (by kernel_rfl) ?hqa5 ?hya5 hHeld ?resta5
  case hia5 => (simp only [List.getElem?_toArray, List.getElem?_cons_zero, List.getElem?_cons_succ]; rfl)
  case hqa5 => exact fun _ _ _ h => h
  case hya5 => (refine Or.inl ⟨by rfl, ?_⟩; intro w' hSw; (try dsimp only at hSw); go_simp; try with_reducible rfl)
  (try simp only [Act.put, List.setIfInBounds_toArray, List.set_cons_zero, List.set_cons_succ])
  refine' wpAnyT_take (i := 6) (oi := ?oia6) (v := ?va6) ?hia6 (by kernel_rfl) (by kernel_rfl) ?hqa6 ?hya6 hHeld ?resta6
  case hia6 => (simp only [List.getElem?_toArray, List.getElem?_cons_zero, List.getElem?_cons_succ]; rfl)
  case hqa6 => exact fun _ _ _ h => h
  case hya6 => (refine Or.inl ⟨by rfl, ?_⟩; intro w' hSw; (try dsimp only at hSw); go_simp; try with_reducible rfl)
  (try simp only [Act.put, List.setIfInBounds_toArray, List.set_cons_zero, List.set_cons_succ])
  refine' wpAnyT_take (i := 7) (oi := ?oia7) (v := ?va7) ?hia7 (by kernel_rfl) (by kernel_rfl) ?hqa7 ?hya7 hHeld ?resta7
  case hia7 => (simp only [List.getElem?_toArray, List.getElem?_cons_zero, List.getElem?_cons_succ]; rfl)
  case hqa7 => exact fun _ _ _ h => h
  case hya7 => (refine Or.inl ⟨by rfl, ?_⟩; intro w' hSw; (try dsimp only at hSw); go_simp; try with_reducible rfl)
  (try simp only [Act.put, List.setIfInBounds_toArray, List.set_cons_zero, List.set_cons_succ])
  refine' wpAnyT_take (i := 8) (oi := ?oia8) (v := ?va8) ?hia8 (by kernel_rfl) (by kernel_rfl) ?hqa8 ?hya8 hHeld ?resta8
  case hia8 => (simp only [List.getElem?_toArray, List.getElem?_cons_zero, List.getElem?_cons_succ]; rfl)
  case hqa8 => exact fun _ _ _ h => h
  case hya8 => (refine Or.inl ⟨by rfl, ?_⟩; intro w' hSw; (try dsimp only at hSw); go_simp; try with_reducible rfl)
  (try simp only [Act.put, List.setIfInBounds_toArray, List.set_cons_zero, List.set_cons_succ])
  refine' wpAnyT_take (i := 9) (oi := ?oia9) (v := ?va9) ?hia9 (by kernel_rfl) (by kernel_rfl) ?hqa9 ?hya9 hHeld ?resta9
  case hia9 => (simp only [List.getElem?_toArray, List.getElem?_cons_zero, List.getElem?_cons_succ]; rfl)
  case hqa9 => exact fun _ _ _ h => h
  case hya9 => (refine Or.inl ⟨by rfl, ?_⟩; intro w' hSw; (try dsimp only at hSw); go_simp; try with_reducible rfl)
  (try simp only [Act.put, List.setIfInBounds_toArray, List.set_cons_zero, List.set_cons_succ])
  refine' wpAnyT_take (i := 10) (oi := ?oia10) (v := ?va10) ?hia10 (by kernel_rfl) (by kernel_rfl) ?hqa10 ?hya10 hHeld ?resta10
  case hia10 => (simp only [List.getElem?_toArray, List.getElem?_cons_zero, List.getElem?_cons_succ]; rfl)
  case hqa10 => exact fun _ _ _ h => h
  case hya10 => (refine Or.inl ⟨by rfl, ?_⟩; intro w' hSw; (try dsimp only at hSw); go_simp; try with_reducible rfl)
  (try simp only [Act.put, List.setIfInBounds_toArray, List.set_cons_zero, List.set_cons_succ])
  refine' wpAnyT_take (i := 11) (oi := ?oia11) (v := ?va11) ?hia11 (by kernel_rfl) (by kernel_rfl) ?hqa11 ?hya11 hHeld ?resta11
  case hia11 => (simp only [List.getElem?_toArray, List.getElem?_cons_zero, List.getElem?_cons_succ]; rfl)
  case hqa11 => exact fun _ _ _ h => h
  case hya11 => (refine Or.inl ⟨by rfl, ?_⟩; intro w' hSw; (try dsimp only at hSw); go_simp; try with_reducible rfl)
  (try simp only [Act.put, List.setIfInBounds_toArray, List.set_cons_zero, List.set_cons_succ])
  refine' wpAnyT_take (i := 12) (oi := ?oia12) (v := ?va12) ?hia12 (by kernel_rfl) (by kernel_rfl) ?hqa12 ?hya12 hHeld ?resta12
  case hia12 => (simp only [List.getElem?_toArray, List.getElem?_cons_zero, List.getElem?_cons_succ]; rfl)
  case hqa12 => exact fun _ _ _ h => h
  case hya12 => (refine Or.inl ⟨by rfl, ?_⟩; intro w' hSw; (try dsimp only at hSw); go_simp; try with_reducible rfl)
  (try simp only [Act.put, List.setIfInBounds_toArray, List.set_cons_zero, List.set_cons_succ])
  refine' wpAnyT_take (i := 14) (oi := ?oia14) (v := ?va14) ?hia14 (by kernel_rfl) (by kernel_rfl) ?hqa14 ?hya14 hHeld ?resta14
  case hia14 => (simp only [List.getElem?_toArray, List.getElem?_cons_zero, List.getElem?_cons_succ]; rfl)
  case hqa14 => exact fun _ _ _ h => h
  case hya14 => (refine Or.inl ⟨by rfl, ?_⟩; intro w' hSw; (try dsimp only at hSw); go_simp; try with_reducible rfl)
  (try simp only [Act.put, List.setIfInBounds_toArray, List.set_cons_zero, List.set_cons_succ])
  refine' wpAnyT_one (i := 13) (o := ?oia13) (by kernel_rfl) ?hia13 (fun K hK => ?sta13)
  case hia13 => (simp only [List.getElem?_toArray, List.getElem?_cons_zero, List.getElem?_cons_succ]; rfl)
  go_simp
  go_at_call 26
  refine (HCU.out X1 (HB8.out.trans (hB1.mono HB8.out.size))).mono ?_
  rintro e X2 ⟨v, rfl, ⟨fc, vc, rfl, hoc, hcc, hpc⟩, hbc⟩
  have hB2 : Below w8.heap.size w8 X2 := hB1.trans (hbc.mono hB1.size)
  have HFC := hid (fl_of_own hoc rfl hpc)
  have HCC := hid hcc
  clear hoc hcc hpc
  clear hbc hHeld
  have hHeld := HK.out X2 hB2
  refine hK.out _ _ (fun _ => hHeld) ?_
  clear hK K
  refine' wpAnyT_one (i := 15) (o := ?oia15) (by kernel_rfl) ?hia15 (fun K hK => ?sta15)
  case hia15 => (simp only [List.getElem?_toArray, List.getElem?_cons_zero, List.getElem?_cons_succ]; rfl)
  go_simp
  go_at_call 27
  refine (HRC.out X2 (HB8.out.trans (hB2.mono HB8.out.size))).mono ?_
  rintro e X3 ⟨fd, vd, rfl, hfd, hcd, hbc⟩
  have hB3 : Below w8.heap.size w8 X3 := hB2.trans (hbc.mono hB2.size)
  have HFC3 := hid (HFC.out.below hbc)
  have HFD := hid hfd
  have HCD := hid hcd
  clear hfd hcd
  clear hbc hHeld
  have hHeld := HK.out X3 hB3
  refine hK.out _ _ (fun _ => hHeld) ?_
  clear hK K
  refine' wpAnyT_one (i := 16) (o := ?oia16) (by kernel_rfl) ?hia16 (fun K hK => ?sta16)
  case hia16 => (simp only [List.getElem?_toArray, List.getElem?_cons_zero, List.getElem?_cons_succ]; rfl)
  go_simp
  go_at_call 15
  refine (same_any cs vc vd _ _ X3 HFC3.out HFD.out (by have h5 := map_len HCC.out; dsimp only at h5; have := HCL.out; omega) (HCC.out.trans HCD.out.symm)).mono ?_
  rintro e X4 ⟨rfl, hbc⟩
  have hB4 : Below w8.heap.size w8 X4 := hB3.trans (hbc.mono hB3.size)
  clear hbc hHeld
  have hHeld := HK.out X4 hB4
  refine hK.out _ _ (fun _ => hHeld) ?_
  clear hK K
  (try simp only [Act.put, List.setIfInBounds_toArray, List.set_cons_zero, List.set_cons_succ])
  refine' wpAnyT_take (i := 17) (oi := ?oia17) (v := ?va17) ?hia17 (by kernel_rfl) (by kernel_rfl) ?hqa17 ?hya17 hHeld ?resta17
  case hia17 => (simp only [List.getElem?_toArray, List.getElem?_cons_zero, List.getElem?_cons_succ]; rfl)
  case hqa17 => exact fun _ _ _ h => h
  case hya17 => (refine Or.inl ⟨by rfl, ?_⟩; intro w' hSw; (try dsimp only at hSw); go_simp; try with_reducible rfl)
  (try simp only [Act.put, List.setIfInBounds_toArray, List.set_cons_zero, List.set_cons_succ])
  refine' wpAnyT_take (i := 18) (oi := ?oia18) (v := ?va18) ?hia18 (by kernel_rfl) (by kernel_rfl) ?hqa18 ?hya18 hHeld ?resta18
  case hia18 => (simp only [List.getElem?_toArray, List.getElem?_cons_zero, List.getElem?_cons_succ]; rfl)
  case hqa18 => exact fun _ _ _ h => h
  case hya18 => (refine Or.inl ⟨by rfl, ?_⟩; intro w' hSw; (try dsimp only at hSw); go_simp; try with_reducible rfl)
  (try simp only [Act.put, List.setIfInBounds_toArray, List.set_cons_zero, List.set_cons_succ])
  refine' wpAnyT_take (i := 19) (oi := ?oia19) (v := ?va19) ?hia19 (by kernel_rfl) (by kernel_rfl) ?hqa19 ?hya19 hHeld ?resta19
  case hia19 => (simp only [List.getElem?_toArray, List.getElem?_cons_zero, List.getElem?_cons_succ]; rfl)
  case hqa19 => exact fun _ _ _ h => h
  case hya19 => (refine Or.inl ⟨by rfl, ?_⟩; intro w' hSw; (try dsimp only at hSw); go_simp; try with_reducible rfl)
  (try simp only [Act.put, List.setIfInBounds_toArray, List.set_cons_zero, List.set_cons_succ])
  refine' wpAnyT_take (i := 20) (oi := ?oia20) (v := ?va20) ?hia20 (by kernel_rfl) (by kernel_rfl) ?hqa20 ?hya20 hHeld ?resta20
  case hia20 => (simp only [List.getElem?_toArray, List.getElem?_cons_zero, List.getElem?_cons_succ]; rfl)
  case hqa20 => exact fun _ _ _ h => h
  case hya20 => (refine Or.inl ⟨by rfl, ?_⟩; intro w' hSw; (try dsimp only at hSw); go_simp; try with_reducible rfl)
  (try simp only [Act.put, List.setIfInBounds_toArray, List.set_cons_zero, List.set_cons_succ])
  refine' wpAnyT_take (i := 22) (oi := ?oia22) (v := ?va22) ?hia22 (by kernel_rfl) (by kernel_rfl) ?hqa22 ?hya22 hHeld ?resta22
  case hia22 => (simp only [List.getElem?_toArray, List.getElem?_cons_zero, List.getElem?_cons_succ]; rfl)
  case hqa22 => exact fun _ _ _ h => h
  case hya22 => (refine Or.inl ⟨by rfl, ?_⟩; intro w' hSw; (try dsimp only at hSw); go_simp; try with_reducible rfl)
  (try simp only [Act.put, List.setIfInBounds_toArray, List.set_cons_zero, List.set_cons_succ])
  refine' wpAnyT_take (i := 23) (oi := ?oia23) (v := ?va23) ?hia23 (by kernel_rfl) (by kernel_rfl) ?hqa23 ?hya23 hHeld ?resta23
  case hia23 => (simp only [List.getElem?_toArray, List.getElem?_cons_zero, List.getElem?_cons_succ]; rfl)
  case hqa23 => exact fun _ _ _ h => h
  case hya23 => (refine Or.inl ⟨by rfl, ?_⟩; intro w' hSw; (try dsimp only at hSw); go_simp; try with_reducible rfl)
  (try simp only [Act.put, List.setIfInBounds_toArray, List.set_cons_zero, List.set_cons_succ])
  refine' wpAnyT_one (i := 21) (o := ?oia21) (by kernel_rfl) ?hia21 (fun K hK => ?sta21)
  case hia21 => (simp only [List.getElem?_toArray, List.getElem?_cons_zero, List.getElem?_cons_succ]; rfl)
  go_simp
  go_at_call 28
  refine (HRS.out X4 (HB8.out.trans (hB4.mono HB8.out.size))).mono ?_
  rintro e X5 ⟨v, rfl, ⟨fe, ve, rfl, hoc, hcc, hpc⟩, hbc⟩
  have hB5 : Below w8.heap.size w8 X5 := hB4.trans (hbc.mono hB4.size)
  have HFE := hid (fl_of_own hoc rfl hpc)
  have HCE := hid hcc
  clear hoc hcc hpc
  clear hbc hHeld
  have hHeld := HK.out X5 hB5
  refine hK.out _ _ (fun _ => hHeld) ?_
  clear hK K
  refine' wpAnyT_one (i := 24) (o := ?oia24) (by kernel_rfl) ?hia24 (fun K hK => ?sta24)
  case hia24 => (simp only [List.getElem?_toArray, List.getElem?_cons_zero, List.getElem?_cons_succ]; rfl)
  go_simp
  go_at_call 29
  refine (HRR2.out X5 (HB8.out.trans (hB5.mono HB8.out.size))).mono ?_
  rintro e X6 ⟨ff, vf, rfl, hfd, hcd, hbc⟩
  have hB6 : Below w8.heap.size w8 X6 := hB5.trans (hbc.mono hB5.size)
  have HFE6 := hid (HFE.out.below hbc)
  have HFF := hid hfd
  have HCF := hid hcd
  clear hfd hcd
  clear hbc hHeld
  have hHeld := HK.out X6 hB6
  refine hK.out _ _ (fun _ => hHeld) ?_
  clear hK K
  refine' wpAnyT_one (i := 25) (o := ?oia25) (by kernel_rfl) ?hia25 (fun K hK => ?sta25)
  case hia25 => (simp only [List.getElem?_toArray, List.getElem?_cons_zero, List.getElem?_cons_succ]; rfl)
  go_simp
  go_at_call 15
  refine (same_any es ve vf _ _ X6 HFE6.out HFF.out (by have h5 := map_len HCE.out; dsimp only at h5; have := HEL.out; omega) (HCE.out.trans HCF.out.symm)).mono ?_
  rintro e X7 ⟨rfl, hbc⟩
  have hB7 : Below w8.heap.size w8 X7 := hB6.trans (hbc.mono hB6.size)
  clear hbc hHeld
  have hHeld := HK.out X7 hB7
  refine hK.out _ _ (fun _ => hHeld) ?_
  clear hK K
  (try simp only [Act.put, List.setIfInBounds_toArray, List.set_cons_zero, List.set_cons_succ])
  refine' wpAnyT_take (i := 26) (oi := ?oia26) (v := ?va26) ?hia26 (by kernel_rfl) (by kernel_rfl) ?hqa26 ?hya26 hHeld ?resta26
  case hia26 => (simp only [List.getElem?_toArray, List.getElem?_cons_zero, List.getElem?_cons_succ]; rfl)
  case hqa26 => exact fun _ _ _ h => h
  case hya26 => (refine Or.inl ⟨by rfl, ?_⟩; intro w' hSw; (try dsimp only at hSw); go_simp; try with_reducible rfl)
  (try simp only [Act.put, List.setIfInBounds_toArray, List.set_cons_zero, List.set_cons_succ])
  refine' wpAnyT_one (i := 27) (o := ?oia27) (by kernel_rfl) ?hia27 (fun K hK => ?sta27)
  case hia27 => (simp only [List.getElem?_toArray, List.getElem?_cons_zero, List.getElem?_cons_succ]; rfl)
  go_simp
  refine hK.out _ _ (fun h => absurd h (by decide)) ?_
  clear hK K
  (try simp only [Act.put, List.setIfInBounds_toArray, List.set_cons_zero, List.set_cons_succ])
  refine wpAnyT_done (by kernel_rfl) ?_ _
  have HBF := hid (HB8.out.trans (hB7.mono HB8.out.size))
  go_wp2_with fail
  go_ret
  exact ⟨rfl, HBF.out⟩
end Go.Proofs.Ytacpejoablcffaa
