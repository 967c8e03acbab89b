/- The law EstimatorSamples walked. -/
import Derived.Test.YtlbcidgmdfcamaaI0
namespace Go.Proofs.Ytlbcidgmdfcamaa
open Go.RowKit Go.Lib
set_option maxHeartbeats 8000000 in
set_option maxRecDepth 100000 in
theorem samples_walk (e : Est) (t : Int) (w : World) : Calls Try.prog 3 #[ev e, .int .i64 t] w (TrueQ w) := by
  obtain ⟨⟨⟨rn, rs, rv, rb⟩, cc⟩, hr⟩ : ∃ r, smp e t = r := ⟨_, rfl⟩
  have HSM := hid (fun W => sample_n hr W)
  have HRS := hid (fun W => rsample_n hr W)
  have HCK := hid (fun W => check_any e W)
  have HRC := hid (fun W => rcheck_any e W)
  obtain ⟨ck, hck⟩ : ∃ ck, chk e = ck := ⟨_, rfl⟩
  rw [hck] at HCK HRC
  have HNE := hid (fun W => new_any W)
  have HRN := hid (fun W => rnew_any W)
  obtain ⟨g, hg⟩ : ∃ g, w.heap.size = g := ⟨_, rfl⟩
  obtain ⟨W1, hW1⟩ : ∃ X, w.alloc (.cells (cE e) 23) = X := ⟨_, rfl⟩
  have k1 : W1.heap[g]? = some (.cells (cE e) 23) := by rw [← hW1, ← hg]; exact heap_alloc_new w _
  have B1 : Hid (Below g w W1) := hid (by rw [← hW1, ← hg]; exact al1 w _)
  obtain ⟨x0, x1, x2, x3⟩ := load4 k1
  have K1 := hid k1
  have HG := hid hg
  have HW1 := hid hW1
  clear k1 hg hW1 hr hck
  obtain ⟨n, s, v, b⟩ := e
  simp only [cE, ev] at HW1 HSM HRS HCK HRC x0 x1 x2 x3 ⊢
  simp only [ev, z4] at HNE HRN
  go_enter Try.func3, Try.ntmps3
  go_upto_region 1 with fail
  rw [HW1.out, HG.out]
  go_upto_region 2 with (go_at_call 10; (with_reducible refine (HSM.out _).mono ?_); rintro _ w2 ⟨rfl, hb⟩; have HB2 := hid (B1.out.trans (hb.mono (Nat.le_of_lt (box_lt K1.out)))); have h2 := (hb.block _ (box_lt K1.out)).trans K1.out; have K2 := hid h2; clear hb h2)
  obtain ⟨ga, hga⟩ : ∃ h, w2.heap.size = h := ⟨_, rfl⟩
  obtain ⟨W2, hW2⟩ : ∃ X, w2.alloc (.cells (cE ⟨rn, rs, rv, rb⟩) 23) = X := ⟨_, rfl⟩
  have k3 : W2.heap[ga]? = some (.cells (cE ⟨rn, rs, rv, rb⟩) 23) := by rw [← hW2, ← hga]; exact heap_alloc_new _ _
  have k4 : W2.heap[g]? = some (.cells (cE ⟨n, s, v, b⟩) 23) := by rw [← hW2]; exact old_alloc K2.out _
  have B2 : Hid (Below g w W2) := hid (by rw [← hW2]; exact HB2.out.alloc (Nat.le_of_lt (box_lt K2.out)) _)
  have K3 := hid k3
  have K4 := hid k4
  have HGA := hid hga
  have HW2 := hid hW2
  obtain ⟨y0, y1, y2, y3⟩ := load4 k4
  simp only [cE] at HW2
  simp only at y0 y1 y2 y3
  clear k3 k4 hga hW2 x0 x1 x2 x3
  rw [HGA.out, HW2.out]
  go_upto_region 3 with (go_at_call 11; (with_reducible refine (HRS.out _).mono ?_); rintro _ w3 ⟨rfl, hb⟩; have HB3 := hid (B2.out.trans (hb.mono (Nat.le_of_lt (box_lt K4.out)))); have h2 := (hb.block _ (box_lt K4.out)).trans K4.out; have h3 := (hb.block _ (box_lt K3.out)).trans K3.out; have K5 := hid h2; have K6 := hid h3; clear hb h2 h3)
  obtain ⟨gb, hgb⟩ : ∃ h, w3.heap.size = h := ⟨_, rfl⟩
  obtain ⟨W0, hW0⟩ : ∃ X, (w3.alloc (.cells (cE ⟨rn, rs, rv, rb⟩) 23)).drew = X := ⟨_, rfl⟩
  have k7 : W0.heap[gb]? = some (.cells (cE ⟨rn, rs, rv, rb⟩) 23) := by rw [← hW0, ← hgb]; exact heap_alloc_new _ _
  have k8 : W0.heap[g]? = some (.cells (cE ⟨n, s, v, b⟩) 23) := by rw [← hW0]; exact old_alloc K5.out _
  have k9 : W0.heap[ga]? = some (.cells (cE ⟨rn, rs, rv, rb⟩) 23) := by rw [← hW0]; exact old_alloc K6.out _
  have B3 : Hid (Below g w W0) := hid (by rw [← hW0]; exact below_drew (HB3.out.alloc (Nat.le_of_lt (box_lt K5.out)) _))
  have HS0 : Hid (g ≤ W0.heap.size) := hid (Nat.le_of_lt (box_lt k8))
  have HK : Hid (∀ X, Below W0.heap.size W0 X → X.cell? ⟨g, 0, none⟩ = some (.int .i64 n) ∧ X.cell? ⟨g, 1, none⟩ = some (.int .i64 s) ∧ X.cell? ⟨g, 2, none⟩ = some (.int .i64 v) ∧ X.cell? ⟨g, 3, none⟩ = some (.int .i64 b) ∧ X.cell? ⟨ga, 0, none⟩ = some (.int .i64 rn) ∧ X.cell? ⟨ga, 1, none⟩ = some (.int .i64 rs) ∧ X.cell? ⟨ga, 2, none⟩ = some (.int .i64 rv) ∧ X.cell? ⟨ga, 3, none⟩ = some (.int .i64 rb) ∧ X.cell? ⟨gb, 0, none⟩ = some (.int .i64 rn) ∧ X.cell? ⟨gb, 1, none⟩ = some (.int .i64 rs) ∧ X.cell? ⟨gb, 2, none⟩ = some (.int .i64 rv) ∧ X.cell? ⟨gb, 3, none⟩ = some (.int .i64 rb)) := hid (fun X hX => by
    have a1 := load4 ((hX.block _ (box_lt k8)).trans k8)
    have a2 := load4 ((hX.block _ (box_lt k9)).trans k9)
    have a3 := load4 ((hX.block _ (box_lt k7)).trans k7)
    exact ⟨a1.1, a1.2.1, a1.2.2.1, a1.2.2.2, a2.1, a2.2.1, a2.2.2.1, a2.2.2.2, a3.1, a3.2.1, a3.2.2.1, a3.2.2.2⟩)
  have HB := hid (Below.refl W0.heap.size W0)
  have hHeld := HK.out W0 HB.out
  have HGB := hid hgb
  have HW0 := hid hW0
  simp only [cE] at HW0
  have q1 : (cc == cc) = true := beq_self_eq_true cc
  have q2 : (ck == ck) = true := beq_self_eq_true ck
  have q3 : (rn == rn) = true := beq_self_eq_true rn
  have q4 : (rs == rs) = true := beq_self_eq_true rs
  have q5 : (rv == rv) = true := beq_self_eq_true rv
  have q6 : (rb == rb) = true := beq_self_eq_true rb
  clear k7 k8 k9 hgb hW0 y0 y1 y2 y3
  refine region_tail 23 (fun X => X.cell? ⟨g, 0, none⟩ = some (.int .i64 n) ∧ X.cell? ⟨g, 1, none⟩ = some (.int .i64 s) ∧ X.cell? ⟨g, 2, none⟩ = some (.int .i64 v) ∧ X.cell? ⟨g, 3, none⟩ = some (.int .i64 b) ∧ X.cell? ⟨ga, 0, none⟩ = some (.int .i64 rn) ∧ X.cell? ⟨ga, 1, none⟩ = some (.int .i64 rs) ∧ X.cell? ⟨ga, 2, none⟩ = some (.int .i64 rv) ∧ X.cell? ⟨ga, 3, none⟩ = some (.int .i64 rb) ∧ X.cell? ⟨gb, 0, none⟩ = some (.int .i64 rn) ∧ X.cell? ⟨gb, 1, none⟩ = some (.int .i64 rs) ∧ X.cell? ⟨gb, 2, none⟩ = some (.int .i64 rv) ∧ X.cell? ⟨gb, 3, none⟩ = some (.int .i64 rb)) (by kernel_rfl) ?_
  rw [HGB.out, HW0.out]
  refine' wpAnyT_one (i := 0) (o := ?oix0) (by kernel_rfl) ?hix0 (fun K hK => ?stx0)
  case hix0 => (simp only [List.getElem?_toArray, List.getElem?_cons_zero]; rfl)
  go_simp
  go_at_call 12
  (with_reducible refine (awake_any _).mono ?_)
  rintro _ X1 ⟨rfl, hb⟩
  have HB := hid (HB.out.trans (hb.mono HB.out.size))
  have hHeld := HK.out X1 HB.out
  clear hb
  refine hK.out _ _ (fun _ => hHeld) ?_
  clear hK K
  (try simp only [Act.put, List.setIfInBounds_toArray, List.set_cons_zero, List.set_cons_succ])
  refine' wpAnyT_take (i := 1) (oi := ?oix1) (v := ?vx1) ?hix1 (by kernel_rfl) (by kernel_rfl) ?hqx1 ?hyx1 hHeld ?restx1
  case hix1 => (simp only [List.getElem?_toArray, List.getElem?_cons_zero, List.getElem?_cons_succ]; rfl)
  case hqx1 => exact fun _ _ _ h => h
  case hyx1 => (refine Or.inl ⟨by rfl, ?_⟩; intro w' hSw; (try dsimp only at hSw); go_simp; try with_reducible rfl)
  (try simp only [Act.put, List.setIfInBounds_toArray, List.set_cons_zero, List.set_cons_succ])
  refine' wpAnyT_take (i := 2) (oi := ?oix2) (v := ?vx2) ?hix2 (by kernel_rfl) (by kernel_rfl) ?hqx2 ?hyx2 hHeld ?restx2
  case hix2 => (simp only [List.getElem?_toArray, List.getElem?_cons_zero, List.getElem?_cons_succ]; rfl)
  case hqx2 => exact fun _ _ _ h => h
  case hyx2 => (refine Or.inl ⟨by rfl, ?_⟩; intro w' hSw; (try dsimp only at hSw); go_simp; try with_reducible rfl)
  (try simp only [Act.put, List.setIfInBounds_toArray, List.set_cons_zero, List.set_cons_succ])
  refine' wpAnyT_take (i := 3) (oi := ?oix3) (v := ?vx3) ?hix3 (by kernel_rfl) (by kernel_rfl) ?hqx3 ?hyx3 hHeld ?restx3
  case hix3 => (simp only [List.getElem?_toArray, List.getElem?_cons_zero, List.getElem?_cons_succ]; rfl)
  case hqx3 => exact fun _ _ _ h => h
  case hyx3 => (refine Or.inl ⟨by rfl, ?_⟩; intro w' hSw; (try dsimp only at hSw); go_simp; try with_reducible rfl)
  (try simp only [Act.put, List.setIfInBounds_toArray, List.set_cons_zero, List.set_cons_succ])
  refine' wpAnyT_take (i := 4) (oi := ?oix4) (v := ?vx4) ?hix4 (by kernel_rfl) (by kernel_rfl) ?hqx4 ?hyx4 hHeld ?restx4
  case hix4 => (simp only [List.getElem?_toArray, List.getElem?_cons_zero, List.getElem?_cons_succ]; rfl)
  case hqx4 => exact fun _ _ _ h => h
  case hyx4 => (refine Or.inl ⟨by rfl, ?_⟩; intro w' hSw; (try dsimp only at hSw); go_simp; try with_reducible rfl)
  (try simp only [Act.put, List.setIfInBounds_toArray, List.set_cons_zero, List.set_cons_succ])
  refine' wpAnyT_take (i := 5) (oi := ?oix5) (v := ?vx5) ?hix5 (by kernel_rfl) (by kernel_rfl) ?hqx5 ?hyx5 hHeld ?restx5
  case hix5 => (simp only [List.getElem?_toArray, List.getElem?_cons_zero, List.getElem?_cons_succ]; rfl)
  case hqx5 => exact fun _ _ _ h => h
  case hyx5 => (refine Or.inl ⟨by rfl, ?_⟩; intro w' hSw; (try dsimp only at hSw); go_simp; try with_reducible rfl)
  (try simp only [Act.put, List.setIfInBounds_toArray, List.set_cons_zero, List.set_cons_succ])
  refine' wpAnyT_take (i := 6) (oi := ?oix6) (v := ?vx6) ?hix6 (by kernel_rfl) (by kernel_rfl) ?hqx6 ?hyx6 hHeld ?restx6
  case hix6 => (simp only [List.getElem?_toArray, List.getElem?_cons_zero, List.getElem?_cons_succ]; rfl)
  case hqx6 => exact fun _ _ _ h => h
  case hyx6 => (refine Or.inl ⟨by rfl, ?_⟩; intro w' hSw; (try dsimp only at hSw); go_simp; try with_reducible rfl)
  (try simp only [Act.put, List.setIfInBounds_toArray, List.set_cons_zero, List.set_cons_succ])
  refine' wpAnyT_take (i := 7) (oi := ?oix7) (v := ?vx7) ?hix7 (by kernel_rfl) (by kernel_rfl) ?hqx7 ?hyx7 hHeld ?restx7
  case hix7 => (simp only [List.getElem?_toArray, List.getElem?_cons_zero, List.getElem?_cons_succ]; rfl)
  case hqx7 => exact fun _ _ _ h => h
  case hyx7 => (refine Or.inl ⟨by rfl, ?_⟩; intro w' hSw; (try dsimp only at hSw); go_simp; try with_reducible rfl)
  (try simp only [Act.put, List.setIfInBounds_toArray, List.set_cons_zero, List.set_cons_succ])
  refine' wpAnyT_take (i := 8) (oi := ?oix8) (v := ?vx8) ?hix8 (by kernel_rfl) (by kernel_rfl) ?hqx8 ?hyx8 hHeld ?restx8
  case hix8 => (simp only [List.getElem?_toArray, List.getElem?_cons_zero, List.getElem?_cons_succ]; rfl)
  case hqx8 => exact fun _ _ _ h => h
  case hyx8 => (refine Or.inl ⟨by rfl, ?_⟩; intro w' hSw; (try dsimp only at hSw); go_simp; try with_reducible rfl)
  (try simp only [Act.put, List.setIfInBounds_toArray, List.set_cons_zero, List.set_cons_succ])
  refine' wpAnyT_take (i := 9) (oi := ?oix9) (v := ?vx9) ?hix9 (by kernel_rfl) (by kernel_rfl) ?hqx9 ?hyx9 hHeld ?restx9
  case hix9 => (simp only [List.getElem?_toArray, List.getElem?_cons_zero, List.getElem?_cons_succ]; rfl)
  case hqx9 => exact fun _ _ _ h => h
  case hyx9 => (refine Or.inl ⟨by rfl, ?_⟩; intro w' hSw; (try dsimp only at hSw); go_simp; try with_reducible rfl)
  (try simp only [Act.put, List.setIfInBounds_toArray, List.set_cons_zero, List.set_cons_succ])
  refine' wpAnyT_take (i := 10) (oi := ?oix10) (v := ?vx10) ?hix10 (by kernel_rfl) (by kernel_rfl) ?hqx10 ?hyx10 hHeld ?restx10
  case hix10 => (simp only [List.getElem?_toArray, List.getElem?_cons_zero, List.getElem?_cons_succ]; rfl)
  case hqx10 => exact fun _ _ _ h => h
  case hyx10 => (refine Or.inl ⟨by rfl, ?_⟩; intro w' hSw; (try dsimp only at hSw); go_simp; try with_reducible rfl)
  (try simp only [Act.put, List.setIfInBounds_toArray, List.set_cons_zero, List.set_cons_succ])
  refine' wpAnyT_take (i := 11) (oi := ?oix11) (v := ?vx11) ?hix11 (by kernel_rfl) (by kernel_rfl) ?hqx11 ?hyx11 hHeld ?restx11
  case hix11 => (simp only [List.getElem?_toArray, List.getElem?_cons_zero, List.getElem?_cons_succ]; rfl)
  case hqx11 => exact fun _ _ _ h => h
  case hyx11 => (refine Or.inl ⟨by rfl, ?_⟩; intro w' hSw; (try dsimp only at hSw); go_simp; try with_reducible rfl)
  (try simp only [Act.put, List.setIfInBounds_toArray, List.set_cons_zero, List.set_cons_succ])
  refine' wpAnyT_take (i := 12) (oi := ?oix12) (v := ?vx12) ?hix12 (by kernel_rfl) (by kernel_rfl) ?hqx12 ?hyx12 hHeld ?restx12
  case hix12 => (simp only [List.getElem?_toArray, List.getElem?_cons_zero, List.getElem?_cons_succ]; rfl)
  case hqx12 => exact fun _ _ _ h => h
  case hyx12 => (refine Or.inl ⟨by rfl, ?_⟩; intro w' hSw; (try dsimp only at hSw); go_simp; try with_reducible rfl)
  (try simp only [Act.put, List.setIfInBounds_toArray, List.set_cons_zero, List.set_cons_succ])
  refine' wpAnyT_take (i := 14) (oi := ?oix14) (v := ?vx14) ?hix14 (by kernel_rfl) (by kernel_rfl) ?hqx14 ?hyx14 hHeld ?restx14
  case hix14 => (simp only [List.getElem?_toArray, List.getElem?_cons_zero, List.getElem?_cons_succ]; rfl)
  case hqx14 => exact fun _ _ _ h => h
  case hyx14 => (refine Or.inl ⟨by rfl, ?_⟩; intro w' hSw; (try dsimp only at hSw); go_simp; try with_reducible rfl)
  (try simp only [Act.put, List.setIfInBounds_toArray, List.set_cons_zero, List.set_cons_succ])
  refine' wpAnyT_one (i := 13) (o := ?oix13) (by kernel_rfl) ?hix13 (fun K hK => ?stx13)
  case hix13 => (simp only [List.getElem?_toArray, List.getElem?_cons_zero, List.getElem?_cons_succ]; rfl)
  go_simp
  go_at_call 13
  (with_reducible refine (HCK.out _).mono ?_)
  rintro _ X2 ⟨rfl, hb⟩
  have HB := hid (HB.out.trans (hb.mono HB.out.size))
  have hHeld := HK.out X2 HB.out
  clear hb
  refine hK.out _ _ (fun _ => hHeld) ?_
  clear hK K
  (try simp only [Act.put, List.setIfInBounds_toArray, List.set_cons_zero, List.set_cons_succ])
  refine' wpAnyT_one (i := 15) (o := ?oix15) (by kernel_rfl) ?hix15 (fun K hK => ?stx15)
  case hix15 => (simp only [List.getElem?_toArray, List.getElem?_cons_zero, List.getElem?_cons_succ]; rfl)
  go_simp
  go_at_call 14
  (with_reducible refine (HRC.out _).mono ?_)
  rintro _ X3 ⟨rfl, hb⟩
  have HB := hid (HB.out.trans (hb.mono HB.out.size))
  have hHeld := HK.out X3 HB.out
  clear hb
  refine hK.out _ _ (fun _ => hHeld) ?_
  clear hK K
  (try simp only [Act.put, List.setIfInBounds_toArray, List.set_cons_zero, List.set_cons_succ])
  refine' wpAnyT_take (i := 16) (oi := ?oix16) (v := ?vx16) ?hix16 (by kernel_rfl) (by kernel_rfl) ?hqx16 ?hyx16 hHeld ?restx16
  case hix16 => (simp only [List.getElem?_toArray, List.getElem?_cons_zero, List.getElem?_cons_succ]; rfl)
  case hqx16 => exact fun _ _ _ h => h
  case hyx16 => (refine Or.inl ⟨by rfl, ?_⟩; intro w' hSw; (try dsimp only at hSw); go_simp; try with_reducible rfl)
  (try simp only [Act.put, List.setIfInBounds_toArray, List.set_cons_zero, List.set_cons_succ])
  refine' wpAnyT_take (i := 17) (oi := ?oix17) (v := ?vx17) ?hix17 (by kernel_rfl) (by kernel_rfl) ?hqx17 ?hyx17 hHeld ?restx17
  case hix17 => (simp only [List.getElem?_toArray, List.getElem?_cons_zero, List.getElem?_cons_succ]; rfl)
  case hqx17 => exact fun _ _ _ h => h
  case hyx17 => (refine Or.inl ⟨by rfl, ?_⟩; intro w' hSw; (try dsimp only at hSw); go_simp; try with_reducible rfl)
  (try simp only [Act.put, List.setIfInBounds_toArray, List.set_cons_zero, List.set_cons_succ])
  refine' wpAnyT_take (i := 18) (oi := ?oix18) (v := ?vx18) ?hix18 (by kernel_rfl) (by kernel_rfl) ?hqx18 ?hyx18 hHeld ?restx18
  case hix18 => (simp only [List.getElem?_toArray, List.getElem?_cons_zero, List.getElem?_cons_succ]; rfl)
  case hqx18 => exact fun _ _ _ h => h
  case hyx18 => (refine Or.inl ⟨by rfl, ?_⟩; intro w' hSw; (try dsimp only at hSw); go_simp; try with_reducible rfl)
  (try simp only [Act.put, List.setIfInBounds_toArray, List.set_cons_zero, List.set_cons_succ])
  refine' wpAnyT_one (i := 19) (o := ?oix19) (by kernel_rfl) ?hix19 (fun K hK => ?stx19)
  case hix19 => (simp only [List.getElem?_toArray, List.getElem?_cons_zero, List.getElem?_cons_succ]; rfl)
  go_simp
  go_at_call 15
  (with_reducible refine (HNE.out _).mono ?_)
  rintro _ X4 ⟨rfl, hb⟩
  have HB := hid (HB.out.trans (hb.mono HB.out.size))
  have hHeld := HK.out X4 HB.out
  clear hb
  refine hK.out _ _ (fun _ => hHeld) ?_
  clear hK K
  (try simp only [Act.put, List.setIfInBounds_toArray, List.set_cons_zero, List.set_cons_succ])
  refine' wpAnyT_one (i := 20) (o := ?oix20) (by kernel_rfl) ?hix20 (fun K hK => ?stx20)
  case hix20 => (simp only [List.getElem?_toArray, List.getElem?_cons_zero, List.getElem?_cons_succ]; rfl)
  go_simp
  go_at_call 16
  (with_reducible refine (HRN.out _).mono ?_)
  rintro _ X5 ⟨rfl, hb⟩
  have HB := hid (HB.out.trans (hb.mono HB.out.size))
  have hHeld := HK.out X5 HB.out
  clear hb
  refine hK.out _ _ (fun _ => hHeld) ?_
  clear hK K
  (try simp only [Act.put, List.setIfInBounds_toArray, List.set_cons_zero, List.set_cons_succ])
  refine' wpAnyT_take (i := 21) (oi := ?oix21) (v := ?vx21) ?hix21 (by kernel_rfl) (by kernel_rfl) ?hqx21 ?hyx21 hHeld ?restx21
  case hix21 => (simp only [List.getElem?_toArray, List.getElem?_cons_zero, List.getElem?_cons_succ]; rfl)
  case hqx21 => exact fun _ _ _ h => h
  case hyx21 => (refine Or.inl ⟨by rfl, ?_⟩; intro w' hSw; (try dsimp only at hSw); go_simp; try with_reducible rfl)
  (try simp only [Act.put, List.setIfInBounds_toArray, List.set_cons_zero, List.set_cons_succ])
  refine' wpAnyT_take (i := 22) (oi := ?oix22) (v := ?vx22) ?hix22 (by kernel_rfl) (by kernel_rfl) ?hqx22 ?hyx22 hHeld ?restx22
  case hix22 => (simp only [List.getElem?_toArray, List.getElem?_cons_zero, List.getElem?_cons_succ]; rfl)
  case hqx22 => exact fun _ _ _ h => h
  case hyx22 => (refine Or.inl ⟨by rfl, ?_⟩; intro w' hSw; (try dsimp only at hSw); go_simp; try with_reducible rfl)
  (try simp only [Act.put, List.setIfInBounds_toArray, List.set_cons_zero, List.set_cons_succ])
  refine' wpAnyT_one (i := 23) (o := ?oix23) (by kernel_rfl) ?hix23 (fun K hK => ?stx23)
  case hix23 => (simp only [List.getElem?_toArray, List.getElem?_cons_zero, List.getElem?_cons_succ]; rfl)
  go_simp
  refine hK.out _ _ (fun h => absurd h (by decide)) ?_
  clear hK K
  (try simp only [Act.put, List.setIfInBounds_toArray, List.set_cons_zero, List.set_cons_succ])
  refine wpAnyT_done (by kernel_rfl) ?_ _
  go_wp2_with fail
  go_ret
  exact ⟨rfl, by rw [HG.out]; exact B3.out.trans (HB.out.mono HS0.out)⟩
end Go.Proofs.Ytlbcidgmdfcamaa
