/- The law EstimatorTimes walked. -/
import Derived.Test.YtlbcidgmdfcamaaI0
namespace Go.Proofs.Ytlbcidgmdfcamaa
open Go.RowKit Go.Lib
theorem expired_n {e r : Est} (h : exq e = r) (W : World) : Calls Try.prog 21 #[ev e] W fun f w' => f = .returned (ev r) ∧ Below W.heap.size W w' := by rw [← h]; exact expired_any e W
theorem rexpired_n {e r : Est} (h : exq e = r) (W : World) : Calls Try.prog 22 #[ev e] W fun f w' => f = .returned (ev r) ∧ Below W.heap.size W w' := by rw [← h]; exact rexpired_any e W
set_option maxHeartbeats 8000000 in
set_option maxRecDepth 100000 in
theorem times_walk (e : Est) (w : World) : Calls Try.prog 4 #[ev e] w (TrueQ w) := by
  obtain ⟨⟨rn, rs, rv, rb⟩, hr⟩ : ∃ r, exq e = r := ⟨_, rfl⟩
  have HEX := hid (fun W => expired_n hr W)
  have HRX := hid (fun W => rexpired_n hr W)
  have HTM := hid (fun W => timeout_any e W)
  have HRT := hid (fun W => rtimeout_any e W)
  have HME := hid (fun W => mean_any e W)
  have HRM := hid (fun W => rmean_any e W)
  obtain ⟨tm, htm⟩ : ∃ x, tmo e = x := ⟨_, rfl⟩
  obtain ⟨me, hme⟩ : ∃ x, mean e = x := ⟨_, rfl⟩
  rw [htm] at HTM HRT
  rw [hme] at HME HRM
  obtain ⟨g, hg⟩ : ∃ g, w.heap.size = g := ⟨_, rfl⟩
  obtain ⟨W0, hW0⟩ : ∃ X, (w.alloc (.cells (cE e) 23)).drew = X := ⟨_, rfl⟩
  have k8 : W0.heap[g]? = some (.cells (cE e) 23) := by rw [← hW0, ← hg]; exact heap_alloc_new w _
  have B3 : Hid (Below g w W0) := hid (by rw [← hW0, ← hg]; exact below_drew (al1 w _))
  have HS0 : Hid (g ≤ W0.heap.size) := hid (Nat.le_of_lt (box_lt k8))
  obtain ⟨n, s, v, b⟩ := e
  have HK : Hid (∀ X, Below W0.heap.size W0 X → X.cell? ⟨g, 0, none⟩ = some (.int .i64 n) ∧ X.cell? ⟨g, 1, none⟩ = some (.int .i64 s) ∧ X.cell? ⟨g, 2, none⟩ = some (.int .i64 v) ∧ X.cell? ⟨g, 3, none⟩ = some (.int .i64 b)) := hid (fun X hX => load4 ((hX.block _ (box_lt k8)).trans k8))
  have HB := hid (Below.refl W0.heap.size W0)
  have hHeld := HK.out W0 HB.out
  have HG := hid hg
  have HW0 := hid hW0
  clear k8 hg hW0 hr htm hme
  simp only [cE, ev] at HW0 HEX HRX HTM HRT HME HRM ⊢
  have q1 : (tm == tm) = true := beq_self_eq_true tm
  have q2 : (me == me) = true := beq_self_eq_true me
  have q3 : (rn == rn) = true := beq_self_eq_true rn
  have q4 : (rs == rs) = true := beq_self_eq_true rs
  have q5 : (rv == rv) = true := beq_self_eq_true rv
  have q6 : (rb == rb) = true := beq_self_eq_true rb
  go_enter Try.func4, Try.ntmps4
  go_upto_region 1 with fail
  refine region_tail 22 (fun X => X.cell? ⟨g, 0, none⟩ = some (.int .i64 n) ∧ X.cell? ⟨g, 1, none⟩ = some (.int .i64 s) ∧ X.cell? ⟨g, 2, none⟩ = some (.int .i64 v) ∧ X.cell? ⟨g, 3, none⟩ = some (.int .i64 b)) (by kernel_rfl) ?_
  rw [HG.out, HW0.out]
  refine' wpAnyT_one (i := 0) (o := ?oix0) (by kernel_rfl) ?hix0 (fun K hK => ?stx0)
  case hix0 => (simp only [List.getElem?_toArray, List.getElem?_cons_zero]; rfl)
  go_simp
  go_at_call 12
  (with_reducible refine (awake_any _).mono ?_)
  rintro _ X1 ⟨rfl, hb⟩
  have HB := hid (HB.out.trans (hb.mono HB.out.size))
  have hHeld := HK.out X1 HB.out
  clear hb
  refine hK.out _ _ (fun _ => hHeld) ?_
  clear hK K
  (try simp only [Act.put, List.setIfInBounds_toArray, List.set_cons_zero, List.set_cons_succ])
  refine' wpAnyT_take (i := 1) (oi := ?oix1) (v := ?vx1) ?hix1 (by kernel_rfl) (by kernel_rfl) ?hqx1 ?hyx1 hHeld ?restx1
  case hix1 => (simp only [List.getElem?_toArray, List.getElem?_cons_zero, List.getElem?_cons_succ]; rfl)
  case hqx1 => exact fun _ _ _ h => h
  case hyx1 => (refine Or.inl ⟨by rfl, ?_⟩; intro w' hSw; (try dsimp only at hSw); go_simp; try with_reducible rfl)
  (try simp only [Act.put, List.setIfInBounds_toArray, List.set_cons_zero, List.set_cons_succ])
  refine' wpAnyT_take (i := 2) (oi := ?oix2) (v := ?vx2) ?hix2 (by kernel_rfl) (by kernel_rfl) ?hqx2 ?hyx2 hHeld ?restx2
  case hix2 => (simp only [List.getElem?_toArray, List.getElem?_cons_zero, List.getElem?_cons_succ]; rfl)
  case hqx2 => exact fun _ _ _ h => h
  case hyx2 => (refine Or.inl ⟨by rfl, ?_⟩; intro w' hSw; (try dsimp only at hSw); go_simp; try with_reducible rfl)
  (try simp only [Act.put, List.setIfInBounds_toArray, List.set_cons_zero, List.set_cons_succ])
  refine' wpAnyT_take (i := 4) (oi := ?oix4) (v := ?vx4) ?hix4 (by kernel_rfl) (by kernel_rfl) ?hqx4 ?hyx4 hHeld ?restx4
  case hix4 => (simp only [List.getElem?_toArray, List.getElem?_cons_zero, List.getElem?_cons_succ]; rfl)
  case hqx4 => exact fun _ _ _ h => h
  case hyx4 => (refine Or.inl ⟨by rfl, ?_⟩; intro w' hSw; (try dsimp only at hSw); go_simp; try with_reducible rfl)
  (try simp only [Act.put, List.setIfInBounds_toArray, List.set_cons_zero, List.set_cons_succ])
  refine' wpAnyT_one (i := 3) (o := ?oix3) (by kernel_rfl) ?hix3 (fun K hK => ?stx3)
  case hix3 => (simp only [List.getElem?_toArray, List.getElem?_cons_zero, List.getElem?_cons_succ]; rfl)
  go_simp
  go_at_call 17
  (with_reducible refine (HTM.out _).mono ?_)
  rintro _ X2 ⟨rfl, hb⟩
  have HB := hid (HB.out.trans (hb.mono HB.out.size))
  have hHeld := HK.out X2 HB.out
  clear hb
  refine hK.out _ _ (fun _ => hHeld) ?_
  clear hK K
  (try simp only [Act.put, List.setIfInBounds_toArray, List.set_cons_zero, List.set_cons_succ])
  refine' wpAnyT_one (i := 5) (o := ?oix5) (by kernel_rfl) ?hix5 (fun K hK => ?stx5)
  case hix5 => (simp only [List.getElem?_toArray, List.getElem?_cons_zero, List.getElem?_cons_succ]; rfl)
  go_simp
  go_at_call 18
  (with_reducible refine (HRT.out _).mono ?_)
  rintro _ X3 ⟨rfl, hb⟩
  have HB := hid (HB.out.trans (hb.mono HB.out.size))
  have hHeld := HK.out X3 HB.out
  clear hb
  refine hK.out _ _ (fun _ => hHeld) ?_
  clear hK K
  (try simp only [Act.put, List.setIfInBounds_toArray, List.set_cons_zero, List.set_cons_succ])
  refine' wpAnyT_take (i := 6) (oi := ?oix6) (v := ?vx6) ?hix6 (by kernel_rfl) (by kernel_rfl) ?hqx6 ?hyx6 hHeld ?restx6
  case hix6 => (simp only [List.getElem?_toArray, List.getElem?_cons_zero, List.getElem?_cons_succ]; rfl)
  case hqx6 => exact fun _ _ _ h => h
  case hyx6 => (refine Or.inl ⟨by rfl, ?_⟩; intro w' hSw; (try dsimp only at hSw); go_simp; try with_reducible rfl)
  (try simp only [Act.put, List.setIfInBounds_toArray, List.set_cons_zero, List.set_cons_succ])
  refine' wpAnyT_take (i := 7) (oi := ?oix7) (v := ?vx7) ?hix7 (by kernel_rfl) (by kernel_rfl) ?hqx7 ?hyx7 hHeld ?restx7
  case hix7 => (simp only [List.getElem?_toArray, List.getElem?_cons_zero, List.getElem?_cons_succ]; rfl)
  case hqx7 => exact fun _ _ _ h => h
  case hyx7 => (refine Or.inl ⟨by rfl, ?_⟩; intro w' hSw; (try dsimp only at hSw); go_simp; try with_reducible rfl)
  (try simp only [Act.put, List.setIfInBounds_toArray, List.set_cons_zero, List.set_cons_succ])
  refine' wpAnyT_take (i := 8) (oi := ?oix8) (v := ?vx8) ?hix8 (by kernel_rfl) (by kernel_rfl) ?hqx8 ?hyx8 hHeld ?restx8
  case hix8 => (simp only [List.getElem?_toArray, List.getElem?_cons_zero, List.getElem?_cons_succ]; rfl)
  case hqx8 => exact fun _ _ _ h => h
  case hyx8 => (refine Or.inl ⟨by rfl, ?_⟩; intro w' hSw; (try dsimp only at hSw); go_simp; try with_reducible rfl)
  (try simp only [Act.put, List.setIfInBounds_toArray, List.set_cons_zero, List.set_cons_succ])
  refine' wpAnyT_take (i := 9) (oi := ?oix9) (v := ?vx9) ?hix9 (by kernel_rfl) (by kernel_rfl) ?hqx9 ?hyx9 hHeld ?restx9
  case hix9 => (simp only [List.getElem?_toArray, List.getElem?_cons_zero, List.getElem?_cons_succ]; rfl)
  case hqx9 => exact fun _ _ _ h => h
  case hyx9 => (refine Or.inl ⟨by rfl, ?_⟩; intro w' hSw; (try dsimp only at hSw); go_simp; try with_reducible rfl)
  (try simp only [Act.put, List.setIfInBounds_toArray, List.set_cons_zero, List.set_cons_succ])
  refine' wpAnyT_take (i := 11) (oi := ?oix11) (v := ?vx11) ?hix11 (by kernel_rfl) (by kernel_rfl) ?hqx11 ?hyx11 hHeld ?restx11
  case hix11 => (simp only [List.getElem?_toArray, List.getElem?_cons_zero, List.getElem?_cons_succ]; rfl)
  case hqx11 => exact fun _ _ _ h => h
  case hyx11 => (refine Or.inl ⟨by rfl, ?_⟩; intro w' hSw; (try dsimp only at hSw); go_simp; try with_reducible rfl)
  (try simp only [Act.put, List.setIfInBounds_toArray, List.set_cons_zero, List.set_cons_succ])
  refine' wpAnyT_one (i := 10) (o := ?oix10) (by kernel_rfl) ?hix10 (fun K hK => ?stx10)
  case hix10 => (simp only [List.getElem?_toArray, List.getElem?_cons_zero, List.getElem?_cons_succ]; rfl)
  go_simp
  go_at_call 19
  (with_reducible refine (HME.out _).mono ?_)
  rintro _ X4 ⟨rfl, hb⟩
  have HB := hid (HB.out.trans (hb.mono HB.out.size))
  have hHeld := HK.out X4 HB.out
  clear hb
  refine hK.out _ _ (fun _ => hHeld) ?_
  clear hK K
  (try simp only [Act.put, List.setIfInBounds_toArray, List.set_cons_zero, List.set_cons_succ])
  refine' wpAnyT_one (i := 12) (o := ?oix12) (by kernel_rfl) ?hix12 (fun K hK => ?stx12)
  case hix12 => (simp only [List.getElem?_toArray, List.getElem?_cons_zero, List.getElem?_cons_succ]; rfl)
  go_simp
  go_at_call 20
  (with_reducible refine (HRM.out _).mono ?_)
  rintro _ X5 ⟨rfl, hb⟩
  have HB := hid (HB.out.trans (hb.mono HB.out.size))
  have hHeld := HK.out X5 HB.out
  clear hb
  refine hK.out _ _ (fun _ => hHeld) ?_
  clear hK K
  (try simp only [Act.put, List.setIfInBounds_toArray, List.set_cons_zero, List.set_cons_succ])
  refine' wpAnyT_take (i := 13) (oi := ?oix13) (v := ?vx13) ?hix13 (by kernel_rfl) (by kernel_rfl) ?hqx13 ?hyx13 hHeld ?restx13
  case hix13 => (simp only [List.getElem?_toArray, List.getElem?_cons_zero, List.getElem?_cons_succ]; rfl)
  case hqx13 => exact fun _ _ _ h => h
  case hyx13 => (refine Or.inl ⟨by rfl, ?_⟩; intro w' hSw; (try dsimp only at hSw); go_simp; try with_reducible rfl)
  (try simp only [Act.put, List.setIfInBounds_toArray, List.set_cons_zero, List.set_cons_succ])
  refine' wpAnyT_take (i := 14) (oi := ?oix14) (v := ?vx14) ?hix14 (by kernel_rfl) (by kernel_rfl) ?hqx14 ?hyx14 hHeld ?restx14
  case hix14 => (simp only [List.getElem?_toArray, List.getElem?_cons_zero, List.getElem?_cons_succ]; rfl)
  case hqx14 => exact fun _ _ _ h => h
  case hyx14 => (refine Or.inl ⟨by rfl, ?_⟩; intro w' hSw; (try dsimp only at hSw); go_simp; try with_reducible rfl)
  (try simp only [Act.put, List.setIfInBounds_toArray, List.set_cons_zero, List.set_cons_succ])
  refine' wpAnyT_take (i := 15) (oi := ?oix15) (v := ?vx15) ?hix15 (by kernel_rfl) (by kernel_rfl) ?hqx15 ?hyx15 hHeld ?restx15
  case hix15 => (simp only [List.getElem?_toArray, List.getElem?_cons_zero, List.getElem?_cons_succ]; rfl)
  case hqx15 => exact fun _ _ _ h => h
  case hyx15 => (refine Or.inl ⟨by rfl, ?_⟩; intro w' hSw; (try dsimp only at hSw); go_simp; try with_reducible rfl)
  (try simp only [Act.put, List.setIfInBounds_toArray, List.set_cons_zero, List.set_cons_succ])
  refine' wpAnyT_take (i := 16) (oi := ?oix16) (v := ?vx16) ?hix16 (by kernel_rfl) (by kernel_rfl) ?hqx16 ?hyx16 hHeld ?restx16
  case hix16 => (simp only [List.getElem?_toArray, List.getElem?_cons_zero, List.getElem?_cons_succ]; rfl)
  case hqx16 => exact fun _ _ _ h => h
  case hyx16 => (refine Or.inl ⟨by rfl, ?_⟩; intro w' hSw; (try dsimp only at hSw); go_simp; try with_reducible rfl)
  (try simp only [Act.put, List.setIfInBounds_toArray, List.set_cons_zero, List.set_cons_succ])
  refine' wpAnyT_take (i := 18) (oi := ?oix18) (v := ?vx18) ?hix18 (by kernel_rfl) (by kernel_rfl) ?hqx18 ?hyx18 hHeld ?restx18
  case hix18 => (simp only [List.getElem?_toArray, List.getElem?_cons_zero, List.getElem?_cons_succ]; rfl)
  case hqx18 => exact fun _ _ _ h => h
  case hyx18 => (refine Or.inl ⟨by rfl, ?_⟩; intro w' hSw; (try dsimp only at hSw); go_simp; try with_reducible rfl)
  (try simp only [Act.put, List.setIfInBounds_toArray, List.set_cons_zero, List.set_cons_succ])
  refine' wpAnyT_one (i := 17) (o := ?oix17) (by kernel_rfl) ?hix17 (fun K hK => ?stx17)
  case hix17 => (simp only [List.getElem?_toArray, List.getElem?_cons_zero, List.getElem?_cons_succ]; rfl)
  go_simp
  go_at_call 21
  (with_reducible refine (HEX.out _).mono ?_)
  rintro _ X6 ⟨rfl, hb⟩
  have HB := hid (HB.out.trans (hb.mono HB.out.size))
  have hHeld := HK.out X6 HB.out
  clear hb
  refine hK.out _ _ (fun _ => hHeld) ?_
  clear hK K
  (try simp only [Act.put, List.setIfInBounds_toArray, List.set_cons_zero, List.set_cons_succ])
  refine' wpAnyT_one (i := 19) (o := ?oix19) (by kernel_rfl) ?hix19 (fun K hK => ?stx19)
  case hix19 => (simp only [List.getElem?_toArray, List.getElem?_cons_zero, List.getElem?_cons_succ]; rfl)
  go_simp
  go_at_call 22
  (with_reducible refine (HRX.out _).mono ?_)
  rintro _ X7 ⟨rfl, hb⟩
  have HB := hid (HB.out.trans (hb.mono HB.out.size))
  have hHeld := HK.out X7 HB.out
  clear hb
  refine hK.out _ _ (fun _ => hHeld) ?_
  clear hK K
  (try simp only [Act.put, List.setIfInBounds_toArray, List.set_cons_zero, List.set_cons_succ])
  refine' wpAnyT_take (i := 20) (oi := ?oix20) (v := ?vx20) ?hix20 (by kernel_rfl) (by kernel_rfl) ?hqx20 ?hyx20 hHeld ?restx20
  case hix20 => (simp only [List.getElem?_toArray, List.getElem?_cons_zero, List.getElem?_cons_succ]; rfl)
  case hqx20 => exact fun _ _ _ h => h
  case hyx20 => (refine Or.inl ⟨by rfl, ?_⟩; intro w' hSw; (try dsimp only at hSw); go_simp; try with_reducible rfl)
  (try simp only [Act.put, List.setIfInBounds_toArray, List.set_cons_zero, List.set_cons_succ])
  refine' wpAnyT_take (i := 21) (oi := ?oix21) (v := ?vx21) ?hix21 (by kernel_rfl) (by kernel_rfl) ?hqx21 ?hyx21 hHeld ?restx21
  case hix21 => (simp only [List.getElem?_toArray, List.getElem?_cons_zero, List.getElem?_cons_succ]; rfl)
  case hqx21 => exact fun _ _ _ h => h
  case hyx21 => (refine Or.inl ⟨by rfl, ?_⟩; intro w' hSw; (try dsimp only at hSw); go_simp; try with_reducible rfl)
  (try simp only [Act.put, List.setIfInBounds_toArray, List.set_cons_zero, List.set_cons_succ])
  refine' wpAnyT_one (i := 22) (o := ?oix22) (by kernel_rfl) ?hix22 (fun K hK => ?stx22)
  case hix22 => (simp only [List.getElem?_toArray, List.getElem?_cons_zero, List.getElem?_cons_succ]; rfl)
  go_simp
  refine hK.out _ _ (fun h => absurd h (by decide)) ?_
  clear hK K
  (try simp only [Act.put, List.setIfInBounds_toArray, List.set_cons_zero, List.set_cons_succ])
  refine wpAnyT_done (by kernel_rfl) ?_ _
  go_wp2_with fail
  go_ret
  exact ⟨rfl, by rw [HG.out]; exact B3.out.trans (HB.out.mono HS0.out)⟩
end Go.Proofs.Ytlbcidgmdfcamaa
