/- Timeout. -/
import Derived.Test.YtlbcidgmdfcamaaD
import Derived.Test.YtlbcidgmdfcamaaRe
namespace Go.Proofs.Ytlbcidgmdfcamaa
open Go.RowKit Go.Lib
set_option maxHeartbeats 4000000 in
set_option maxRecDepth 100000 in
theorem timeout_any (e : Est) (w : World) : Calls Try.prog 17 #[ev e] w fun f w' => f = .returned (.int .i64 (tmo e)) ∧ Below w.heap.size w w' := by
  obtain ⟨g, hg⟩ : ∃ g, w.heap.size = g := ⟨_, rfl⟩
  obtain ⟨W1, hW1⟩ : ∃ X, w.alloc (.cells (cE e) 23) = X := ⟨_, rfl⟩
  have k1 : W1.heap[g]? = some (.cells (cE e) 23) := by rw [← hW1, ← hg]; exact heap_alloc_new w _
  have B1 : Hid (Below g w W1) := hid (by rw [← hW1, ← hg]; exact al1 w _)
  obtain ⟨x0, x1, x2, x3⟩ := load4 k1
  obtain ⟨c, hc⟩ : ∃ c, chk e = c := ⟨_, rfl⟩
  have HCK := hid (check_any e W1)
  have HOK : Hid (c = 0 → chk e = 0) := hid (fun h => hc.trans h)
  rw [hc] at HCK
  have HC := hid hc
  have K1 := hid k1
  have HG := hid hg
  have HW1 := hid hW1
  clear k1 hg hW1 hc
  obtain ⟨n, s, v, b⟩ := e
  simp only [cE, ev] at HW1 HCK x0 x1 x2 x3 ⊢
  by_cases c0 : c = 0
  rotate_left
  · have d0 : (c != 0) = true := by simp [c0]
    have HR : Hid (tmo ⟨n, s, v, b⟩ = 0) := hid (by unfold tmo; rw [HC.out, if_neg c0])
    go_enter Try.func17, Try.ntmps17
    go_upto_region 1 with fail
    rw [HW1.out, HG.out]
    go_wp2_with (go_at_call 13; (with_reducible refine HCK.out.mono ?_); rintro _ w3 ⟨rfl, hb⟩; have HB3 := hid (B1.out.trans (hb.mono (Nat.le_of_lt (box_lt K1.out)))); have h3 := (hb.block _ (box_lt K1.out)).trans K1.out; have K3 := hid h3; obtain ⟨u0, u1, u2, u3⟩ := load4 h3; have f3 := box_fr h3; clear hb h3)
    go_ret
    exact ⟨ret_i HR.out.symm, by rw [HG.out]; exact HB3.out⟩
  have ok0 := HOK.out c0
  have ok := chk_ok ok0
  have bd := base_bd ok0
  have hb0 : 0 ≤ b ∧ b ≤ 12 := ok.2.2.2.1
  have hs0 : 0 ≤ s ∧ s ≤ 8589934592 := ok.2.1
  have hv0 : 0 ≤ v ∧ v ≤ 8589934592 := ok.2.2.1
  have hp := pow_b hb0.1 hb0.2
  obtain ⟨P, hP⟩ : ∃ P, (2 : Int) ^ b.toNat = P := ⟨_, rfl⟩
  obtain ⟨B, hB⟩ : ∃ B, base ⟨n, s, v, b⟩ = B := ⟨_, rfl⟩
  rw [hP] at hp
  rw [hB] at bd
  have hb12 : b < 64 := by omega
  have hlt : B * P ≤ 9663676417 * 4096 := Int.mul_le_mul bd.2.1 hp.2 (by omega) (by decide)
  have hge : B * 1 ≤ B * P := Int.mul_le_mul_of_nonneg_left hp.1 (by omega)
  have HT : Hid (tmo ⟨n, s, v, b⟩ = min (B * P) (max B 65536)) := hid (by unfold tmo; rw [if_pos ok0, hB]; show min (B * 2 ^ b.toNat) (max B 65536) = _; rw [hP])
  have hw9 : wrap64 (B * P) = B * P := w64 (by omega) (by omega)
  obtain ⟨T1, hT1⟩ : ∃ T1, B * P = T1 := ⟨_, rfl⟩
  obtain ⟨T2, hT2⟩ : ∃ T2, max B 65536 = T2 := ⟨_, rfl⟩
  obtain ⟨T3, hT3⟩ : ∃ T3, min T1 T2 = T3 := ⟨_, rfl⟩
  rw [hT1, hT2, hT3] at HT
  rw [hT1] at hw9
  have hbl := hb0.1
  by_cases n0 : 0 < n
  · have d1 : decide (0 < n) = true := decide_eq_true n0
    have HMQ : Hid (mean ⟨n, s, v, b⟩ = s / 8) := hid (by unfold mean; rw [if_pos ok0])
    have HBA : Hid (B = max (s / 8 + max v 1) 2) := hid (by rw [← hB]; unfold base; rw [if_pos (show 0 < (⟨n, s, v, b⟩ : Est).n from n0)])
    have HS8 : Hid (0 ≤ s / 8 ∧ s / 8 ≤ 1073741824) := hid (by omega)
    obtain ⟨q, hq⟩ : ∃ q, s / 8 = q := ⟨_, rfl⟩
    rw [hq] at HMQ HBA HS8
    obtain ⟨m1, hm1⟩ : ∃ m1, max v 1 = m1 := ⟨_, rfl⟩
    rw [hm1] at HBA
    have hw1 : wrap64 (q + m1) = q + m1 := w64 (by have := HS8.out; omega) (by have := HS8.out; omega)
    have hm2 : max (q + m1) 2 = B := HBA.out.symm
    have HMN := hid (fun W => mean_any ⟨n, s, v, b⟩ W)
    simp only [HMQ.out, ev] at HMN
    clear ok0 ok HOK HC hs0 hv0 hB bd hge hlt hp hq HBA HMQ HS8
    subst c0
    go_enter Try.func17, Try.ntmps17
    go_upto_region 1 with fail
    rw [HW1.out, HG.out]
    go_upto_region 5 with (go_at_call 13; (with_reducible refine HCK.out.mono ?_); rintro _ w3 ⟨rfl, hb⟩; have HB3 := hid (B1.out.trans (hb.mono (Nat.le_of_lt (box_lt K1.out)))); have h3 := (hb.block _ (box_lt K1.out)).trans K1.out; have K3 := hid h3; obtain ⟨u0, u1, u2, u3⟩ := load4 h3; have f3 := box_fr h3; clear hb h3)
    obtain ⟨X0, hX0⟩ : ∃ X, w3.drew = X := ⟨_, rfl⟩
    have hHeld : X0.cell? ⟨g, 0, none⟩ = some (.int .i64 n) ∧ X0.cell? ⟨g, 1, none⟩ = some (.int .i64 s) ∧ X0.cell? ⟨g, 2, none⟩ = some (.int .i64 v) ∧ X0.cell? ⟨g, 3, none⟩ = some (.int .i64 b) := by rw [← hX0]; exact ⟨u0, u1, u2, u3⟩
    have HB0 : Hid (Below g w X0) := hid (by rw [← hX0]; exact below_drew HB3.out)
    have K0 : Hid (X0.heap[g]? = some (.cells (cE ⟨n, s, v, b⟩) 23)) := hid (by rw [← hX0]; exact K3.out)
    have HX0 := hid hX0
    clear hX0 u0 u1 u2 u3 x0 x1 x2 x3 f3
    refine region_tail 7 (fun X => X.cell? ⟨g, 0, none⟩ = some (.int .i64 n) ∧ X.cell? ⟨g, 1, none⟩ = some (.int .i64 s) ∧ X.cell? ⟨g, 2, none⟩ = some (.int .i64 v) ∧ X.cell? ⟨g, 3, none⟩ = some (.int .i64 b)) (by kernel_rfl) ?_
    rw [HX0.out]
    refine' wpAnyT_take (i := 0) (oi := ?oix0) (v := ?vx0) ?hix0 (by kernel_rfl) (by kernel_rfl) ?hqx0 ?hyx0 hHeld ?restx0
    case hix0 => (simp only [List.getElem?_toArray, List.getElem?_cons_zero]; rfl)
    case hqx0 => exact fun _ _ _ h => h
    case hyx0 => (refine Or.inl ⟨by rfl, ?_⟩; intro w' hSw; (try dsimp only at hSw); go_simp; try with_reducible rfl)
    (try simp only [Act.put, List.setIfInBounds_toArray, List.set_cons_zero, List.set_cons_succ])
    refine' wpAnyT_take (i := 2) (oi := ?oix2) (v := ?vx2) ?hix2 (by kernel_rfl) (by kernel_rfl) ?hqx2 ?hyx2 hHeld ?restx2
    case hix2 => (simp only [List.getElem?_toArray, List.getElem?_cons_zero, List.getElem?_cons_succ]; rfl)
    case hqx2 => exact fun _ _ _ h => h
    case hyx2 => (refine Or.inl ⟨by rfl, ?_⟩; intro w' hSw; (try dsimp only at hSw); go_simp; try with_reducible rfl)
    (try simp only [Act.put, List.setIfInBounds_toArray, List.set_cons_zero, List.set_cons_succ])
    refine' wpAnyT_take (i := 3) (oi := ?oix3) (v := ?vx3) ?hix3 (by kernel_rfl) (by kernel_rfl) ?hqx3 ?hyx3 hHeld ?restx3
    case hix3 => (simp only [List.getElem?_toArray, List.getElem?_cons_zero, List.getElem?_cons_succ]; rfl)
    case hqx3 => exact fun _ _ _ h => h
    case hyx3 => (refine Or.inl ⟨by rfl, ?_⟩; intro w' hSw; (try dsimp only at hSw); go_simp; try with_reducible rfl)
    (try simp only [Act.put, List.setIfInBounds_toArray, List.set_cons_zero, List.set_cons_succ])
    refine' wpAnyT_take (i := 4) (oi := ?oix4) (v := ?vx4) ?hix4 (by kernel_rfl) (by kernel_rfl) ?hqx4 ?hyx4 hHeld ?restx4
    case hix4 => (simp only [List.getElem?_toArray, List.getElem?_cons_zero, List.getElem?_cons_succ]; rfl)
    case hqx4 => exact fun _ _ _ h => h
    case hyx4 => (refine Or.inl ⟨by rfl, ?_⟩; intro w' hSw; (try dsimp only at hSw); go_simp; try with_reducible rfl)
    (try simp only [Act.put, List.setIfInBounds_toArray, List.set_cons_zero, List.set_cons_succ])
    refine' wpAnyT_one (i := 1) (o := ?oix1) (by kernel_rfl) ?hix1 (fun K hK => ?stx1)
    case hix1 => (simp only [List.getElem?_toArray, List.getElem?_cons_zero, List.getElem?_cons_succ]; rfl)
    go_simp
    go_at_call 19
    (with_reducible refine (HMN.out X0).mono ?_)
    rintro _ X1 ⟨rfl, hb⟩
    have HB1 := hid (HB0.out.trans (hb.mono (Nat.le_of_lt (box_lt K0.out))))
    have hk1 := (hb.block _ (box_lt K0.out)).trans K0.out
    have K1' := hid hk1
    have hHeld := load4 hk1
    simp only at hHeld
    have hl := load4 hk1
    obtain ⟨u0, u1, u2, u3⟩ := hl
    clear hb hk1
    refine hK.out _ _ (fun _ => hHeld) ?_
    clear hK K
    (try simp only [Act.put, List.setIfInBounds_toArray, List.set_cons_zero, List.set_cons_succ])
    refine' wpAnyT_take (i := 5) (oi := ?oix5) (v := ?vx5) ?hix5 (by kernel_rfl) (by kernel_rfl) ?hqx5 ?hyx5 hHeld ?restx5
    case hix5 => (simp only [List.getElem?_toArray, List.getElem?_cons_zero, List.getElem?_cons_succ]; rfl)
    case hqx5 => exact fun _ _ _ h => h
    case hyx5 => (refine Or.inl ⟨by rfl, ?_⟩; intro w' hSw; (try dsimp only at hSw); go_simp; try with_reducible rfl)
    (try simp only [Act.put, List.setIfInBounds_toArray, List.set_cons_zero, List.set_cons_succ])
    refine' wpAnyT_take (i := 6) (oi := ?oix6) (v := ?vx6) ?hix6 (by kernel_rfl) (by kernel_rfl) ?hqx6 ?hyx6 hHeld ?restx6
    case hix6 => (simp only [List.getElem?_toArray, List.getElem?_cons_zero, List.getElem?_cons_succ]; rfl)
    case hqx6 => exact fun _ _ _ h => h
    case hyx6 => (refine Or.inl ⟨by rfl, ?_⟩; intro w' hSw; (try dsimp only at hSw); go_simp; try with_reducible rfl)
    (try simp only [Act.put, List.setIfInBounds_toArray, List.set_cons_zero, List.set_cons_succ])
    refine' wpAnyT_one (i := 7) (o := ?oix7) (by kernel_rfl) ?hix7 (fun K hK => ?stx7)
    case hix7 => (simp only [List.getElem?_toArray, List.getElem?_cons_zero, List.getElem?_cons_succ]; rfl)
    go_simp
    refine hK.out _ _ (fun h => absurd h (by decide)) ?_
    clear hK K
    (try simp only [Act.put, List.setIfInBounds_toArray, List.set_cons_zero, List.set_cons_succ])
    refine wpAnyT_done (by kernel_rfl) ?_ _
    go_wp2_with fail
    go_ret
    exact ⟨ret_i (by have := HT.out; omega), by rw [HG.out]; exact HB1.out⟩
  · have d1 : decide (0 < n) = false := decide_eq_false n0
    have hB64 : B = 64 := by rw [← hB]; unfold base; rw [if_neg (show ¬ 0 < (⟨n, s, v, b⟩ : Est).n from n0)]
    subst hB64
    clear ok0 ok HOK HC hs0 hv0 hB bd hge hlt hp
    subst c0
    go_enter Try.func17, Try.ntmps17
    go_upto_region 1 with fail
    rw [HW1.out, HG.out]
    go_wp2_with (go_at_call 13; (with_reducible refine HCK.out.mono ?_); rintro _ w3 ⟨rfl, hb⟩; have HB3 := hid (B1.out.trans (hb.mono (Nat.le_of_lt (box_lt K1.out)))); have h3 := (hb.block _ (box_lt K1.out)).trans K1.out; have K3 := hid h3; obtain ⟨u0, u1, u2, u3⟩ := load4 h3; have f3 := box_fr h3; clear hb h3)
    go_ret
    exact ⟨ret_i HT.out.symm, by rw [HG.out]; exact HB3.out⟩
theorem two_pow_pos (k : Nat) : (1 : Int) ≤ 2 ^ k := by
  induction k with
  | zero => decide
  | succ k ih => rw [Int.pow_succ]; omega
set_option maxHeartbeats 4000000 in
set_option maxRecDepth 100000 in
theorem rtimeout_any (e : Est) (w : World) : Calls Try.prog 18 #[ev e] w fun f w' => f = .returned (.int .i64 (tmo e)) ∧ Below w.heap.size w w' := by
  obtain ⟨g, hg⟩ : ∃ g, w.heap.size = g := ⟨_, rfl⟩
  obtain ⟨W1, hW1⟩ : ∃ X, w.alloc (.cells (cE e) 23) = X := ⟨_, rfl⟩
  have k1 : W1.heap[g]? = some (.cells (cE e) 23) := by rw [← hW1, ← hg]; exact heap_alloc_new w _
  have B1 : Hid (Below g w W1) := hid (by rw [← hW1, ← hg]; exact al1 w _)
  obtain ⟨x0, x1, x2, x3⟩ := load4 k1
  obtain ⟨c, hc⟩ : ∃ c, chk e = c := ⟨_, rfl⟩
  have HCK := hid (rcheck_any e W1)
  have HOK : Hid (c = 0 → chk e = 0) := hid (fun h => hc.trans h)
  rw [hc] at HCK
  have HC := hid hc
  have K1 := hid k1
  have HG := hid hg
  have HW1 := hid hW1
  clear k1 hg hW1 hc
  obtain ⟨n, s, v, b⟩ := e
  simp only [cE, ev] at HW1 HCK x0 x1 x2 x3 ⊢
  by_cases c0 : c = 0
  rotate_left
  · have d0 : (c != 0) = true := by simp [c0]
    have HR : Hid (tmo ⟨n, s, v, b⟩ = 0) := hid (by unfold tmo; rw [HC.out, if_neg c0])
    go_enter Try.func18, Try.ntmps18
    go_upto_region 1 with fail
    rw [HW1.out, HG.out]
    go_wp2_with (go_at_call 14; (with_reducible refine HCK.out.mono ?_); rintro _ w3 ⟨rfl, hb⟩; have HB3 := hid (B1.out.trans (hb.mono (Nat.le_of_lt (box_lt K1.out)))); have h3 := (hb.block _ (box_lt K1.out)).trans K1.out; have K3 := hid h3; obtain ⟨u0, u1, u2, u3⟩ := load4 h3; have f3 := box_fr h3; clear hb h3)
    go_ret
    exact ⟨ret_i HR.out.symm, by rw [HG.out]; exact HB3.out⟩
  have ok0 := HOK.out c0
  have ok := chk_ok ok0
  have bd := base_bd ok0
  have hb0 : 0 ≤ b ∧ b ≤ 12 := ok.2.2.2.1
  have hs0 : 0 ≤ s ∧ s ≤ 8589934592 := ok.2.1
  have hv0 : 0 ≤ v ∧ v ≤ 8589934592 := ok.2.2.1
  obtain ⟨B, hB⟩ : ∃ B, base ⟨n, s, v, b⟩ = B := ⟨_, rfl⟩
  rw [hB] at bd
  obtain ⟨bn, hbn⟩ : ∃ bn : Nat, (bn : Int) = b := ⟨b.toNat, by omega⟩
  have HT : Hid (tmo ⟨n, s, v, b⟩ = max (min (B * 2 ^ bn) 65536) B) := hid (by
    unfold tmo
    rw [if_pos ok0, hB]
    show min (B * 2 ^ b.toNat) (max B 65536) = _
    rw [show b.toNat = bn by omega]
    have h1 : (1 : Int) ≤ 2 ^ bn := two_pow_pos _
    have h2 : B * 1 ≤ B * 2 ^ bn := Int.mul_le_mul_of_nonneg_left h1 (by omega)
    generalize B * 2 ^ bn = z at h2 ⊢
    omega)
  have HPW : Hid (∀ k : Nat, k ≤ bn → 0 ≤ B * 2 ^ k ∧ B * 2 ^ k ≤ 9663676417 * 4096) := hid (fun k hk => by
    have h1 : (1 : Int) ≤ 2 ^ k := two_pow_pos _
    have h3 := (pow_b (b := k) (by omega) (by omega)).2
    rw [Int.toNat_natCast] at h3
    exact ⟨Int.mul_nonneg (by omega) (by omega), Int.mul_le_mul bd.2.1 h3 (by omega) (by decide)⟩)
  have LOOP : True := trivial
  by_cases n0 : 0 < n
  · have d1 : decide (0 < n) = true := decide_eq_true n0
    have HBA : Hid (B = max (s / 8 + v) (max 2 (s / 8 + 1))) := hid (by
      rw [← hB]; unfold base; rw [if_pos (show 0 < (⟨n, s, v, b⟩ : Est).n from n0)]
      show max (s / 8 + max v 1) 2 = _
      omega)
    have hq0 : s.tdiv 8 = s / 8 := td hs0.1
    have HS8 : Hid (0 ≤ s / 8 ∧ s / 8 ≤ 1073741824) := hid (by omega)
    obtain ⟨q, hq⟩ : ∃ q, s / 8 = q := ⟨_, rfl⟩
    rw [hq] at HBA HS8 hq0
    have hw0 : wrap64 q = q := w64 (by have := HS8.out; omega) (by have := HS8.out; omega)
    have hw1 : wrap64 (q + v) = q + v := w64 (by have := HS8.out; omega) (by have := HS8.out; omega)
    have hw2 : wrap64 (q + 1) = q + 1 := w64 (by have := HS8.out; omega) (by have := HS8.out; omega)
    have HB := hid bd
    have HBN := hid hbn
    have HBS := hid hb0
    clear ok0 ok HOK HC hs0 hv0 hB hq bd hb0 hbn
    subst c0
    go_enter Try.func18, Try.ntmps18
    go_upto_region 1 with fail
    rw [HW1.out, HG.out]
    go_wp2_with (go_at_call 14; (with_reducible refine HCK.out.mono ?_); rintro _ w3 ⟨rfl, hb⟩; have HB3 := hid (B1.out.trans (hb.mono (Nat.le_of_lt (box_lt K1.out)))); have h3 := (hb.block _ (box_lt K1.out)).trans K1.out; have K3 := hid h3; obtain ⟨u0, u1, u2, u3⟩ := load4 h3; have f3 := box_fr h3; clear hb h3)
    all_goals
      go_loop [4, 5] (fun o i => ∃ (k : Nat) (y : Int), k ≤ bn ∧ i = .int .i64 (k : Int) ∧ o = .int .i64 y ∧ Hid (y = B * 2 ^ k)) (fun _ i => bn - (RowKit.intOf i).toNat)
      case atStart => exact ⟨0, _, by omega, rfl, rfl, hid (by have := HBA.out; omega)⟩
      case round =>
        obtain ⟨k, y, hk, rfl, rfl, HY⟩ := hrel
        by_cases hlt : k < bn
        · have hd : decide ((k : Int) < b) = true := decide_eq_true (by have := HBN.out; omega)
          have HYN : Hid (0 ≤ 2 * y ∧ 2 * y ≤ 9663676417 * 4096 ∧ 2 * y = B * 2 ^ (k + 1)) := hid (by
            have h1 := HPW.out (k + 1) (by omega)
            have h2 := HY.out
            rw [Int.pow_succ] at h1 ⊢
            have e : B * (2 ^ k * 2) = 2 * (B * 2 ^ k) := by rw [← Int.mul_assoc, Int.mul_comm]
            rw [e, ← h2] at h1 ⊢
            exact ⟨h1.1, h1.2, rfl⟩)
          have hwy : wrap64 (2 * y) = 2 * y := w64 (by have := HYN.out; omega) (by have := HYN.out; omega)
          have hkb : k < 13 := by have := HBS.out; have := HBN.out; omega
          go_wp2_with fail
          go_round
          case rel => exact ⟨k + 1, _, by omega, by go_num, rfl, hid (hwy.trans HYN.out.2.2)⟩
          case measure => simp [RowKit.intOf]; omega
        · obtain rfl : k = bn := by omega
          have hd : decide ((k : Int) < b) = false := decide_eq_false (by have := HBN.out; omega)
          go_wp2_with fail
          go_ret
          exact ⟨ret_i (by have := HT.out; have := HY.out; have := HBA.out; omega), by rw [HG.out]; exact HB3.out⟩
  · have d1 : decide (0 < n) = false := decide_eq_false n0
    have HBA : Hid (B = 64) := hid (by rw [← hB]; unfold base; rw [if_neg (show ¬ 0 < (⟨n, s, v, b⟩ : Est).n from n0)])
    have HB := hid bd
    have HBN := hid hbn
    have HBS := hid hb0
    clear ok0 ok HOK HC hs0 hv0 hB bd hb0 hbn
    subst c0
    go_enter Try.func18, Try.ntmps18
    go_upto_region 1 with fail
    rw [HW1.out, HG.out]
    go_wp2_with (go_at_call 14; (with_reducible refine HCK.out.mono ?_); rintro _ w3 ⟨rfl, hb⟩; have HB3 := hid (B1.out.trans (hb.mono (Nat.le_of_lt (box_lt K1.out)))); have h3 := (hb.block _ (box_lt K1.out)).trans K1.out; have K3 := hid h3; obtain ⟨u0, u1, u2, u3⟩ := load4 h3; have f3 := box_fr h3; clear hb h3)
    go_loop [4, 5] (fun o i => ∃ (k : Nat) (y : Int), k ≤ bn ∧ i = .int .i64 (k : Int) ∧ o = .int .i64 y ∧ Hid (y = B * 2 ^ k)) (fun _ i => bn - (RowKit.intOf i).toNat)
    case atStart => exact ⟨0, _, by omega, rfl, rfl, hid (by have := HBA.out; omega)⟩
    case round =>
      obtain ⟨k, y, hk, rfl, rfl, HY⟩ := hrel
      by_cases hlt : k < bn
      · have hd : decide ((k : Int) < b) = true := decide_eq_true (by have := HBN.out; omega)
        have HYN : Hid (0 ≤ 2 * y ∧ 2 * y ≤ 9663676417 * 4096 ∧ 2 * y = B * 2 ^ (k + 1)) := hid (by
          have h1 := HPW.out (k + 1) (by omega)
          have h2 := HY.out
          rw [Int.pow_succ] at h1 ⊢
          have e : B * (2 ^ k * 2) = 2 * (B * 2 ^ k) := by rw [← Int.mul_assoc, Int.mul_comm]
          rw [e, ← h2] at h1 ⊢
          exact ⟨h1.1, h1.2, rfl⟩)
        have hwy : wrap64 (2 * y) = 2 * y := w64 (by have := HYN.out; omega) (by have := HYN.out; omega)
        have hkb : k < 13 := by have := HBS.out; have := HBN.out; omega
        go_wp2_with fail
        go_round
        case rel => exact ⟨k + 1, _, by omega, by go_num, rfl, hid (hwy.trans HYN.out.2.2)⟩
        case measure => simp [RowKit.intOf]; omega
      · obtain rfl : k = bn := by omega
        have hd : decide ((k : Int) < b) = false := decide_eq_false (by have := HBN.out; omega)
        go_wp2_with fail
        go_ret
        exact ⟨ret_i (by have := HT.out; have := HY.out; have := HBA.out; omega), by rw [HG.out]; exact HB3.out⟩
end Go.Proofs.Ytlbcidgmdfcamaa
