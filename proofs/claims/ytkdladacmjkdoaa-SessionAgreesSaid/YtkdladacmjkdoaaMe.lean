/- The law SessionAgrees walked. -/
import Derived.Test.YtkdladacmjkdoaaEd
import Derived.Test.YtkdladacmjkdoaaUa
namespace Go.Proofs.Ytkdladacmjkdoaa
open Go.RowKit Go.Lib
theorem size65 (w : World) : (sizeOf 65).run Try.prog w = .ok 1 w := by kernel_rfl
theorem eq_pair (x y : Int) (W : World) : (Op.equalIn 10000 66 (.agg #[.int .i8 x, .int .i8 y]) (.agg #[.int .i8 0, .int .i8 0])).run Try.prog W = .ok (x == 0 && y == 0) W := by
  show (Op.equalIn (9998 + 2) 66 (.agg #[.int .i8 x, .int .i8 y]) (.agg #[.int .i8 0, .int .i8 0])).run Try.prog W = _
  rw [Op.equalIn]
  simp only [Sem.run_bind, run_underlying Try.underlying66, Result.andThen_ok, size65, Std.Legacy.Range.forIn_eq_forIn_range', Std.Legacy.Range.size, Nat.sub_zero, Nat.add_sub_cancel, Nat.div_one]
  have px : ∀ (i : Nat) (a b : Int), i < 2 → (part 65 #[.int .i8 a, .int .i8 b] (i * 1)).run Try.prog W = .ok (.int .i8 (if i = 0 then a else b)) W := by
    intro i a b hi
    match i, hi with
    | 0, _ => simp [part, isAgg, run_underlying Try.underlying65]
    | 1, _ => simp [part, isAgg, run_underlying Try.underlying65]
  have pe : ∀ (a b : Int), (Op.equalIn (9998 + 1) 65 (.int .i8 a) (.int .i8 b)).run Try.prog W = .ok (a == b) W := fun a b => run_equalIn_int W 9998 65 .i8 .i8 a b Try.underlying65
  have e : List.range' 0 2 1 = [0, 1] := rfl
  rw [e]
  have p0 : ∀ (a b : Int), (part 65 #[.int .i8 a, .int .i8 b] (0 * 1)).run Try.prog W = .ok (.int .i8 a) W := fun a b => px 0 a b (by decide)
  have p1 : ∀ (a b : Int), (part 65 #[.int .i8 a, .int .i8 b] (1 * 1)).run Try.prog W = .ok (.int .i8 b) W := fun a b => px 1 a b (by decide)
  simp only [List.forIn_cons, Sem.run_bind, p0, pe, Result.andThen_ok]
  cases hx : (x == 0)
  · simp
  · simp only [Bool.not_true, Bool.false_eq_true, if_false, Sem.run_pure, Result.andThen_ok, Bool.true_and, Sem.run_bind, p1, pe]
    cases hy : (y == 0)
    · simp
    · simp
set_option maxHeartbeats 16000000 in
set_option maxRecDepth 100000 in
theorem agrees_walk (e0 e1 n0 n1 : Int) (v : Value) (l : List Sp) (m0 m1 : Int) (w : World) (hst : (0 ≤ e0 ∧ e0 ≤ 255) ∧ (0 ≤ e1 ∧ e1 ≤ 255) ∧ (0 ≤ n0 ∧ n0 ≤ 255) ∧ (0 ≤ n1 ∧ n1 ≤ 255)) (hv : Sps w v l) (hm : (-128 ≤ m0 ∧ m0 ≤ 127) ∧ (-128 ≤ m1 ∧ m1 ≤ 127)) :
    Calls Try.prog 9 #[.agg #[.int .u8 e0, .int .u8 e1, .int .u8 n0, .int .u8 n1], v, .agg #[.int .i8 m0, .int .i8 m1]] w (TrueQ w) := by
  obtain ⟨A, c, rfl, hlm⟩ := sps_form hv
  obtain ⟨N, hN⟩ : ∃ N, l.length = N := ⟨_, rfl⟩
  obtain ⟨g0, hg0⟩ : ∃ g, w.heap.size = g := ⟨_, rfl⟩
  have HG0 := hid hg0
  have HV : Hid (∀ X, Below g0 w X → Sps X (.slice A N c) l) := hid (fun X hX => by rw [← hN]; rw [← hg0] at hX; exact hv.below hX)
  have HLN := hid hN
  obtain ⟨W0, hW⟩ : ∃ X, (w.alloc (.cells #[.int .u8 e0, .int .u8 e1, .int .u8 n0, .int .u8 n1] 52)).alloc (.cells #[.int .i8 m0, .int .i8 m1] 66) = X := ⟨_, rfl⟩
  have km : W0.heap[g0 + 1]? = some (.cells #[.int .i8 m0, .int .i8 m1] 66) := by rw [← hW, ← hg0]; exact new_two w _ _
  have ks : W0.heap[g0]? = some (.cells #[.int .u8 e0, .int .u8 e1, .int .u8 n0, .int .u8 n1] 52) := by rw [← hW, ← hg0]; exact old_al2 (heap_alloc_new w _) _
  have HB : Hid (Below g0 w W0) := hid (by rw [← hW, ← hg0]; exact below_both (al1 w _) (al1 _ _))
  have HSN : Hid (g0 ≤ W0.heap.size) := hid (Nat.le_of_lt (box_lt ks))
  obtain ⟨gm, hgm⟩ : ∃ x, g0 + 1 = x := ⟨_, rfl⟩
  have HGM := hid hgm
  rw [hgm] at km
  have HKm := hid km
  have s0 : W0.cell? ⟨g0, 0, none⟩ = some (.int .u8 e0) := cell_of_row _ _ 0 _ _ _ ks
  have s1 : W0.cell? ⟨g0, 1, none⟩ = some (.int .u8 e1) := cell_of_row _ _ 1 _ _ _ ks
  have s2 : W0.cell? ⟨g0, 2, none⟩ = some (.int .u8 n0) := cell_of_row _ _ 2 _ _ _ ks
  have s3 : W0.cell? ⟨g0, 3, none⟩ = some (.int .u8 n1) := cell_of_row _ _ 3 _ _ _ ks
  have HEN := hid (fun W => ends_any e0 e1 n0 n1 W hst.1 hst.2.1 hst.2.2.1 hst.2.2.2)
  have HC1 : Hid (chk ⟨0, 1, e0 % 4, n0 % 6, 0, 0⟩ = 0) := hid (chk_end 0 1 (e0 % 4) (n0 % 6) (by decide) (by decide) (by decide) (by omega) (by omega))
  have HC2 : Hid (chk ⟨1, 0, e1 % 4, n1 % 6, 0, 0⟩ = 0) := hid (chk_end 1 0 (e1 % 4) (n1 % 6) (by decide) (by decide) (by decide) (by omega) (by omega))
  obtain ⟨E0, hE0⟩ : ∃ x, e0 % 4 = x := ⟨_, rfl⟩
  obtain ⟨E1, hE1⟩ : ∃ x, e1 % 4 = x := ⟨_, rfl⟩
  obtain ⟨N0, hN0⟩ : ∃ x, n0 % 6 = x := ⟨_, rfl⟩
  obtain ⟨N1, hN1⟩ : ∃ x, n1 % 6 = x := ⟨_, rfl⟩
  simp only [hE0, hE1, hN0, hN1, tv] at HEN HC1 HC2
  rw [hN] at hlm ⊢
  have HWW := hid hW
  clear hv hN hg0 hW km ks hgm hst hE0 hE1 hN0 hN1
  by_cases big : 60 < N
  · have d0 : decide (60 < N) = true := decide_eq_true big
    have d1 : decide ((60 : Int) < (N : Int)) = true := decide_eq_true (by omega)
    go_enter Try.func9, Try.ntmps9
    go_upto_region 1 with fail
    rw [HWW.out, HG0.out, HGM.out]
    go_wp2_with (go_at_call 12; (with_reducible refine (awake_any _).mono ?_); rintro _ w8 ⟨rfl, hb⟩; have HBA := hid hb; clear hb)
    go_ret
    exact ⟨rfl, by rw [HG0.out]; exact HB.out.trans (HBA.out.mono HSN.out)⟩
  have d0 : decide (60 < N) = false := decide_eq_false big
  have d1 : decide ((60 : Int) < (N : Int)) = false := decide_eq_false (by omega)
  go_enter Try.func9, Try.ntmps9
  go_upto_region 1 with fail
  rw [HWW.out, HG0.out, HGM.out]
  clear HWW
  go_upto_region 4 with (go_at_call 26; (with_reducible refine (HEN.out _).mono ?_); rintro _ wn ⟨rfl, hb⟩; have km := (hb.block _ (box_lt HKm.out)).trans HKm.out; have HKm := hid km; have HB := hid (HB.out.trans (hb.mono HSN.out)); have HSN := hid (Nat.le_trans HSN.out hb.size); clear hb km)
  obtain ⟨gt, hgt⟩ : ∃ h, wn.heap.size = h := ⟨_, rfl⟩
  obtain ⟨W1, hW⟩ : ∃ X, wn.alloc (.cells (cT ⟨0, 1, E0, N0, 0, 0⟩ ⟨1, 0, E1, N1, 0, 0⟩) 54) = X := ⟨_, rfl⟩
  have kt : W1.heap[gt]? = some (.cells (cT ⟨0, 1, E0, N0, 0, 0⟩ ⟨1, 0, E1, N1, 0, 0⟩) 54) := by rw [← hW, ← hgt]; exact heap_alloc_new _ _
  have HLT : Hid (g0 ≤ gt) := hid (by rw [← hgt]; exact HSN.out)
  have HKm := hid (show W1.heap[gm]? = some (.cells #[.int .i8 m0, .int .i8 m1] 66) by rw [← hW]; exact old_al2 HKm.out _)
  have HB := hid (show Below g0 w W1 by rw [← hW]; exact HB.out.alloc HSN.out _)
  have HKt := hid kt
  have HGT := hid hgt
  simp only [cT] at hW
  have HWW := hid hW
  clear hgt hW kt s0 s1 s2 s3
  rw [HGT.out, HWW.out]
  clear HWW
  go_upto_region 8 with fail
  go_loopw [9, 10] (fun sv iv wr => ∃ (k : Nat) (a b : Ses) (sent : List Mes) (A : Option Addr) (ns c : Nat), k ≤ N ∧ iv = .int .i64 (k : Int) ∧ sv = .slice A ns c ∧ Hid (sent.length = ns ∧ ns ≤ k) ∧ Hid (wr.ownsRow g0 47 8 (.slice A ns c) ns (sent.map cM).flatten) ∧ Hid (chk a = 0 ∧ chk b = 0) ∧ Hid (wr.heap[gt]? = some (.cells (cT a b) 54)) ∧ Hid (wr.heap[gm]? = some (.cells #[.int .i8 m0, .int .i8 m1] 66)) ∧ Hid (Below g0 w wr)) (fun _ iv _ => N - (RowKit.intOf iv).toNat)
  case atStart => exact ⟨0, _, _, [], none, 0, 0, by omega, rfl, rfl, hid ⟨rfl, by omega⟩, hid (World.ownsRow_nil _ _ _ _), hid ⟨HC1.out, HC2.out⟩, HKt, HKm, HB⟩
  case round =>
    clear HKt HKm HB
    obtain ⟨k, a, b, sent, As, ns, cs, hk, rfl, rfl, HNS, HOW, HCK, HKt, HKm, HB⟩ := hrel
    obtain ⟨al, ar, ae, an, ap, ad⟩ := a
    obtain ⟨bl, br, be, bn, bp, bd⟩ := b
    have HSZ : Hid (g0 ≤ wr.heap.size) := hid (by have := box_lt HKt.out; have := HLT.out; omega)
    by_cases hlt : k < N
    · have hlt' : decide ((k : Int) < (N : Int)) = true := decide_eq_true (by omega)
      obtain ⟨⟨kd, ot, wh⟩, hx⟩ : ∃ x, l[k]? = some x := ⟨l[k]'(by rw [HLN.out]; exact hlt), List.getElem?_eq_getElem _⟩
      obtain ⟨b, off, rfl, hbl, hok, hc0, hc1, hc2⟩ := sps_at (HV.out wr HB.out) hx
      have HSP : Hid (b < g0 ∧ ∀ X, Below g0 w X → X.cell? ⟨b, off + k * 3, none⟩ = some (.int .u8 kd) ∧ X.cell? ⟨b, off + k * 3 + 1, none⟩ = some (.bool ot) ∧ X.cell? ⟨b, off + k * 3 + 2, none⟩ = some (.int .u8 wh)) := hid ⟨by
        obtain ⟨b', off', e, hb', _⟩ := sps_at (HV.out w (Below.refl _ _)) hx
        injection e with e
        injection e with e
        rw [HG0.out] at hb'
        omega, fun X hX => by
        obtain ⟨b', off', e, _, _, x0, x1, x2⟩ := sps_at (HV.out X hX) hx
        injection e with e
        injection e with e1 e2
        subst e1 e2
        exact ⟨x0, x1, x2⟩⟩
      simp only at hc0 hc1 hc2
      obtain ⟨⟨a0', a1', a2', a3', a4', a5'⟩, ⟨b0', b1', b2', b3', b4', b5'⟩, sn, hR⟩ : ∃ a b s, stpR ⟨al, ar, ae, an, ap, ad⟩ ⟨bl, br, be, bn, bp, bd⟩ sent (kd % 7) ot wh (k : Int) = (a, b, s) := ⟨_, _, _, rfl⟩
      obtain ⟨o1, o2, o3⟩ := stpR_ok (sent := sent) (q := kd % 7) (wh := wh) (ot := ot) HCK.out.1 HCK.out.2 (now := (k : Int)) (by omega)
      rw [hR] at o1 o2 o3
      have HO := hid (show chk ⟨a0', a1', a2', a3', a4', a5'⟩ = 0 ∧ chk ⟨b0', b1', b2', b3', b4', b5'⟩ = 0 ∧ sn.length ≤ ns + 1 from ⟨o1, o2, by have := HNS.out.1; have h : sn.length ≤ sent.length + 1 := o3; omega⟩)
      obtain ⟨X0, hX0⟩ : ∃ X, wr.drew = X := ⟨_, rfl⟩
      have hb0 : Below g0 w X0 := by rw [← hX0]; exact below_drew HB.out
      have kt : X0.heap[gt]? = some (.cells (cT ⟨al, ar, ae, an, ap, ad⟩ ⟨bl, br, be, bn, bp, bd⟩) 54) := by rw [← hX0]; exact HKt.out
      have km : X0.heap[gm]? = some (.cells #[.int .i8 m0, .int .i8 m1] 66) := by rw [← hX0]; exact HKm.out
      have hs0 : g0 ≤ X0.heap.size := by rw [← hX0]; exact HSZ.out
      have how : X0.ownsRow g0 47 8 (.slice As ns cs) ns (sent.map cM).flatten := by rw [← hX0]; exact own_keep HOW.out (fun _ _ h => h)
      have hst := step_any ⟨al, ar, ae, an, ap, ad⟩ ⟨bl, br, be, bn, bp, bd⟩ sent (.slice As ns cs) kd wh ot (k : Int) g0 ns X0 hs0 HNS.out.1 (by have := HNS.out.2; omega) how hok.1 hok.2 (by omega)
      rw [hR] at hst
      have HST : Hid (Calls Try.prog 27 #[.agg #[.int .i64 al, .int .i64 ar, .int .i64 ae, .int .i64 an, .int .i64 ap, .int .i64 ad, .int .i64 bl, .int .i64 br, .int .i64 be, .int .i64 bn, .int .i64 bp, .int .i64 bd], .slice As ns cs, .agg #[.int .u8 kd, .bool ot, .int .u8 wh], .int .i64 (k : Int)] X0 fun f w' => ∃ v, f = .returned (.tuple #[.agg #[.int .i64 a0', .int .i64 a1', .int .i64 a2', .int .i64 a3', .int .i64 a4', .int .i64 a5', .int .i64 b0', .int .i64 b1', .int .i64 b2', .int .i64 b3', .int .i64 b4', .int .i64 b5'], v]) ∧ w'.ownsRow g0 47 8 v sn.length (sn.map cM).flatten ∧ Below g0 X0 w' ∧ ∀ T, T ≠ 47 → Keep T X0 w') := hid hst
      have hHeld := HSP.out.2 X0 hb0
      have HB0 := hid hb0
      have J1 := hid kt
      have J2 := hid km
      have HX0 := hid hX0
      have hin' : (k : Int) < (N : Int) := by omega
      have HHN := hid hlt
      clear hx hbl hok hR o1 o2 o3 hst hX0 hb0 km hs0 how
      go_upto_region 10 with fail
      obtain ⟨⟨t0, t1, t2, t3, t4, t5⟩, t6, t7, t8, t9, t10, t11⟩ := load12 kt
      simp only at t0 t1 t2 t3 t4 t5 t6 t7 t8 t9 t10 t11
      clear kt hc0 hc1 hc2
      refine region_tail 12 (fun X => X.cell? ⟨b, off + k * 3, none⟩ = some (.int .u8 kd) ∧ X.cell? ⟨b, off + k * 3 + 1, none⟩ = some (.bool ot) ∧ X.cell? ⟨b, off + k * 3 + 2, none⟩ = some (.int .u8 wh)) (by kernel_rfl) ?_
      rw [HX0.out]
      refine' wpAnyT_take (i := 1) (oi := ?oix1) (v := ?vx1) ?hix1 (by kernel_rfl) (by kernel_rfl) ?hqx1 ?hyx1 hHeld ?restx1
      case hix1 => (simp only [List.getElem?_toArray, List.getElem?_cons_zero, List.getElem?_cons_succ]; rfl)
      case hqx1 => exact fun _ _ _ h => h
      case hyx1 => (refine Or.inl ⟨by rfl, ?_⟩; intro w' hSw; (try dsimp only at hSw); go_simp; try with_reducible rfl)
      (try simp only [Act.put, List.setIfInBounds_toArray, List.set_cons_zero, List.set_cons_succ])
      refine' wpAnyT_take (i := 2) (oi := ?oix2) (v := ?vx2) ?hix2 (by kernel_rfl) (by kernel_rfl) ?hqx2 ?hyx2 hHeld ?restx2
      case hix2 => (simp only [List.getElem?_toArray, List.getElem?_cons_zero, List.getElem?_cons_succ]; rfl)
      case hqx2 => exact fun _ _ _ h => h
      case hyx2 => (refine Or.inl ⟨by rfl, ?_⟩; intro w' hSw; (try dsimp only at hSw); go_simp; try with_reducible rfl)
      (try simp only [Act.put, List.setIfInBounds_toArray, List.set_cons_zero, List.set_cons_succ])
      refine' wpAnyT_take (i := 3) (oi := ?oix3) (v := ?vx3) ?hix3 (by kernel_rfl) (by kernel_rfl) ?hqx3 ?hyx3 hHeld ?restx3
      case hix3 => (simp only [List.getElem?_toArray, List.getElem?_cons_zero, List.getElem?_cons_succ]; rfl)
      case hqx3 => exact fun _ _ _ h => h
      case hyx3 => (refine Or.inl ⟨by rfl, ?_⟩; intro w' hSw; (try dsimp only at hSw); go_simp; try with_reducible rfl)
      (try simp only [Act.put, List.setIfInBounds_toArray, List.set_cons_zero, List.set_cons_succ])
      refine' wpAnyT_take (i := 4) (oi := ?oix4) (v := ?vx4) ?hix4 (by kernel_rfl) (by kernel_rfl) ?hqx4 ?hyx4 hHeld ?restx4
      case hix4 => (simp only [List.getElem?_toArray, List.getElem?_cons_zero, List.getElem?_cons_succ]; rfl)
      case hqx4 => exact fun _ _ _ h => h
      case hyx4 => (refine Or.inl ⟨by rfl, ?_⟩; intro w' hSw; (try dsimp only at hSw); go_simp; try with_reducible rfl)
      (try simp only [Act.put, List.setIfInBounds_toArray, List.set_cons_zero, List.set_cons_succ])
      refine' wpAnyT_take (i := 5) (oi := ?oix5) (v := ?vx5) ?hix5 (by kernel_rfl) (by kernel_rfl) ?hqx5 ?hyx5 hHeld ?restx5
      case hix5 => (simp only [List.getElem?_toArray, List.getElem?_cons_zero, List.getElem?_cons_succ]; rfl)
      case hqx5 => exact fun _ _ _ h => h
      case hyx5 => (refine Or.inl ⟨by rfl, ?_⟩; intro w' hSw; (try dsimp only at hSw); go_simp; try with_reducible rfl)
      (try simp only [Act.put, List.setIfInBounds_toArray, List.set_cons_zero, List.set_cons_succ])
      refine' wpAnyT_take (i := 6) (oi := ?oix6) (v := ?vx6) ?hix6 (by kernel_rfl) (by kernel_rfl) ?hqx6 ?hyx6 hHeld ?restx6
      case hix6 => (simp only [List.getElem?_toArray, List.getElem?_cons_zero, List.getElem?_cons_succ]; rfl)
      case hqx6 => exact fun _ _ _ h => h
      case hyx6 => (refine Or.inl ⟨by rfl, ?_⟩; intro w' hSw; (try dsimp only at hSw); go_simp; try with_reducible rfl)
      (try simp only [Act.put, List.setIfInBounds_toArray, List.set_cons_zero, List.set_cons_succ])
      refine' wpAnyT_one (i := 0) (o := ?oix0) (by kernel_rfl) ?hix0 (fun K hK => ?stx0)
      case hix0 => (simp only [List.getElem?_toArray, List.getElem?_cons_zero]; rfl)
      go_simp
      refine hK.out _ _ (fun _ => hHeld) ?_
      clear hK K
      (try simp only [Act.put, List.setIfInBounds_toArray, List.set_cons_zero, List.set_cons_succ])
      refine' wpAnyT_one (i := 7) (o := ?oix7) (by kernel_rfl) ?hix7 (fun K hK => ?stx7)
      case hix7 => (simp only [List.getElem?_toArray, List.getElem?_cons_zero, List.getElem?_cons_succ]; rfl)
      go_simp
      go_at_call 27
      (with_reducible refine HST.out.mono ?_)
      rintro _ wn ⟨v9, rfl, hown, hbw, hkp⟩
      obtain ⟨A9, c9, rfl⟩ := ownAny_form hown
      have HOWn := hid hown
      have HBn := hid (HB0.out.trans hbw)
      have HJ1 := hid (hkp 54 (by decide) _ _ J1.out)
      have HJ2 := hid (hkp 66 (by decide) _ _ J2.out)
      have hHeld := HSP.out.2 wn HBn.out
      clear hown hbw hkp t0 t1 t2 t3 t4 t5 t6 t7 t8 t9 t10 t11
      refine hK.out _ _ (fun _ => hHeld) ?_
      clear hK K
      (try simp only [Act.put, List.setIfInBounds_toArray, List.set_cons_zero, List.set_cons_succ])
      refine' wpAnyT_take (i := 8) (oi := ?oix8) (v := ?vx8) ?hix8 (by kernel_rfl) (by kernel_rfl) ?hqx8 ?hyx8 hHeld ?restx8
      case hix8 => (simp only [List.getElem?_toArray, List.getElem?_cons_zero, List.getElem?_cons_succ]; rfl)
      case hqx8 => exact fun _ _ _ h => h
      case hyx8 => (refine Or.inl ⟨by rfl, ?_⟩; intro w' hSw; (try dsimp only at hSw); go_simp; try with_reducible rfl)
      (try simp only [Act.put, List.setIfInBounds_toArray, List.set_cons_zero, List.set_cons_succ])
      refine' wpAnyT_take (i := 9) (oi := ?oix9) (v := ?vx9) ?hix9 (by kernel_rfl) (by kernel_rfl) ?hqx9 ?hyx9 hHeld ?restx9
      case hix9 => (simp only [List.getElem?_toArray, List.getElem?_cons_zero, List.getElem?_cons_succ]; rfl)
      case hqx9 => exact fun _ _ _ h => h
      case hyx9 => (refine Or.inl ⟨by rfl, ?_⟩; intro w' hSw; (try dsimp only at hSw); go_simp; try with_reducible rfl)
      (try simp only [Act.put, List.setIfInBounds_toArray, List.set_cons_zero, List.set_cons_succ])
      refine' wpAnyT_take (i := 10) (oi := ?oix10) (v := ?vx10) ?hix10 (by kernel_rfl) (by kernel_rfl) ?hqx10 ?hyx10 hHeld ?restx10
      case hix10 => (simp only [List.getElem?_toArray, List.getElem?_cons_zero, List.getElem?_cons_succ]; rfl)
      case hqx10 => exact fun _ _ _ h => h
      case hyx10 => (refine Or.inl ⟨by rfl, ?_⟩; intro w' hSw; (try dsimp only at hSw); go_simp; try with_reducible rfl)
      (try simp only [Act.put, List.setIfInBounds_toArray, List.set_cons_zero, List.set_cons_succ])
      refine' wpAnyT_one (i := 11) (o := ?oix11) (by kernel_rfl) ?hix11 (fun K hK => ?stx11)
      case hix11 => (simp only [List.getElem?_toArray, List.getElem?_cons_zero, List.getElem?_cons_succ]; rfl)
      obtain ⟨⟨t0, t1, t2, t3, t4, t5⟩, t6, t7, t8, t9, t10, t11⟩ := load12 HJ1.out
      simp only at t0 t1 t2 t3 t4 t5 t6 t7 t8 t9 t10 t11
      have ft := box_fr HJ1.out
      go_simp
      obtain ⟨Wt, hWt⟩ : ∃ X, set12 wn gt ⟨a0', a1', a2', a3', a4', a5'⟩ ⟨b0', b1', b2', b3', b4', b5'⟩ = X := ⟨_, rfl⟩
      have HOWt := hid (show Wt.ownsRow g0 47 8 (.slice A9 sn.length c9) sn.length (sn.map cM).flatten by rw [← hWt]; exact own_keep HOWn.out (keepT_set12 _ _ HJ1.out (by decide)))
      have HKtt := hid (show Wt.heap[gt]? = some (.cells (cT ⟨a0', a1', a2', a3', a4', a5'⟩ ⟨b0', b1', b2', b3', b4', b5'⟩) 54) by rw [← hWt]; exact set12h _ _ HJ1.out)
      have HKmt := hid (show Wt.heap[gm]? = some (.cells #[.int .i8 m0, .int .i8 m1] 66) by rw [← hWt]; exact keepT_set12 _ _ HJ1.out (by decide) _ _ HJ2.out)
      have HBt := hid (show Below g0 w Wt by rw [← hWt]; exact set12b _ _ HBn.out HLT.out)
      clear hHeld
      have hHeld := HSP.out.2 Wt HBt.out
      simp only [set12, set6] at hWt
      rw [hWt]
      clear hWt t0 t1 t2 t3 t4 t5 t6 t7 t8 t9 t10 t11 ft
      refine hK.out _ _ (fun _ => hHeld) ?_
      clear hK K
      (try simp only [Act.put, List.setIfInBounds_toArray, List.set_cons_zero, List.set_cons_succ])
      refine' wpAnyT_one (i := 12) (o := ?oix12) (by kernel_rfl) ?hix12 (fun K hK => ?stx12)
      case hix12 => (simp only [List.getElem?_toArray, List.getElem?_cons_zero, List.getElem?_cons_succ]; rfl)
      go_simp
      refine hK.out _ _ (fun h => absurd h (by decide)) ?_
      clear hK K
      (try simp only [Act.put, List.setIfInBounds_toArray, List.set_cons_zero, List.set_cons_succ])
      refine wpAnyT_done (by kernel_rfl) ?_ _
      go_wp2_with fail
      go_roundw
      case rel => exact ⟨k + 1, _, _, sn, _, _, _, by have := HHN.out; omega, by go_num, rfl, hid ⟨rfl, by have := HO.out.2.2; have := HNS.out.2; omega⟩, HOWt, hid ⟨HO.out.1, HO.out.2.1⟩, HKtt, HKmt, HBt⟩
      case measure => simp [RowKit.intOf]; have := HHN.out; omega
    · obtain rfl : k = N := by omega
      have hlt' : decide ((k : Int) < (k : Int)) = false := decide_eq_false (by omega)
      go_upto_region 12 with fail
      obtain ⟨wo, hwo⟩ : ∃ x, x = wr := ⟨_, rfl⟩
      subst hwo
      go_loopw [11] (fun jv wq => ∃ j : Nat, j ≤ 2 ∧ jv = .int .i64 (j : Int) ∧ Hid (Below wo.heap.size wo wq)) (fun jv _ => 2 - (RowKit.intOf jv).toNat)
      case atStart => exact ⟨0, by omega, rfl, hid (Below.refl _ _)⟩
      case round =>
        obtain ⟨j, hj, rfl, HBQ⟩ := hrel
        have HK2 : Hid (∀ X, Below wo.heap.size wo X → X.cell? ⟨gt, 0, none⟩ = some (.int .i64 al) ∧ X.cell? ⟨gt, 1, none⟩ = some (.int .i64 ar) ∧ X.cell? ⟨gt, 2, none⟩ = some (.int .i64 ae) ∧ X.cell? ⟨gt, 3, none⟩ = some (.int .i64 an) ∧ X.cell? ⟨gt, 4, none⟩ = some (.int .i64 ap) ∧ X.cell? ⟨gt, 5, none⟩ = some (.int .i64 ad) ∧ X.cell? ⟨gt, 6, none⟩ = some (.int .i64 bl) ∧ X.cell? ⟨gt, 7, none⟩ = some (.int .i64 br) ∧ X.cell? ⟨gt, 8, none⟩ = some (.int .i64 be) ∧ X.cell? ⟨gt, 9, none⟩ = some (.int .i64 bn) ∧ X.cell? ⟨gt, 10, none⟩ = some (.int .i64 bp) ∧ X.cell? ⟨gt, 11, none⟩ = some (.int .i64 bd) ∧ X.cell? ⟨gm, 0, none⟩ = some (.int .i8 m0) ∧ X.cell? ⟨gm, 1, none⟩ = some (.int .i8 m1)) := hid (fun X hX => by
          obtain ⟨⟨b0, b1, b2, b3, b4, b5⟩, b6, b7, b8, b9, b10, b11⟩ := load12 ((hX.block _ (box_lt HKt.out)).trans HKt.out)
          have hkm := (hX.block _ (box_lt HKm.out)).trans HKm.out
          exact ⟨b0, b1, b2, b3, b4, b5, b6, b7, b8, b9, b10, b11, cell_of_row _ _ 0 _ _ _ hkm, cell_of_row _ _ 1 _ _ _ hkm⟩)
        have oa := chk_ok HCK.out.1
        have ob := chk_ok HCK.out.2
        simp only at oa ob
        have z0 : IntKind.i64.wrap m0 = m0 := by rw [IntKind.wrap_i64]; omega
        have z1 : IntKind.i64.wrap m1 = m1 := by rw [IntKind.wrap_i64]; omega
        have z2 : IntKind.i64.wrap (an + m0) = an + m0 := by rw [IntKind.wrap_i64]; omega
        have z3 : IntKind.i64.wrap (ae + m1) = ae + m1 := by rw [IntKind.wrap_i64]; omega
        have z4 : IntKind.i64.wrap (bn + m0) = bn + m0 := by rw [IntKind.wrap_i64]; omega
        have z5 : IntKind.i64.wrap (be + m1) = be + m1 := by rw [IntKind.wrap_i64]; omega
        clear oa ob
        rcases (show j = 0 ∨ j = 1 ∨ j = 2 by omega) with h0 | h0 | h0
        · subst h0
          have HAC := hid (fun W => accepts_any ⟨al, ar, ae, an, ap, ad⟩ (an + m0) (ae + m1) W)
          have hac := acc_own (x := m0) (y := m1) HCK.out.1
          simp only at hac
          obtain ⟨ac, hac'⟩ : ∃ z, accR ⟨al, ar, ae, an, ap, ad⟩ (an + m0) (ae + m1) = z := ⟨_, rfl⟩
          rw [hac'] at HAC hac
          simp only [sv] at HAC
          have HACQ := hid hac
          clear hac hac'
          go_upto_region 14 with fail
          obtain ⟨X0, hX0⟩ : ∃ X, wr.drew = X := ⟨_, rfl⟩
          have HBX := hid (show Below wo.heap.size wo X0 by rw [← hX0]; exact below_drew HBQ.out)
          have hHeld := HK2.out X0 HBX.out
          have HX0 := hid hX0
          clear hX0
          refine region_tail 20 (fun X => X.cell? ⟨gt, 0, none⟩ = some (.int .i64 al) ∧ X.cell? ⟨gt, 1, none⟩ = some (.int .i64 ar) ∧ X.cell? ⟨gt, 2, none⟩ = some (.int .i64 ae) ∧ X.cell? ⟨gt, 3, none⟩ = some (.int .i64 an) ∧ X.cell? ⟨gt, 4, none⟩ = some (.int .i64 ap) ∧ X.cell? ⟨gt, 5, none⟩ = some (.int .i64 ad) ∧ X.cell? ⟨gt, 6, none⟩ = some (.int .i64 bl) ∧ X.cell? ⟨gt, 7, none⟩ = some (.int .i64 br) ∧ X.cell? ⟨gt, 8, none⟩ = some (.int .i64 be) ∧ X.cell? ⟨gt, 9, none⟩ = some (.int .i64 bn) ∧ X.cell? ⟨gt, 10, none⟩ = some (.int .i64 bp) ∧ X.cell? ⟨gt, 11, none⟩ = some (.int .i64 bd) ∧ X.cell? ⟨gm, 0, none⟩ = some (.int .i8 m0) ∧ X.cell? ⟨gm, 1, none⟩ = some (.int .i8 m1)) (by kernel_rfl) ?_
          rw [HX0.out]
          refine' wpAnyT_take (i := 0) (oi := ?oiy00) (v := ?vy00) ?hiy00 (by kernel_rfl) (by kernel_rfl) ?hqy00 ?hyy00 hHeld ?resty00
          case hiy00 => (simp only [List.getElem?_toArray, List.getElem?_cons_zero]; rfl)
          case hqy00 => exact fun _ _ _ h => h
          case hyy00 => (refine Or.inl ⟨by rfl, ?_⟩; intro w' hSw; (try dsimp only at hSw); go_simp; try with_reducible rfl)
          (try simp only [Act.put, List.setIfInBounds_toArray, List.set_cons_zero, List.set_cons_succ])
          refine' wpAnyT_take (i := 1) (oi := ?oiy01) (v := ?vy01) ?hiy01 (by kernel_rfl) (by kernel_rfl) ?hqy01 ?hyy01 hHeld ?resty01
          case hiy01 => (simp only [List.getElem?_toArray, List.getElem?_cons_zero, List.getElem?_cons_succ]; rfl)
          case hqy01 => exact fun _ _ _ h => h
          case hyy01 => (refine Or.inl ⟨by rfl, ?_⟩; intro w' hSw; (try dsimp only at hSw); go_simp; try with_reducible rfl)
          (try simp only [Act.put, List.setIfInBounds_toArray, List.set_cons_zero, List.set_cons_succ])
          refine' wpAnyT_take (i := 2) (oi := ?oiy02) (v := ?vy02) ?hiy02 (by kernel_rfl) (by kernel_rfl) ?hqy02 ?hyy02 hHeld ?resty02
          case hiy02 => (simp only [List.getElem?_toArray, List.getElem?_cons_zero, List.getElem?_cons_succ]; rfl)
          case hqy02 => exact fun _ _ _ h => h
          case hyy02 => (refine Or.inl ⟨by rfl, ?_⟩; intro w' hSw; (try dsimp only at hSw); go_simp; try with_reducible rfl)
          (try simp only [Act.put, List.setIfInBounds_toArray, List.set_cons_zero, List.set_cons_succ])
          refine' wpAnyT_take (i := 3) (oi := ?oiy03) (v := ?vy03) ?hiy03 (by kernel_rfl) (by kernel_rfl) ?hqy03 ?hyy03 hHeld ?resty03
          case hiy03 => (simp only [List.getElem?_toArray, List.getElem?_cons_zero, List.getElem?_cons_succ]; rfl)
          case hqy03 => exact fun _ _ _ h => h
          case hyy03 => (refine Or.inl ⟨by rfl, ?_⟩; intro w' hSw; (try dsimp only at hSw); go_simp; try with_reducible rfl)
          (try simp only [Act.put, List.setIfInBounds_toArray, List.set_cons_zero, List.set_cons_succ])
          refine' wpAnyT_take (i := 4) (oi := ?oiy04) (v := ?vy04) ?hiy04 (by kernel_rfl) (by kernel_rfl) ?hqy04 ?hyy04 hHeld ?resty04
          case hiy04 => (simp only [List.getElem?_toArray, List.getElem?_cons_zero, List.getElem?_cons_succ]; rfl)
          case hqy04 => exact fun _ _ _ h => h
          case hyy04 => (refine Or.inl ⟨by rfl, ?_⟩; intro w' hSw; (try dsimp only at hSw); go_simp; try with_reducible rfl)
          (try simp only [Act.put, List.setIfInBounds_toArray, List.set_cons_zero, List.set_cons_succ])
          refine' wpAnyT_take (i := 5) (oi := ?oiy05) (v := ?vy05) ?hiy05 (by kernel_rfl) (by kernel_rfl) ?hqy05 ?hyy05 hHeld ?resty05
          case hiy05 => (simp only [List.getElem?_toArray, List.getElem?_cons_zero, List.getElem?_cons_succ]; rfl)
          case hqy05 => exact fun _ _ _ h => h
          case hyy05 => (refine Or.inl ⟨by rfl, ?_⟩; intro w' hSw; (try dsimp only at hSw); go_simp; try with_reducible rfl)
          (try simp only [Act.put, List.setIfInBounds_toArray, List.set_cons_zero, List.set_cons_succ])
          refine' wpAnyT_take (i := 6) (oi := ?oiy06) (v := ?vy06) ?hiy06 (by kernel_rfl) (by kernel_rfl) ?hqy06 ?hyy06 hHeld ?resty06
          case hiy06 => (simp only [List.getElem?_toArray, List.getElem?_cons_zero, List.getElem?_cons_succ]; rfl)
          case hqy06 => exact fun _ _ _ h => h
          case hyy06 => (refine Or.inl ⟨by rfl, ?_⟩; intro w' hSw; (try dsimp only at hSw); go_simp; try with_reducible rfl)
          (try simp only [Act.put, List.setIfInBounds_toArray, List.set_cons_zero, List.set_cons_succ])
          refine' wpAnyT_take (i := 7) (oi := ?oiy07) (v := ?vy07) ?hiy07 (by kernel_rfl) (by kernel_rfl) ?hqy07 ?hyy07 hHeld ?resty07
          case hiy07 => (simp only [List.getElem?_toArray, List.getElem?_cons_zero, List.getElem?_cons_succ]; rfl)
          case hqy07 => exact fun _ _ _ h => h
          case hyy07 => (refine Or.inl ⟨by rfl, ?_⟩; intro w' hSw; (try dsimp only at hSw); go_simp; try with_reducible rfl)
          (try simp only [Act.put, List.setIfInBounds_toArray, List.set_cons_zero, List.set_cons_succ])
          refine' wpAnyT_take (i := 8) (oi := ?oiy08) (v := ?vy08) ?hiy08 (by kernel_rfl) (by kernel_rfl) ?hqy08 ?hyy08 hHeld ?resty08
          case hiy08 => (simp only [List.getElem?_toArray, List.getElem?_cons_zero, List.getElem?_cons_succ]; rfl)
          case hqy08 => exact fun _ _ _ h => h
          case hyy08 => (refine Or.inl ⟨by rfl, ?_⟩; intro w' hSw; (try dsimp only at hSw); go_simp; try with_reducible rfl)
          (try simp only [Act.put, List.setIfInBounds_toArray, List.set_cons_zero, List.set_cons_succ])
          refine' wpAnyT_take (i := 9) (oi := ?oiy09) (v := ?vy09) ?hiy09 (by kernel_rfl) (by kernel_rfl) ?hqy09 ?hyy09 hHeld ?resty09
          case hiy09 => (simp only [List.getElem?_toArray, List.getElem?_cons_zero, List.getElem?_cons_succ]; rfl)
          case hqy09 => exact fun _ _ _ h => h
          case hyy09 => (refine Or.inl ⟨by rfl, ?_⟩; intro w' hSw; (try dsimp only at hSw); go_simp; try with_reducible rfl)
          (try simp only [Act.put, List.setIfInBounds_toArray, List.set_cons_zero, List.set_cons_succ])
          refine' wpAnyT_take (i := 10) (oi := ?oiy010) (v := ?vy010) ?hiy010 (by kernel_rfl) (by kernel_rfl) ?hqy010 ?hyy010 hHeld ?resty010
          case hiy010 => (simp only [List.getElem?_toArray, List.getElem?_cons_zero, List.getElem?_cons_succ]; rfl)
          case hqy010 => exact fun _ _ _ h => h
          case hyy010 => (refine Or.inl ⟨by rfl, ?_⟩; intro w' hSw; (try dsimp only at hSw); go_simp; try with_reducible rfl)
          (try simp only [Act.put, List.setIfInBounds_toArray, List.set_cons_zero, List.set_cons_succ])
          refine' wpAnyT_take (i := 11) (oi := ?oiy011) (v := ?vy011) ?hiy011 (by kernel_rfl) (by kernel_rfl) ?hqy011 ?hyy011 hHeld ?resty011
          case hiy011 => (simp only [List.getElem?_toArray, List.getElem?_cons_zero, List.getElem?_cons_succ]; rfl)
          case hqy011 => exact fun _ _ _ h => h
          case hyy011 => (refine Or.inl ⟨by rfl, ?_⟩; intro w' hSw; (try dsimp only at hSw); go_simp; try with_reducible rfl)
          (try simp only [Act.put, List.setIfInBounds_toArray, List.set_cons_zero, List.set_cons_succ])
          refine' wpAnyT_take (i := 12) (oi := ?oiy012) (v := ?vy012) ?hiy012 (by kernel_rfl) (by kernel_rfl) ?hqy012 ?hyy012 hHeld ?resty012
          case hiy012 => (simp only [List.getElem?_toArray, List.getElem?_cons_zero, List.getElem?_cons_succ]; rfl)
          case hqy012 => exact fun _ _ _ h => h
          case hyy012 => (refine Or.inl ⟨by rfl, ?_⟩; intro w' hSw; (try dsimp only at hSw); go_simp; try with_reducible rfl)
          (try simp only [Act.put, List.setIfInBounds_toArray, List.set_cons_zero, List.set_cons_succ])
          refine' wpAnyT_take (i := 13) (oi := ?oiy013) (v := ?vy013) ?hiy013 (by kernel_rfl) (by kernel_rfl) ?hqy013 ?hyy013 hHeld ?resty013
          case hiy013 => (simp only [List.getElem?_toArray, List.getElem?_cons_zero, List.getElem?_cons_succ]; rfl)
          case hqy013 => exact fun _ _ _ h => h
          case hyy013 => (refine Or.inl ⟨by rfl, ?_⟩; intro w' hSw; (try dsimp only at hSw); go_simp; try with_reducible rfl)
          (try simp only [Act.put, List.setIfInBounds_toArray, List.set_cons_zero, List.set_cons_succ])
          refine' wpAnyT_take (i := 14) (oi := ?oiy014) (v := ?vy014) ?hiy014 (by kernel_rfl) (by kernel_rfl) ?hqy014 ?hyy014 hHeld ?resty014
          case hiy014 => (simp only [List.getElem?_toArray, List.getElem?_cons_zero, List.getElem?_cons_succ]; rfl)
          case hqy014 => exact fun _ _ _ h => h
          case hyy014 => (refine Or.inl ⟨by rfl, ?_⟩; intro w' hSw; (try dsimp only at hSw); go_simp; try with_reducible rfl)
          (try simp only [Act.put, List.setIfInBounds_toArray, List.set_cons_zero, List.set_cons_succ])
          refine' wpAnyT_take (i := 15) (oi := ?oiy015) (v := ?vy015) ?hiy015 (by kernel_rfl) (by kernel_rfl) ?hqy015 ?hyy015 hHeld ?resty015
          case hiy015 => (simp only [List.getElem?_toArray, List.getElem?_cons_zero, List.getElem?_cons_succ]; rfl)
          case hqy015 => exact fun _ _ _ h => h
          case hyy015 => (refine Or.inl ⟨by rfl, ?_⟩; intro w' hSw; (try dsimp only at hSw); go_simp; try with_reducible rfl)
          (try simp only [Act.put, List.setIfInBounds_toArray, List.set_cons_zero, List.set_cons_succ])
          refine' wpAnyT_take (i := 16) (oi := ?oiy016) (v := ?vy016) ?hiy016 (by kernel_rfl) (by kernel_rfl) ?hqy016 ?hyy016 hHeld ?resty016
          case hiy016 => (simp only [List.getElem?_toArray, List.getElem?_cons_zero, List.getElem?_cons_succ]; rfl)
          case hqy016 => exact fun _ _ _ h => h
          case hyy016 => (refine Or.inl ⟨by rfl, ?_⟩; intro w' hSw; (try dsimp only at hSw); go_simp; try with_reducible rfl)
          (try simp only [Act.put, List.setIfInBounds_toArray, List.set_cons_zero, List.set_cons_succ])
          refine' wpAnyT_take (i := 17) (oi := ?oiy017) (v := ?vy017) ?hiy017 (by kernel_rfl) (by kernel_rfl) ?hqy017 ?hyy017 hHeld ?resty017
          case hiy017 => (simp only [List.getElem?_toArray, List.getElem?_cons_zero, List.getElem?_cons_succ]; rfl)
          case hqy017 => exact fun _ _ _ h => h
          case hyy017 => (refine Or.inl ⟨by rfl, ?_⟩; intro w' hSw; (try dsimp only at hSw); go_simp; try with_reducible rfl)
          (try simp only [Act.put, List.setIfInBounds_toArray, List.set_cons_zero, List.set_cons_succ])
          refine' wpAnyT_take (i := 18) (oi := ?oiy018) (v := ?vy018) ?hiy018 (by kernel_rfl) (by kernel_rfl) ?hqy018 ?hyy018 hHeld ?resty018
          case hiy018 => (simp only [List.getElem?_toArray, List.getElem?_cons_zero, List.getElem?_cons_succ]; rfl)
          case hqy018 => exact fun _ _ _ h => h
          case hyy018 => (refine Or.inl ⟨by rfl, ?_⟩; intro w' hSw; (try dsimp only at hSw); go_simp; try with_reducible rfl)
          (try simp only [Act.put, List.setIfInBounds_toArray, List.set_cons_zero, List.set_cons_succ])
          refine' wpAnyT_one (i := 19) (o := ?oiy019) (by kernel_rfl) ?hiy019 (fun K hK => ?sty019)
          case hiy019 => (simp only [List.getElem?_toArray, List.getElem?_cons_zero, List.getElem?_cons_succ]; rfl)
          go_simp
          go_at_call 15
          (with_reducible refine (HAC.out _).mono ?_)
          rintro _ X1 ⟨rfl, hb⟩
          have HBX := hid (HBX.out.trans (hb.mono HBX.out.size))
          have hHeld := HK2.out X1 HBX.out
          clear hb
          refine hK.out _ _ (fun _ => hHeld) ?_
          clear hK K
          (try simp only [Act.put, List.setIfInBounds_toArray, List.set_cons_zero, List.set_cons_succ])
          refine' wpAnyT_one (i := 20) (o := ?oiy020) (by kernel_rfl) ?hiy020 (fun K hK => ?sty020)
          case hiy020 => (simp only [List.getElem?_toArray, List.getElem?_cons_zero, List.getElem?_cons_succ]; rfl)
          go_simp
          refine hK.out _ _ (fun h => absurd h (by decide)) ?_
          clear hK K
          (try simp only [Act.put, List.setIfInBounds_toArray, List.set_cons_zero, List.set_cons_succ])
          refine wpAnyT_done (by kernel_rfl) ?_ _
          obtain ⟨c0, c1, c2, c3, c4, c5, c6, c7, c8, c9, c10, c11, k0, k1⟩ := hHeld
          have hep := fun W => eq_pair m0 m1 W
          by_cases p2 : ap = 2
          rotate_left
          · have dp : (ap == 2) = false := by simp [p2]
            have dq : (ac == 0) = false := by have h := HACQ.out; rw [dp] at h; exact h
            clear p2
            go_wp2_with fail
            go_roundw
            case rel => exact ⟨1, by omega, by go_num, HBX⟩
            case measure => simp [RowKit.intOf]
          have dp : (ap == 2) = true := by simp [p2]
          clear p2
          by_cases q0 : m0 = 0
          rotate_left
          · have d0 : (m0 == 0) = false := by simp [q0]
            have dq : (ac == 0) = false := by have h := HACQ.out; rw [dp, d0] at h; exact h
            clear q0
            go_wp2_with fail
            go_roundw
            case rel => exact ⟨1, by omega, by go_num, HBX⟩
            case measure => simp [RowKit.intOf]
          have d0 : (m0 == 0) = true := by simp [q0]
          clear q0
          by_cases q1 : m1 = 0
          rotate_left
          · have d1 : (m1 == 0) = false := by simp [q1]
            have dq : (ac == 0) = false := by have h := HACQ.out; rw [dp, d0, d1] at h; exact h
            clear q1
            go_wp2_with fail
            go_roundw
            case rel => exact ⟨1, by omega, by go_num, HBX⟩
            case measure => simp [RowKit.intOf]
          have d1 : (m1 == 0) = true := by simp [q1]
          have dq : (ac == 0) = true := by have h := HACQ.out; rw [dp, d0, d1] at h; exact h
          clear q1
          go_wp2_with fail
          go_roundw
          case rel => exact ⟨1, by omega, by go_num, HBX⟩
          case measure => simp [RowKit.intOf]
        · subst h0
          have HAC := hid (fun W => accepts_any ⟨bl, br, be, bn, bp, bd⟩ (bn + m0) (be + m1) W)
          have hac := acc_own (x := m0) (y := m1) HCK.out.2
          simp only at hac
          obtain ⟨ac, hac'⟩ : ∃ z, accR ⟨bl, br, be, bn, bp, bd⟩ (bn + m0) (be + m1) = z := ⟨_, rfl⟩
          rw [hac'] at HAC hac
          simp only [sv] at HAC
          have HACQ := hid hac
          clear hac hac'
          go_upto_region 14 with fail
          obtain ⟨X0, hX0⟩ : ∃ X, wr.drew = X := ⟨_, rfl⟩
          have HBX := hid (show Below wo.heap.size wo X0 by rw [← hX0]; exact below_drew HBQ.out)
          have hHeld := HK2.out X0 HBX.out
          have HX0 := hid hX0
          clear hX0
          refine region_tail 20 (fun X => X.cell? ⟨gt, 0, none⟩ = some (.int .i64 al) ∧ X.cell? ⟨gt, 1, none⟩ = some (.int .i64 ar) ∧ X.cell? ⟨gt, 2, none⟩ = some (.int .i64 ae) ∧ X.cell? ⟨gt, 3, none⟩ = some (.int .i64 an) ∧ X.cell? ⟨gt, 4, none⟩ = some (.int .i64 ap) ∧ X.cell? ⟨gt, 5, none⟩ = some (.int .i64 ad) ∧ X.cell? ⟨gt, 6, none⟩ = some (.int .i64 bl) ∧ X.cell? ⟨gt, 7, none⟩ = some (.int .i64 br) ∧ X.cell? ⟨gt, 8, none⟩ = some (.int .i64 be) ∧ X.cell? ⟨gt, 9, none⟩ = some (.int .i64 bn) ∧ X.cell? ⟨gt, 10, none⟩ = some (.int .i64 bp) ∧ X.cell? ⟨gt, 11, none⟩ = some (.int .i64 bd) ∧ X.cell? ⟨gm, 0, none⟩ = some (.int .i8 m0) ∧ X.cell? ⟨gm, 1, none⟩ = some (.int .i8 m1)) (by kernel_rfl) ?_
          rw [HX0.out]
          refine' wpAnyT_take (i := 0) (oi := ?oiy10) (v := ?vy10) ?hiy10 (by kernel_rfl) (by kernel_rfl) ?hqy10 ?hyy10 hHeld ?resty10
          case hiy10 => (simp only [List.getElem?_toArray, List.getElem?_cons_zero]; rfl)
          case hqy10 => exact fun _ _ _ h => h
          case hyy10 => (refine Or.inl ⟨by rfl, ?_⟩; intro w' hSw; (try dsimp only at hSw); go_simp; try with_reducible rfl)
          (try simp only [Act.put, List.setIfInBounds_toArray, List.set_cons_zero, List.set_cons_succ])
          refine' wpAnyT_take (i := 1) (oi := ?oiy11) (v := ?vy11) ?hiy11 (by kernel_rfl) (by kernel_rfl) ?hqy11 ?hyy11 hHeld ?resty11
          case hiy11 => (simp only [List.getElem?_toArray, List.getElem?_cons_zero, List.getElem?_cons_succ]; rfl)
          case hqy11 => exact fun _ _ _ h => h
          case hyy11 => (refine Or.inl ⟨by rfl, ?_⟩; intro w' hSw; (try dsimp only at hSw); go_simp; try with_reducible rfl)
          (try simp only [Act.put, List.setIfInBounds_toArray, List.set_cons_zero, List.set_cons_succ])
          refine' wpAnyT_take (i := 2) (oi := ?oiy12) (v := ?vy12) ?hiy12 (by kernel_rfl) (by kernel_rfl) ?hqy12 ?hyy12 hHeld ?resty12
          case hiy12 => (simp only [List.getElem?_toArray, List.getElem?_cons_zero, List.getElem?_cons_succ]; rfl)
          case hqy12 => exact fun _ _ _ h => h
          case hyy12 => (refine Or.inl ⟨by rfl, ?_⟩; intro w' hSw; (try dsimp only at hSw); go_simp; try with_reducible rfl)
          (try simp only [Act.put, List.setIfInBounds_toArray, List.set_cons_zero, List.set_cons_succ])
          refine' wpAnyT_take (i := 3) (oi := ?oiy13) (v := ?vy13) ?hiy13 (by kernel_rfl) (by kernel_rfl) ?hqy13 ?hyy13 hHeld ?resty13
          case hiy13 => (simp only [List.getElem?_toArray, List.getElem?_cons_zero, List.getElem?_cons_succ]; rfl)
          case hqy13 => exact fun _ _ _ h => h
          case hyy13 => (refine Or.inl ⟨by rfl, ?_⟩; intro w' hSw; (try dsimp only at hSw); go_simp; try with_reducible rfl)
          (try simp only [Act.put, List.setIfInBounds_toArray, List.set_cons_zero, List.set_cons_succ])
          refine' wpAnyT_take (i := 4) (oi := ?oiy14) (v := ?vy14) ?hiy14 (by kernel_rfl) (by kernel_rfl) ?hqy14 ?hyy14 hHeld ?resty14
          case hiy14 => (simp only [List.getElem?_toArray, List.getElem?_cons_zero, List.getElem?_cons_succ]; rfl)
          case hqy14 => exact fun _ _ _ h => h
          case hyy14 => (refine Or.inl ⟨by rfl, ?_⟩; intro w' hSw; (try dsimp only at hSw); go_simp; try with_reducible rfl)
          (try simp only [Act.put, List.setIfInBounds_toArray, List.set_cons_zero, List.set_cons_succ])
          refine' wpAnyT_take (i := 5) (oi := ?oiy15) (v := ?vy15) ?hiy15 (by kernel_rfl) (by kernel_rfl) ?hqy15 ?hyy15 hHeld ?resty15
          case hiy15 => (simp only [List.getElem?_toArray, List.getElem?_cons_zero, List.getElem?_cons_succ]; rfl)
          case hqy15 => exact fun _ _ _ h => h
          case hyy15 => (refine Or.inl ⟨by rfl, ?_⟩; intro w' hSw; (try dsimp only at hSw); go_simp; try with_reducible rfl)
          (try simp only [Act.put, List.setIfInBounds_toArray, List.set_cons_zero, List.set_cons_succ])
          refine' wpAnyT_take (i := 6) (oi := ?oiy16) (v := ?vy16) ?hiy16 (by kernel_rfl) (by kernel_rfl) ?hqy16 ?hyy16 hHeld ?resty16
          case hiy16 => (simp only [List.getElem?_toArray, List.getElem?_cons_zero, List.getElem?_cons_succ]; rfl)
          case hqy16 => exact fun _ _ _ h => h
          case hyy16 => (refine Or.inl ⟨by rfl, ?_⟩; intro w' hSw; (try dsimp only at hSw); go_simp; try with_reducible rfl)
          (try simp only [Act.put, List.setIfInBounds_toArray, List.set_cons_zero, List.set_cons_succ])
          refine' wpAnyT_take (i := 7) (oi := ?oiy17) (v := ?vy17) ?hiy17 (by kernel_rfl) (by kernel_rfl) ?hqy17 ?hyy17 hHeld ?resty17
          case hiy17 => (simp only [List.getElem?_toArray, List.getElem?_cons_zero, List.getElem?_cons_succ]; rfl)
          case hqy17 => exact fun _ _ _ h => h
          case hyy17 => (refine Or.inl ⟨by rfl, ?_⟩; intro w' hSw; (try dsimp only at hSw); go_simp; try with_reducible rfl)
          (try simp only [Act.put, List.setIfInBounds_toArray, List.set_cons_zero, List.set_cons_succ])
          refine' wpAnyT_take (i := 8) (oi := ?oiy18) (v := ?vy18) ?hiy18 (by kernel_rfl) (by kernel_rfl) ?hqy18 ?hyy18 hHeld ?resty18
          case hiy18 => (simp only [List.getElem?_toArray, List.getElem?_cons_zero, List.getElem?_cons_succ]; rfl)
          case hqy18 => exact fun _ _ _ h => h
          case hyy18 => (refine Or.inl ⟨by rfl, ?_⟩; intro w' hSw; (try dsimp only at hSw); go_simp; try with_reducible rfl)
          (try simp only [Act.put, List.setIfInBounds_toArray, List.set_cons_zero, List.set_cons_succ])
          refine' wpAnyT_take (i := 9) (oi := ?oiy19) (v := ?vy19) ?hiy19 (by kernel_rfl) (by kernel_rfl) ?hqy19 ?hyy19 hHeld ?resty19
          case hiy19 => (simp only [List.getElem?_toArray, List.getElem?_cons_zero, List.getElem?_cons_succ]; rfl)
          case hqy19 => exact fun _ _ _ h => h
          case hyy19 => (refine Or.inl ⟨by rfl, ?_⟩; intro w' hSw; (try dsimp only at hSw); go_simp; try with_reducible rfl)
          (try simp only [Act.put, List.setIfInBounds_toArray, List.set_cons_zero, List.set_cons_succ])
          refine' wpAnyT_take (i := 10) (oi := ?oiy110) (v := ?vy110) ?hiy110 (by kernel_rfl) (by kernel_rfl) ?hqy110 ?hyy110 hHeld ?resty110
          case hiy110 => (simp only [List.getElem?_toArray, List.getElem?_cons_zero, List.getElem?_cons_succ]; rfl)
          case hqy110 => exact fun _ _ _ h => h
          case hyy110 => (refine Or.inl ⟨by rfl, ?_⟩; intro w' hSw; (try dsimp only at hSw); go_simp; try with_reducible rfl)
          (try simp only [Act.put, List.setIfInBounds_toArray, List.set_cons_zero, List.set_cons_succ])
          refine' wpAnyT_take (i := 11) (oi := ?oiy111) (v := ?vy111) ?hiy111 (by kernel_rfl) (by kernel_rfl) ?hqy111 ?hyy111 hHeld ?resty111
          case hiy111 => (simp only [List.getElem?_toArray, List.getElem?_cons_zero, List.getElem?_cons_succ]; rfl)
          case hqy111 => exact fun _ _ _ h => h
          case hyy111 => (refine Or.inl ⟨by rfl, ?_⟩; intro w' hSw; (try dsimp only at hSw); go_simp; try with_reducible rfl)
          (try simp only [Act.put, List.setIfInBounds_toArray, List.set_cons_zero, List.set_cons_succ])
          refine' wpAnyT_take (i := 12) (oi := ?oiy112) (v := ?vy112) ?hiy112 (by kernel_rfl) (by kernel_rfl) ?hqy112 ?hyy112 hHeld ?resty112
          case hiy112 => (simp only [List.getElem?_toArray, List.getElem?_cons_zero, List.getElem?_cons_succ]; rfl)
          case hqy112 => exact fun _ _ _ h => h
          case hyy112 => (refine Or.inl ⟨by rfl, ?_⟩; intro w' hSw; (try dsimp only at hSw); go_simp; try with_reducible rfl)
          (try simp only [Act.put, List.setIfInBounds_toArray, List.set_cons_zero, List.set_cons_succ])
          refine' wpAnyT_take (i := 13) (oi := ?oiy113) (v := ?vy113) ?hiy113 (by kernel_rfl) (by kernel_rfl) ?hqy113 ?hyy113 hHeld ?resty113
          case hiy113 => (simp only [List.getElem?_toArray, List.getElem?_cons_zero, List.getElem?_cons_succ]; rfl)
          case hqy113 => exact fun _ _ _ h => h
          case hyy113 => (refine Or.inl ⟨by rfl, ?_⟩; intro w' hSw; (try dsimp only at hSw); go_simp; try with_reducible rfl)
          (try simp only [Act.put, List.setIfInBounds_toArray, List.set_cons_zero, List.set_cons_succ])
          refine' wpAnyT_take (i := 14) (oi := ?oiy114) (v := ?vy114) ?hiy114 (by kernel_rfl) (by kernel_rfl) ?hqy114 ?hyy114 hHeld ?resty114
          case hiy114 => (simp only [List.getElem?_toArray, List.getElem?_cons_zero, List.getElem?_cons_succ]; rfl)
          case hqy114 => exact fun _ _ _ h => h
          case hyy114 => (refine Or.inl ⟨by rfl, ?_⟩; intro w' hSw; (try dsimp only at hSw); go_simp; try with_reducible rfl)
          (try simp only [Act.put, List.setIfInBounds_toArray, List.set_cons_zero, List.set_cons_succ])
          refine' wpAnyT_take (i := 15) (oi := ?oiy115) (v := ?vy115) ?hiy115 (by kernel_rfl) (by kernel_rfl) ?hqy115 ?hyy115 hHeld ?resty115
          case hiy115 => (simp only [List.getElem?_toArray, List.getElem?_cons_zero, List.getElem?_cons_succ]; rfl)
          case hqy115 => exact fun _ _ _ h => h
          case hyy115 => (refine Or.inl ⟨by rfl, ?_⟩; intro w' hSw; (try dsimp only at hSw); go_simp; try with_reducible rfl)
          (try simp only [Act.put, List.setIfInBounds_toArray, List.set_cons_zero, List.set_cons_succ])
          refine' wpAnyT_take (i := 16) (oi := ?oiy116) (v := ?vy116) ?hiy116 (by kernel_rfl) (by kernel_rfl) ?hqy116 ?hyy116 hHeld ?resty116
          case hiy116 => (simp only [List.getElem?_toArray, List.getElem?_cons_zero, List.getElem?_cons_succ]; rfl)
          case hqy116 => exact fun _ _ _ h => h
          case hyy116 => (refine Or.inl ⟨by rfl, ?_⟩; intro w' hSw; (try dsimp only at hSw); go_simp; try with_reducible rfl)
          (try simp only [Act.put, List.setIfInBounds_toArray, List.set_cons_zero, List.set_cons_succ])
          refine' wpAnyT_take (i := 17) (oi := ?oiy117) (v := ?vy117) ?hiy117 (by kernel_rfl) (by kernel_rfl) ?hqy117 ?hyy117 hHeld ?resty117
          case hiy117 => (simp only [List.getElem?_toArray, List.getElem?_cons_zero, List.getElem?_cons_succ]; rfl)
          case hqy117 => exact fun _ _ _ h => h
          case hyy117 => (refine Or.inl ⟨by rfl, ?_⟩; intro w' hSw; (try dsimp only at hSw); go_simp; try with_reducible rfl)
          (try simp only [Act.put, List.setIfInBounds_toArray, List.set_cons_zero, List.set_cons_succ])
          refine' wpAnyT_take (i := 18) (oi := ?oiy118) (v := ?vy118) ?hiy118 (by kernel_rfl) (by kernel_rfl) ?hqy118 ?hyy118 hHeld ?resty118
          case hiy118 => (simp only [List.getElem?_toArray, List.getElem?_cons_zero, List.getElem?_cons_succ]; rfl)
          case hqy118 => exact fun _ _ _ h => h
          case hyy118 => (refine Or.inl ⟨by rfl, ?_⟩; intro w' hSw; (try dsimp only at hSw); go_simp; try with_reducible rfl)
          (try simp only [Act.put, List.setIfInBounds_toArray, List.set_cons_zero, List.set_cons_succ])
          refine' wpAnyT_one (i := 19) (o := ?oiy119) (by kernel_rfl) ?hiy119 (fun K hK => ?sty119)
          case hiy119 => (simp only [List.getElem?_toArray, List.getElem?_cons_zero, List.getElem?_cons_succ]; rfl)
          go_simp
          go_at_call 15
          (with_reducible refine (HAC.out _).mono ?_)
          rintro _ X1 ⟨rfl, hb⟩
          have HBX := hid (HBX.out.trans (hb.mono HBX.out.size))
          have hHeld := HK2.out X1 HBX.out
          clear hb
          refine hK.out _ _ (fun _ => hHeld) ?_
          clear hK K
          (try simp only [Act.put, List.setIfInBounds_toArray, List.set_cons_zero, List.set_cons_succ])
          refine' wpAnyT_one (i := 20) (o := ?oiy120) (by kernel_rfl) ?hiy120 (fun K hK => ?sty120)
          case hiy120 => (simp only [List.getElem?_toArray, List.getElem?_cons_zero, List.getElem?_cons_succ]; rfl)
          go_simp
          refine hK.out _ _ (fun h => absurd h (by decide)) ?_
          clear hK K
          (try simp only [Act.put, List.setIfInBounds_toArray, List.set_cons_zero, List.set_cons_succ])
          refine wpAnyT_done (by kernel_rfl) ?_ _
          obtain ⟨c0, c1, c2, c3, c4, c5, c6, c7, c8, c9, c10, c11, k0, k1⟩ := hHeld
          have hep := fun W => eq_pair m0 m1 W
          by_cases p2 : bp = 2
          rotate_left
          · have dp : (bp == 2) = false := by simp [p2]
            have dq : (ac == 0) = false := by have h := HACQ.out; rw [dp] at h; exact h
            clear p2
            go_wp2_with fail
            go_roundw
            case rel => exact ⟨2, by omega, by go_num, HBX⟩
            case measure => simp [RowKit.intOf]
          have dp : (bp == 2) = true := by simp [p2]
          clear p2
          by_cases q0 : m0 = 0
          rotate_left
          · have d0 : (m0 == 0) = false := by simp [q0]
            have dq : (ac == 0) = false := by have h := HACQ.out; rw [dp, d0] at h; exact h
            clear q0
            go_wp2_with fail
            go_roundw
            case rel => exact ⟨2, by omega, by go_num, HBX⟩
            case measure => simp [RowKit.intOf]
          have d0 : (m0 == 0) = true := by simp [q0]
          clear q0
          by_cases q1 : m1 = 0
          rotate_left
          · have d1 : (m1 == 0) = false := by simp [q1]
            have dq : (ac == 0) = false := by have h := HACQ.out; rw [dp, d0, d1] at h; exact h
            clear q1
            go_wp2_with fail
            go_roundw
            case rel => exact ⟨2, by omega, by go_num, HBX⟩
            case measure => simp [RowKit.intOf]
          have d1 : (m1 == 0) = true := by simp [q1]
          have dq : (ac == 0) = true := by have h := HACQ.out; rw [dp, d0, d1] at h; exact h
          clear q1
          go_wp2_with fail
          go_roundw
          case rel => exact ⟨2, by omega, by go_num, HBX⟩
          case measure => simp [RowKit.intOf]
        · subst h0
          go_wp2_with (go_at_call 12; (with_reducible refine (awake_any _).mono ?_); rintro _ w8 ⟨rfl, hb⟩; have HBA := hid hb; clear hb)
          go_ret
          exact ⟨rfl, by rw [HG0.out]; exact HB.out.trans ((HBQ.out.trans (HBA.out.mono HBQ.out.size)).mono HSZ.out)⟩
end Go.Proofs.Ytkdladacmjkdoaa
