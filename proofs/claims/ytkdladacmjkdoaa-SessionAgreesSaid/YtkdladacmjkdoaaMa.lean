/- The law SessionChecks walked. -/
import Derived.Test.YtkdladacmjkdoaaLc
namespace Go.Proofs.Ytkdladacmjkdoaa
open Go.RowKit Go.Lib
def TrueQ (w : World) (f : Ending) (w' : World) : Prop := f = .returned (.bool true) ∧ Below w.heap.size w w'
set_option maxHeartbeats 8000000 in
set_option maxRecDepth 100000 in
theorem checks_walk (s : Ses) (nb ep : Int) (w : World) : Calls Try.prog 3 #[sv s, .int .i64 nb, .int .i64 ep] w (TrueQ w) := by
  obtain ⟨⟨al, ar, ae, an, ap, ad⟩, hr⟩ : ∃ r, newR ⟨s.l, s.r, s.e, s.n, 0, 0⟩ = r := ⟨_, rfl⟩
  obtain ⟨nc, hnc⟩ : ∃ c, chk ⟨s.l, s.r, s.e, s.n, 0, 0⟩ = c := ⟨_, rfl⟩
  have HNW := hid (fun W => new_any s.l s.r s.e s.n W)
  have HRN := hid (fun W => rnew_any s.l s.r s.e s.n W)
  rw [hr, hnc] at HNW HRN
  have HCK := hid (fun W => check_any s W)
  have HRC := hid (fun W => rcheck_any s W)
  obtain ⟨ck, hck⟩ : ∃ c, chk s = c := ⟨_, rfl⟩
  rw [hck] at HCK HRC
  have HAC := hid (fun W => accepts_any s nb ep W)
  have HRA := hid (fun W => raccepts_any s nb ep W)
  obtain ⟨ac, hac⟩ : ∃ c, accR s nb ep = c := ⟨_, rfl⟩
  rw [hac] at HAC HRA
  obtain ⟨g, hg⟩ : ∃ g, w.heap.size = g := ⟨_, rfl⟩
  obtain ⟨W0, hW⟩ : ∃ X, w.alloc (.cells (cS s) 23) = X := ⟨_, rfl⟩
  have ks : W0.heap[g]? = some (.cells (cS s) 23) := by rw [← hW, ← hg]; exact heap_alloc_new w _
  have HB : Hid (Below g w W0) := hid (by rw [← hW, ← hg]; exact al1 w _)
  have HSN : Hid (g ≤ W0.heap.size) := hid (Nat.le_of_lt (box_lt ks))
  obtain ⟨gs, hgs⟩ : ∃ x, g = x := ⟨_, rfl⟩
  have HLEs : Hid (g ≤ gs) := hid (by omega)
  have HGS := hid hgs
  rw [hgs] at ks
  have HG := hid hg
  obtain ⟨l, r, se, sn, sp, sd⟩ := s
  have HKs := hid ks
  obtain ⟨xs0, xs1, xs2, xs3, xs4, xs5⟩ := load6 ks
  have fs := box_fr ks
  simp only at xs0 xs1 xs2 xs3 xs4 xs5
  simp only [sv, cS] at hW HNW HRN HCK HRC HAC HRA ⊢
  have HWW := hid hW
  clear hr hnc hck hac hg hW ks hgs
  go_enter Try.func3, Try.ntmps3
  go_upto_region 1 with fail
  rw [HWW.out, HG.out, HGS.out]
  clear HWW
  go_upto_region 2 with (go_at_call 10; (with_reducible refine (HNW.out _).mono ?_); rintro _ wn ⟨rfl, hb⟩; have ks := (hb.block _ (box_lt HKs.out)).trans HKs.out; have HB := hid (HB.out.trans (hb.mono HSN.out)); have HSN := hid (Nat.le_trans HSN.out hb.size); have HKs := hid ks; obtain ⟨xs0, xs1, xs2, xs3, xs4, xs5⟩ := load6 ks; have fs := box_fr ks; simp only at xs0 xs1 xs2 xs3 xs4 xs5; clear hb ks)
  obtain ⟨ga, hga⟩ : ∃ h, wn.heap.size = h := ⟨_, rfl⟩
  obtain ⟨W1, hW⟩ : ∃ X, wn.alloc (.cells (cS ⟨al, ar, ae, an, ap, ad⟩) 23) = X := ⟨_, rfl⟩
  have ka : W1.heap[ga]? = some (.cells (cS ⟨al, ar, ae, an, ap, ad⟩) 23) := by rw [← hW, ← hga]; exact heap_alloc_new _ _
  have HLEa : Hid (g ≤ ga) := hid (by rw [← hga]; exact HSN.out)
  have ks : W1.heap[gs]? = some (.cells (cS ⟨l, r, se, sn, sp, sd⟩) 23) := by rw [← hW]; exact (Below.heap_alloc _ _ _ (box_lt HKs.out)).trans HKs.out
  have HNEsa : Hid (gs ≠ ga) := hid (by have := box_lt HKs.out; omega)
  have HB := hid (show Below g w W1 by rw [← hW]; exact HB.out.alloc HSN.out _)
  have HSN : Hid (g ≤ W1.heap.size) := hid (by have := HLEa.out; have := box_lt ka; omega)
  clear xs0 xs1 xs2 xs3 xs4 xs5 fs
  have HKs := hid ks
  obtain ⟨xs0, xs1, xs2, xs3, xs4, xs5⟩ := load6 ks
  have fs := box_fr ks
  have HKa := hid ka
  obtain ⟨xa0, xa1, xa2, xa3, xa4, xa5⟩ := load6 ka
  have fa := box_fr ka
  simp only at xs0 xs1 xs2 xs3 xs4 xs5 xa0 xa1 xa2 xa3 xa4 xa5
  have HWW := hid hW
  have HGa := hid hga
  simp only [cS] at HWW
  clear hW hga ks ka
  rw [HGa.out, HWW.out]
  clear HWW
  go_upto_region 3 with (go_at_call 11; (with_reducible refine (HRN.out _).mono ?_); rintro _ wn ⟨rfl, hb⟩; have ks := (hb.block _ (box_lt HKs.out)).trans HKs.out; have ka := (hb.block _ (box_lt HKa.out)).trans HKa.out; have HB := hid (HB.out.trans (hb.mono HSN.out)); have HSN := hid (Nat.le_trans HSN.out hb.size); have HKs := hid ks; obtain ⟨xs0, xs1, xs2, xs3, xs4, xs5⟩ := load6 ks; have fs := box_fr ks; have HKa := hid ka; obtain ⟨xa0, xa1, xa2, xa3, xa4, xa5⟩ := load6 ka; have fa := box_fr ka; simp only at xs0 xs1 xs2 xs3 xs4 xs5 xa0 xa1 xa2 xa3 xa4 xa5; clear hb ks ka)
  obtain ⟨gb, hgb⟩ : ∃ h, wn.heap.size = h := ⟨_, rfl⟩
  obtain ⟨W2, hW⟩ : ∃ X, wn.alloc (.cells (cS ⟨al, ar, ae, an, ap, ad⟩) 23) = X := ⟨_, rfl⟩
  have kb : W2.heap[gb]? = some (.cells (cS ⟨al, ar, ae, an, ap, ad⟩) 23) := by rw [← hW, ← hgb]; exact heap_alloc_new _ _
  have HLEb : Hid (g ≤ gb) := hid (by rw [← hgb]; exact HSN.out)
  have ks : W2.heap[gs]? = some (.cells (cS ⟨l, r, se, sn, sp, sd⟩) 23) := by rw [← hW]; exact (Below.heap_alloc _ _ _ (box_lt HKs.out)).trans HKs.out
  have HNEsb : Hid (gs ≠ gb) := hid (by have := box_lt HKs.out; omega)
  have ka : W2.heap[ga]? = some (.cells (cS ⟨al, ar, ae, an, ap, ad⟩) 23) := by rw [← hW]; exact (Below.heap_alloc _ _ _ (box_lt HKa.out)).trans HKa.out
  have HNEab : Hid (ga ≠ gb) := hid (by have := box_lt HKa.out; omega)
  have HB := hid (show Below g w W2 by rw [← hW]; exact HB.out.alloc HSN.out _)
  have HSN : Hid (g ≤ W2.heap.size) := hid (by have := HLEb.out; have := box_lt kb; omega)
  clear xs0 xs1 xs2 xs3 xs4 xs5 xa0 xa1 xa2 xa3 xa4 xa5 fs fa
  have HKs := hid ks
  obtain ⟨xs0, xs1, xs2, xs3, xs4, xs5⟩ := load6 ks
  have fs := box_fr ks
  have HKa := hid ka
  obtain ⟨xa0, xa1, xa2, xa3, xa4, xa5⟩ := load6 ka
  have fa := box_fr ka
  have HKb := hid kb
  obtain ⟨xb0, xb1, xb2, xb3, xb4, xb5⟩ := load6 kb
  have fb := box_fr kb
  simp only at xs0 xs1 xs2 xs3 xs4 xs5 xa0 xa1 xa2 xa3 xa4 xa5 xb0 xb1 xb2 xb3 xb4 xb5
  have HWW := hid hW
  have HGb := hid hgb
  simp only [cS] at HWW
  clear hW hgb ks ka kb
  rw [HGb.out, HWW.out]
  clear HWW
  obtain ⟨X0, hX0⟩ : ∃ X, W2.drew = X := ⟨_, rfl⟩
  have k1 : X0.heap[gs]? = some (.cells (cS ⟨l, r, se, sn, sp, sd⟩) 23) := by rw [← hX0]; exact HKs.out
  have k2 : X0.heap[ga]? = some (.cells (cS ⟨al, ar, ae, an, ap, ad⟩) 23) := by rw [← hX0]; exact HKa.out
  have k3 : X0.heap[gb]? = some (.cells (cS ⟨al, ar, ae, an, ap, ad⟩) 23) := by rw [← hX0]; exact HKb.out
  have HB9 : Hid (Below g w X0) := hid (by rw [← hX0]; exact below_drew HB.out)
  have HS0 : Hid (g ≤ X0.heap.size) := hid (by rw [← hX0]; exact HSN.out)
  have HK : Hid (∀ X, Below X0.heap.size X0 X → X.cell? ⟨gs, 0, none⟩ = some (.int .i64 l) ∧ X.cell? ⟨gs, 1, none⟩ = some (.int .i64 r) ∧ X.cell? ⟨gs, 2, none⟩ = some (.int .i64 se) ∧ X.cell? ⟨gs, 3, none⟩ = some (.int .i64 sn) ∧ X.cell? ⟨gs, 4, none⟩ = some (.int .i64 sp) ∧ X.cell? ⟨gs, 5, none⟩ = some (.int .i64 sd) ∧ X.cell? ⟨ga, 0, none⟩ = some (.int .i64 al) ∧ X.cell? ⟨ga, 1, none⟩ = some (.int .i64 ar) ∧ X.cell? ⟨ga, 2, none⟩ = some (.int .i64 ae) ∧ X.cell? ⟨ga, 3, none⟩ = some (.int .i64 an) ∧ X.cell? ⟨ga, 4, none⟩ = some (.int .i64 ap) ∧ X.cell? ⟨ga, 5, none⟩ = some (.int .i64 ad) ∧ X.cell? ⟨gb, 0, none⟩ = some (.int .i64 al) ∧ X.cell? ⟨gb, 1, none⟩ = some (.int .i64 ar) ∧ X.cell? ⟨gb, 2, none⟩ = some (.int .i64 ae) ∧ X.cell? ⟨gb, 3, none⟩ = some (.int .i64 an) ∧ X.cell? ⟨gb, 4, none⟩ = some (.int .i64 ap) ∧ X.cell? ⟨gb, 5, none⟩ = some (.int .i64 ad)) := hid (fun X hX => by
    have a1 := load6 ((hX.block _ (box_lt k1)).trans k1)
    have a2 := load6 ((hX.block _ (box_lt k2)).trans k2)
    have a3 := load6 ((hX.block _ (box_lt k3)).trans k3)
    simp only at a1 a2 a3
    obtain ⟨b0, b1, b2, b3, b4, b5⟩ := a1
    obtain ⟨c0, c1, c2, c3, c4, c5⟩ := a2
    exact ⟨b0, b1, b2, b3, b4, b5, c0, c1, c2, c3, c4, c5, a3⟩)
  have HB := hid (Below.refl X0.heap.size X0)
  have hHeld := HK.out X0 HB.out
  have HX0 := hid hX0
  have e1 : (nc == nc) = true := beq_self_eq_true nc
  have e2 : (ck == ck) = true := beq_self_eq_true ck
  have e3 : (ac == ac) = true := beq_self_eq_true ac
  have e4 : (al == al) = true := beq_self_eq_true al
  have e5 : (ar == ar) = true := beq_self_eq_true ar
  have e6 : (ae == ae) = true := beq_self_eq_true ae
  have e7 : (an == an) = true := beq_self_eq_true an
  have e8 : (ap == ap) = true := beq_self_eq_true ap
  have e9 : (ad == ad) = true := beq_self_eq_true ad
  clear xs0 xs1 xs2 xs3 xs4 xs5 xa0 xa1 xa2 xa3 xa4 xa5 xb0 xb1 xb2 xb3 xb4 xb5 fs fa fb
  clear k1 k2 k3 hX0
  refine region_tail 29 (fun X => X.cell? ⟨gs, 0, none⟩ = some (.int .i64 l) ∧ X.cell? ⟨gs, 1, none⟩ = some (.int .i64 r) ∧ X.cell? ⟨gs, 2, none⟩ = some (.int .i64 se) ∧ X.cell? ⟨gs, 3, none⟩ = some (.int .i64 sn) ∧ X.cell? ⟨gs, 4, none⟩ = some (.int .i64 sp) ∧ X.cell? ⟨gs, 5, none⟩ = some (.int .i64 sd) ∧ X.cell? ⟨ga, 0, none⟩ = some (.int .i64 al) ∧ X.cell? ⟨ga, 1, none⟩ = some (.int .i64 ar) ∧ X.cell? ⟨ga, 2, none⟩ = some (.int .i64 ae) ∧ X.cell? ⟨ga, 3, none⟩ = some (.int .i64 an) ∧ X.cell? ⟨ga, 4, none⟩ = some (.int .i64 ap) ∧ X.cell? ⟨ga, 5, none⟩ = some (.int .i64 ad) ∧ X.cell? ⟨gb, 0, none⟩ = some (.int .i64 al) ∧ X.cell? ⟨gb, 1, none⟩ = some (.int .i64 ar) ∧ X.cell? ⟨gb, 2, none⟩ = some (.int .i64 ae) ∧ X.cell? ⟨gb, 3, none⟩ = some (.int .i64 an) ∧ X.cell? ⟨gb, 4, none⟩ = some (.int .i64 ap) ∧ X.cell? ⟨gb, 5, none⟩ = some (.int .i64 ad)) (by kernel_rfl) ?_
  rw [HX0.out]
  refine' wpAnyT_one (i := 0) (o := ?oix0) (by kernel_rfl) ?hix0 (fun K hK => ?stx0)
  case hix0 => (simp only [List.getElem?_toArray, List.getElem?_cons_zero]; rfl)
  go_simp
  go_at_call 12
  (with_reducible refine (awake_any _).mono ?_)
  rintro _ X1 ⟨rfl, hb⟩
  have HB := hid (HB.out.trans (hb.mono HB.out.size))
  have hHeld := HK.out X1 HB.out
  clear hb
  refine hK.out _ _ (fun _ => hHeld) ?_
  clear hK K
  (try simp only [Act.put, List.setIfInBounds_toArray, List.set_cons_zero, List.set_cons_succ])
  refine' wpAnyT_take (i := 1) (oi := ?oix1) (v := ?vx1) ?hix1 (by kernel_rfl) (by kernel_rfl) ?hqx1 ?hyx1 hHeld ?restx1
  case hix1 => (simp only [List.getElem?_toArray, List.getElem?_cons_zero, List.getElem?_cons_succ]; rfl)
  case hqx1 => exact fun _ _ _ h => h
  case hyx1 => (refine Or.inl ⟨by rfl, ?_⟩; intro w' hSw; (try dsimp only at hSw); go_simp; try with_reducible rfl)
  (try simp only [Act.put, List.setIfInBounds_toArray, List.set_cons_zero, List.set_cons_succ])
  refine' wpAnyT_take (i := 2) (oi := ?oix2) (v := ?vx2) ?hix2 (by kernel_rfl) (by kernel_rfl) ?hqx2 ?hyx2 hHeld ?restx2
  case hix2 => (simp only [List.getElem?_toArray, List.getElem?_cons_zero, List.getElem?_cons_succ]; rfl)
  case hqx2 => exact fun _ _ _ h => h
  case hyx2 => (refine Or.inl ⟨by rfl, ?_⟩; intro w' hSw; (try dsimp only at hSw); go_simp; try with_reducible rfl)
  (try simp only [Act.put, List.setIfInBounds_toArray, List.set_cons_zero, List.set_cons_succ])
  refine' wpAnyT_take (i := 3) (oi := ?oix3) (v := ?vx3) ?hix3 (by kernel_rfl) (by kernel_rfl) ?hqx3 ?hyx3 hHeld ?restx3
  case hix3 => (simp only [List.getElem?_toArray, List.getElem?_cons_zero, List.getElem?_cons_succ]; rfl)
  case hqx3 => exact fun _ _ _ h => h
  case hyx3 => (refine Or.inl ⟨by rfl, ?_⟩; intro w' hSw; (try dsimp only at hSw); go_simp; try with_reducible rfl)
  (try simp only [Act.put, List.setIfInBounds_toArray, List.set_cons_zero, List.set_cons_succ])
  refine' wpAnyT_take (i := 4) (oi := ?oix4) (v := ?vx4) ?hix4 (by kernel_rfl) (by kernel_rfl) ?hqx4 ?hyx4 hHeld ?restx4
  case hix4 => (simp only [List.getElem?_toArray, List.getElem?_cons_zero, List.getElem?_cons_succ]; rfl)
  case hqx4 => exact fun _ _ _ h => h
  case hyx4 => (refine Or.inl ⟨by rfl, ?_⟩; intro w' hSw; (try dsimp only at hSw); go_simp; try with_reducible rfl)
  (try simp only [Act.put, List.setIfInBounds_toArray, List.set_cons_zero, List.set_cons_succ])
  refine' wpAnyT_take (i := 5) (oi := ?oix5) (v := ?vx5) ?hix5 (by kernel_rfl) (by kernel_rfl) ?hqx5 ?hyx5 hHeld ?restx5
  case hix5 => (simp only [List.getElem?_toArray, List.getElem?_cons_zero, List.getElem?_cons_succ]; rfl)
  case hqx5 => exact fun _ _ _ h => h
  case hyx5 => (refine Or.inl ⟨by rfl, ?_⟩; intro w' hSw; (try dsimp only at hSw); go_simp; try with_reducible rfl)
  (try simp only [Act.put, List.setIfInBounds_toArray, List.set_cons_zero, List.set_cons_succ])
  refine' wpAnyT_take (i := 6) (oi := ?oix6) (v := ?vx6) ?hix6 (by kernel_rfl) (by kernel_rfl) ?hqx6 ?hyx6 hHeld ?restx6
  case hix6 => (simp only [List.getElem?_toArray, List.getElem?_cons_zero, List.getElem?_cons_succ]; rfl)
  case hqx6 => exact fun _ _ _ h => h
  case hyx6 => (refine Or.inl ⟨by rfl, ?_⟩; intro w' hSw; (try dsimp only at hSw); go_simp; try with_reducible rfl)
  (try simp only [Act.put, List.setIfInBounds_toArray, List.set_cons_zero, List.set_cons_succ])
  refine' wpAnyT_take (i := 7) (oi := ?oix7) (v := ?vx7) ?hix7 (by kernel_rfl) (by kernel_rfl) ?hqx7 ?hyx7 hHeld ?restx7
  case hix7 => (simp only [List.getElem?_toArray, List.getElem?_cons_zero, List.getElem?_cons_succ]; rfl)
  case hqx7 => exact fun _ _ _ h => h
  case hyx7 => (refine Or.inl ⟨by rfl, ?_⟩; intro w' hSw; (try dsimp only at hSw); go_simp; try with_reducible rfl)
  (try simp only [Act.put, List.setIfInBounds_toArray, List.set_cons_zero, List.set_cons_succ])
  refine' wpAnyT_take (i := 8) (oi := ?oix8) (v := ?vx8) ?hix8 (by kernel_rfl) (by kernel_rfl) ?hqx8 ?hyx8 hHeld ?restx8
  case hix8 => (simp only [List.getElem?_toArray, List.getElem?_cons_zero, List.getElem?_cons_succ]; rfl)
  case hqx8 => exact fun _ _ _ h => h
  case hyx8 => (refine Or.inl ⟨by rfl, ?_⟩; intro w' hSw; (try dsimp only at hSw); go_simp; try with_reducible rfl)
  (try simp only [Act.put, List.setIfInBounds_toArray, List.set_cons_zero, List.set_cons_succ])
  refine' wpAnyT_take (i := 9) (oi := ?oix9) (v := ?vx9) ?hix9 (by kernel_rfl) (by kernel_rfl) ?hqx9 ?hyx9 hHeld ?restx9
  case hix9 => (simp only [List.getElem?_toArray, List.getElem?_cons_zero, List.getElem?_cons_succ]; rfl)
  case hqx9 => exact fun _ _ _ h => h
  case hyx9 => (refine Or.inl ⟨by rfl, ?_⟩; intro w' hSw; (try dsimp only at hSw); go_simp; try with_reducible rfl)
  (try simp only [Act.put, List.setIfInBounds_toArray, List.set_cons_zero, List.set_cons_succ])
  refine' wpAnyT_take (i := 10) (oi := ?oix10) (v := ?vx10) ?hix10 (by kernel_rfl) (by kernel_rfl) ?hqx10 ?hyx10 hHeld ?restx10
  case hix10 => (simp only [List.getElem?_toArray, List.getElem?_cons_zero, List.getElem?_cons_succ]; rfl)
  case hqx10 => exact fun _ _ _ h => h
  case hyx10 => (refine Or.inl ⟨by rfl, ?_⟩; intro w' hSw; (try dsimp only at hSw); go_simp; try with_reducible rfl)
  (try simp only [Act.put, List.setIfInBounds_toArray, List.set_cons_zero, List.set_cons_succ])
  refine' wpAnyT_take (i := 11) (oi := ?oix11) (v := ?vx11) ?hix11 (by kernel_rfl) (by kernel_rfl) ?hqx11 ?hyx11 hHeld ?restx11
  case hix11 => (simp only [List.getElem?_toArray, List.getElem?_cons_zero, List.getElem?_cons_succ]; rfl)
  case hqx11 => exact fun _ _ _ h => h
  case hyx11 => (refine Or.inl ⟨by rfl, ?_⟩; intro w' hSw; (try dsimp only at hSw); go_simp; try with_reducible rfl)
  (try simp only [Act.put, List.setIfInBounds_toArray, List.set_cons_zero, List.set_cons_succ])
  refine' wpAnyT_take (i := 12) (oi := ?oix12) (v := ?vx12) ?hix12 (by kernel_rfl) (by kernel_rfl) ?hqx12 ?hyx12 hHeld ?restx12
  case hix12 => (simp only [List.getElem?_toArray, List.getElem?_cons_zero, List.getElem?_cons_succ]; rfl)
  case hqx12 => exact fun _ _ _ h => h
  case hyx12 => (refine Or.inl ⟨by rfl, ?_⟩; intro w' hSw; (try dsimp only at hSw); go_simp; try with_reducible rfl)
  (try simp only [Act.put, List.setIfInBounds_toArray, List.set_cons_zero, List.set_cons_succ])
  refine' wpAnyT_take (i := 14) (oi := ?oix14) (v := ?vx14) ?hix14 (by kernel_rfl) (by kernel_rfl) ?hqx14 ?hyx14 hHeld ?restx14
  case hix14 => (simp only [List.getElem?_toArray, List.getElem?_cons_zero, List.getElem?_cons_succ]; rfl)
  case hqx14 => exact fun _ _ _ h => h
  case hyx14 => (refine Or.inl ⟨by rfl, ?_⟩; intro w' hSw; (try dsimp only at hSw); go_simp; try with_reducible rfl)
  (try simp only [Act.put, List.setIfInBounds_toArray, List.set_cons_zero, List.set_cons_succ])
  refine' wpAnyT_one (i := 13) (o := ?oix13) (by kernel_rfl) ?hix13 (fun K hK => ?stx13)
  case hix13 => (simp only [List.getElem?_toArray, List.getElem?_cons_zero, List.getElem?_cons_succ]; rfl)
  go_simp
  go_at_call 13
  (with_reducible refine (HCK.out _).mono ?_)
  rintro _ X2 ⟨rfl, hb⟩
  have HB := hid (HB.out.trans (hb.mono HB.out.size))
  have hHeld := HK.out X2 HB.out
  clear hb
  refine hK.out _ _ (fun _ => hHeld) ?_
  clear hK K
  (try simp only [Act.put, List.setIfInBounds_toArray, List.set_cons_zero, List.set_cons_succ])
  refine' wpAnyT_one (i := 15) (o := ?oix15) (by kernel_rfl) ?hix15 (fun K hK => ?stx15)
  case hix15 => (simp only [List.getElem?_toArray, List.getElem?_cons_zero, List.getElem?_cons_succ]; rfl)
  go_simp
  go_at_call 14
  (with_reducible refine (HRC.out _).mono ?_)
  rintro _ X3 ⟨rfl, hb⟩
  have HB := hid (HB.out.trans (hb.mono HB.out.size))
  have hHeld := HK.out X3 HB.out
  clear hb
  refine hK.out _ _ (fun _ => hHeld) ?_
  clear hK K
  (try simp only [Act.put, List.setIfInBounds_toArray, List.set_cons_zero, List.set_cons_succ])
  refine' wpAnyT_take (i := 16) (oi := ?oix16) (v := ?vx16) ?hix16 (by kernel_rfl) (by kernel_rfl) ?hqx16 ?hyx16 hHeld ?restx16
  case hix16 => (simp only [List.getElem?_toArray, List.getElem?_cons_zero, List.getElem?_cons_succ]; rfl)
  case hqx16 => exact fun _ _ _ h => h
  case hyx16 => (refine Or.inl ⟨by rfl, ?_⟩; intro w' hSw; (try dsimp only at hSw); go_simp; try with_reducible rfl)
  (try simp only [Act.put, List.setIfInBounds_toArray, List.set_cons_zero, List.set_cons_succ])
  refine' wpAnyT_take (i := 17) (oi := ?oix17) (v := ?vx17) ?hix17 (by kernel_rfl) (by kernel_rfl) ?hqx17 ?hyx17 hHeld ?restx17
  case hix17 => (simp only [List.getElem?_toArray, List.getElem?_cons_zero, List.getElem?_cons_succ]; rfl)
  case hqx17 => exact fun _ _ _ h => h
  case hyx17 => (refine Or.inl ⟨by rfl, ?_⟩; intro w' hSw; (try dsimp only at hSw); go_simp; try with_reducible rfl)
  (try simp only [Act.put, List.setIfInBounds_toArray, List.set_cons_zero, List.set_cons_succ])
  refine' wpAnyT_take (i := 18) (oi := ?oix18) (v := ?vx18) ?hix18 (by kernel_rfl) (by kernel_rfl) ?hqx18 ?hyx18 hHeld ?restx18
  case hix18 => (simp only [List.getElem?_toArray, List.getElem?_cons_zero, List.getElem?_cons_succ]; rfl)
  case hqx18 => exact fun _ _ _ h => h
  case hyx18 => (refine Or.inl ⟨by rfl, ?_⟩; intro w' hSw; (try dsimp only at hSw); go_simp; try with_reducible rfl)
  (try simp only [Act.put, List.setIfInBounds_toArray, List.set_cons_zero, List.set_cons_succ])
  refine' wpAnyT_take (i := 19) (oi := ?oix19) (v := ?vx19) ?hix19 (by kernel_rfl) (by kernel_rfl) ?hqx19 ?hyx19 hHeld ?restx19
  case hix19 => (simp only [List.getElem?_toArray, List.getElem?_cons_zero, List.getElem?_cons_succ]; rfl)
  case hqx19 => exact fun _ _ _ h => h
  case hyx19 => (refine Or.inl ⟨by rfl, ?_⟩; intro w' hSw; (try dsimp only at hSw); go_simp; try with_reducible rfl)
  (try simp only [Act.put, List.setIfInBounds_toArray, List.set_cons_zero, List.set_cons_succ])
  refine' wpAnyT_take (i := 20) (oi := ?oix20) (v := ?vx20) ?hix20 (by kernel_rfl) (by kernel_rfl) ?hqx20 ?hyx20 hHeld ?restx20
  case hix20 => (simp only [List.getElem?_toArray, List.getElem?_cons_zero, List.getElem?_cons_succ]; rfl)
  case hqx20 => exact fun _ _ _ h => h
  case hyx20 => (refine Or.inl ⟨by rfl, ?_⟩; intro w' hSw; (try dsimp only at hSw); go_simp; try with_reducible rfl)
  (try simp only [Act.put, List.setIfInBounds_toArray, List.set_cons_zero, List.set_cons_succ])
  refine' wpAnyT_take (i := 21) (oi := ?oix21) (v := ?vx21) ?hix21 (by kernel_rfl) (by kernel_rfl) ?hqx21 ?hyx21 hHeld ?restx21
  case hix21 => (simp only [List.getElem?_toArray, List.getElem?_cons_zero, List.getElem?_cons_succ]; rfl)
  case hqx21 => exact fun _ _ _ h => h
  case hyx21 => (refine Or.inl ⟨by rfl, ?_⟩; intro w' hSw; (try dsimp only at hSw); go_simp; try with_reducible rfl)
  (try simp only [Act.put, List.setIfInBounds_toArray, List.set_cons_zero, List.set_cons_succ])
  refine' wpAnyT_take (i := 23) (oi := ?oix23) (v := ?vx23) ?hix23 (by kernel_rfl) (by kernel_rfl) ?hqx23 ?hyx23 hHeld ?restx23
  case hix23 => (simp only [List.getElem?_toArray, List.getElem?_cons_zero, List.getElem?_cons_succ]; rfl)
  case hqx23 => exact fun _ _ _ h => h
  case hyx23 => (refine Or.inl ⟨by rfl, ?_⟩; intro w' hSw; (try dsimp only at hSw); go_simp; try with_reducible rfl)
  (try simp only [Act.put, List.setIfInBounds_toArray, List.set_cons_zero, List.set_cons_succ])
  refine' wpAnyT_take (i := 24) (oi := ?oix24) (v := ?vx24) ?hix24 (by kernel_rfl) (by kernel_rfl) ?hqx24 ?hyx24 hHeld ?restx24
  case hix24 => (simp only [List.getElem?_toArray, List.getElem?_cons_zero, List.getElem?_cons_succ]; rfl)
  case hqx24 => exact fun _ _ _ h => h
  case hyx24 => (refine Or.inl ⟨by rfl, ?_⟩; intro w' hSw; (try dsimp only at hSw); go_simp; try with_reducible rfl)
  (try simp only [Act.put, List.setIfInBounds_toArray, List.set_cons_zero, List.set_cons_succ])
  refine' wpAnyT_take (i := 25) (oi := ?oix25) (v := ?vx25) ?hix25 (by kernel_rfl) (by kernel_rfl) ?hqx25 ?hyx25 hHeld ?restx25
  case hix25 => (simp only [List.getElem?_toArray, List.getElem?_cons_zero, List.getElem?_cons_succ]; rfl)
  case hqx25 => exact fun _ _ _ h => h
  case hyx25 => (refine Or.inl ⟨by rfl, ?_⟩; intro w' hSw; (try dsimp only at hSw); go_simp; try with_reducible rfl)
  (try simp only [Act.put, List.setIfInBounds_toArray, List.set_cons_zero, List.set_cons_succ])
  refine' wpAnyT_one (i := 22) (o := ?oix22) (by kernel_rfl) ?hix22 (fun K hK => ?stx22)
  case hix22 => (simp only [List.getElem?_toArray, List.getElem?_cons_zero, List.getElem?_cons_succ]; rfl)
  go_simp
  go_at_call 15
  (with_reducible refine (HAC.out _).mono ?_)
  rintro _ X4 ⟨rfl, hb⟩
  have HB := hid (HB.out.trans (hb.mono HB.out.size))
  have hHeld := HK.out X4 HB.out
  clear hb
  refine hK.out _ _ (fun _ => hHeld) ?_
  clear hK K
  (try simp only [Act.put, List.setIfInBounds_toArray, List.set_cons_zero, List.set_cons_succ])
  refine' wpAnyT_one (i := 26) (o := ?oix26) (by kernel_rfl) ?hix26 (fun K hK => ?stx26)
  case hix26 => (simp only [List.getElem?_toArray, List.getElem?_cons_zero, List.getElem?_cons_succ]; rfl)
  go_simp
  go_at_call 16
  (with_reducible refine (HRA.out _).mono ?_)
  rintro _ X5 ⟨rfl, hb⟩
  have HB := hid (HB.out.trans (hb.mono HB.out.size))
  have hHeld := HK.out X5 HB.out
  clear hb
  refine hK.out _ _ (fun _ => hHeld) ?_
  clear hK K
  (try simp only [Act.put, List.setIfInBounds_toArray, List.set_cons_zero, List.set_cons_succ])
  refine' wpAnyT_take (i := 27) (oi := ?oix27) (v := ?vx27) ?hix27 (by kernel_rfl) (by kernel_rfl) ?hqx27 ?hyx27 hHeld ?restx27
  case hix27 => (simp only [List.getElem?_toArray, List.getElem?_cons_zero, List.getElem?_cons_succ]; rfl)
  case hqx27 => exact fun _ _ _ h => h
  case hyx27 => (refine Or.inl ⟨by rfl, ?_⟩; intro w' hSw; (try dsimp only at hSw); go_simp; try with_reducible rfl)
  (try simp only [Act.put, List.setIfInBounds_toArray, List.set_cons_zero, List.set_cons_succ])
  refine' wpAnyT_take (i := 28) (oi := ?oix28) (v := ?vx28) ?hix28 (by kernel_rfl) (by kernel_rfl) ?hqx28 ?hyx28 hHeld ?restx28
  case hix28 => (simp only [List.getElem?_toArray, List.getElem?_cons_zero, List.getElem?_cons_succ]; rfl)
  case hqx28 => exact fun _ _ _ h => h
  case hyx28 => (refine Or.inl ⟨by rfl, ?_⟩; intro w' hSw; (try dsimp only at hSw); go_simp; try with_reducible rfl)
  (try simp only [Act.put, List.setIfInBounds_toArray, List.set_cons_zero, List.set_cons_succ])
  refine' wpAnyT_one (i := 29) (o := ?oix29) (by kernel_rfl) ?hix29 (fun K hK => ?stx29)
  case hix29 => (simp only [List.getElem?_toArray, List.getElem?_cons_zero, List.getElem?_cons_succ]; rfl)
  go_simp
  refine hK.out _ _ (fun h => absurd h (by decide)) ?_
  clear hK K
  (try simp only [Act.put, List.setIfInBounds_toArray, List.set_cons_zero, List.set_cons_succ])
  refine wpAnyT_done (by kernel_rfl) ?_ _
  go_wp2_with fail
  go_ret
  exact ⟨rfl, by rw [HG.out]; exact HB9.out.trans (HB.out.mono HS0.out)⟩
end Go.Proofs.Ytkdladacmjkdoaa
