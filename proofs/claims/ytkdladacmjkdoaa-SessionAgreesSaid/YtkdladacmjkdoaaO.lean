/- Close. -/
import Derived.Test.YtkdladacmjkdoaaG
namespace Go.Proofs.Ytkdladacmjkdoaa
open Go.RowKit Go.Lib
/-- What Close returns. -/
def closeR (s : Ses) : Ses × List Mes := if chk s = 0 ∧ s.p ≠ 0 then ({ s with p := 0, d := 0 }, [nm 7 { s with p := 0, d := 0 }]) else (s, [])
def PairQ (x : Ses × List Mes) (w : World) (f : Ending) (w' : World) : Prop := ∃ v, f = .returned (.tuple #[sv x.1, v]) ∧ MsgQ w.heap.size w' v x.2 ∧ Below w.heap.size w w'
set_option maxHeartbeats 4000000 in
set_option maxRecDepth 100000 in
theorem closeS_any (s : Ses) (w : World) : Calls Try.prog 22 #[sv s] w (PairQ (closeR s) w) := by
  obtain ⟨g, hg⟩ : ∃ g, w.heap.size = g := ⟨_, rfl⟩
  obtain ⟨W2, hW2⟩ : ∃ X, (w.alloc (.cells (cS s) 23)).alloc (.cells (cS z6) 23) = X := ⟨_, rfl⟩
  have HB2 : Hid (Below g w W2) := hid (by rw [← hW2, ← hg]; exact below_both (al1 w _) (al1 _ _))
  have H3 : Hid (W2.heap[g]? = some (.cells (cS s) 23)) := hid (by rw [← hW2, ← hg]; exact (Below.heap_alloc _ _ _ (by rw [World.size_alloc]; omega)).trans (heap_alloc_new w _))
  have H6 : Hid (W2.heap[g + 1]? = some (.cells (cS z6) 23)) := hid (by rw [← hW2, ← hg]; exact new_two w _ _)
  obtain ⟨c, hc⟩ : ∃ c, chk s = c := ⟨_, rfl⟩
  have HCK := hid (check_any s W2)
  obtain ⟨R, hR⟩ : ∃ R, closeR s = R := ⟨_, rfl⟩
  rw [hR]
  unfold closeR at hR
  rw [hc] at HCK hR
  obtain ⟨y0, y1, y2, y3, y4, y5⟩ := load6 H3.out
  have HW2 := hid hW2
  have HG := hid hg
  clear hW2 hg hc
  obtain ⟨l, r, se, sn, sp, sd⟩ := s
  unfold sv
  simp only at y0 y1 y2 y3 y4 y5 hR ⊢
  simp only [cS, z6] at HW2
  by_cases c0 : c = 0
  rotate_left
  · have d0 : (c != 0) = true := by simp [c0]
    rw [if_neg (fun h => c0 h.1)] at hR
    have HR := hid hR
    clear hR
    go_enter Try.func22, Try.ntmps22
    go_upto_region 1 with fail
    rw [HG.out, HW2.out]
    go_wp2_with (go_at_call 13; refine HCK.out.mono ?_; rintro e' w3 ⟨rfl, hb⟩; have HB3 := hid (HB2.out.trans (hb.mono (Nat.le_of_lt (box_lt H3.out)))); have h3' := (hb.block _ (box_lt H3.out)).trans H3.out; have h6' := (hb.block _ (box_lt H6.out)).trans H6.out; have H6' := hid h6'; obtain ⟨u0, u1, u2, u3, u4, u5⟩ := load6 h3'; obtain ⟨v0, v1, v2, v3, v4, v5⟩ := load6 h6'; have f6 := box_fr h6'; clear hb h3' h6')
    refine bodyPost_ret (results_s1 rfl _ _ (g + 1) 23 ⟨l, r, se, sn, sp, sd⟩ rfl (set6h ⟨l, r, se, sn, sp, sd⟩ H6'.out) _ rfl) rfl ?_
    rw [← HR.out]
    exact ⟨_, rfl, msgQ_nil _ _, by rw [HG.out]; exact set6b ⟨l, r, se, sn, sp, sd⟩ HB3.out (Nat.le_succ _)⟩
  subst c0
  by_cases p0 : sp = 0
  · subst p0
    rw [if_neg (fun h => h.2 rfl)] at hR
    have HR := hid hR
    clear hR
    go_enter Try.func22, Try.ntmps22
    go_upto_region 1 with fail
    rw [HG.out, HW2.out]
    go_wp2_with (go_at_call 13; refine HCK.out.mono ?_; rintro e' w3 ⟨rfl, hb⟩; have HB3 := hid (HB2.out.trans (hb.mono (Nat.le_of_lt (box_lt H3.out)))); have h3' := (hb.block _ (box_lt H3.out)).trans H3.out; have h6' := (hb.block _ (box_lt H6.out)).trans H6.out; have H6' := hid h6'; obtain ⟨u0, u1, u2, u3, u4, u5⟩ := load6 h3'; obtain ⟨v0, v1, v2, v3, v4, v5⟩ := load6 h6'; have f6 := box_fr h6'; clear hb h3' h6')
    refine bodyPost_ret (results_s1 rfl _ _ (g + 1) 23 ⟨l, r, se, sn, 0, sd⟩ rfl (set6h ⟨l, r, se, sn, 0, sd⟩ H6'.out) _ rfl) rfl ?_
    rw [← HR.out]
    exact ⟨_, rfl, msgQ_nil _ _, by rw [HG.out]; exact set6b ⟨l, r, se, sn, 0, sd⟩ HB3.out (Nat.le_succ _)⟩
  have q0 : (sp == 0) = false := by simp [p0]
  rw [if_pos ⟨rfl, p0⟩] at hR
  clear p0
  go_enter Try.func22, Try.ntmps22
  go_upto_region 1 with fail
  rw [HG.out, HW2.out]
  go_upto_region 5 with (first
   | (go_at_call 13; refine HCK.out.mono ?_; rintro e' w3 ⟨rfl, hb⟩; have HB3 := hid (HB2.out.trans (hb.mono (Nat.le_of_lt (box_lt H3.out)))); have h3' := (hb.block _ (box_lt H3.out)).trans H3.out; have h6' := (hb.block _ (box_lt H6.out)).trans H6.out; have H6' := hid h6'; obtain ⟨u0, u1, u2, u3, u4, u5⟩ := load6 h3'; obtain ⟨v0, v1, v2, v3, v4, v5⟩ := load6 h6'; have f6 := box_fr h6'; clear hb h3' h6')
   | (go_at_call 37; refine (close_any _ ⟨l, r, se, sn, sp, sd⟩ _ (heap_alloc_new _ _)).mono ?_; rintro e' w5 ⟨rfl, he5, hu5⟩; have HE5 := hid he5; have HU5 := hid hu5; clear he5 hu5))
  have h3l := box_lt H6'.out
  obtain ⟨X0, hX0⟩ : ∃ X, w5.drew = X := ⟨_, rfl⟩
  have hE0 : EndAt X0 w3.heap.size ⟨l, r, se, sn, 0, 0⟩ := by rw [← hX0]; exact HE5.out
  have hU0 : Upd w3.heap.size w3 X0 := by rw [← hX0]; exact (((Upd.refl _ w3).alloc _).trans HU5.out).drew
  have h60 : X0.heap[g + 1]? = some (.cells (cS z6) 23) := (hU0.block _ h3l (by omega)).trans H6'.out
  obtain ⟨h, hh⟩ : ∃ h, w3.heap.size = h := ⟨_, rfl⟩
  have HB0 : Hid (Below g w X0) := hid (HB3.out.trans (hU0.below (by omega) (by omega)))
  rw [hh] at hE0 hU0 h3l ⊢
  have HX0 := hid hX0
  have hHeld := load6 hE0
  simp only at hHeld
  have HSN := hid (send_any h ⟨l, r, se, sn, 0, 0⟩ 7 X0 hE0)
  have HE0 := hid hE0
  have HL := hid h3l
  have H60 := hid h60
  have HR := hid hR
  clear hX0 hE0 hU0 h60 hh u0 u1 u2 u3 u4 u5 v0 v1 v2 v3 v4 v5 f6 y0 y1 y2 y3 y4 y5 hR h3l
  refine region_tail 3 (fun X => X.cell? ⟨h, 0, none⟩ = some (.int .i64 l) ∧ X.cell? ⟨h, 1, none⟩ = some (.int .i64 r) ∧ X.cell? ⟨h, 2, none⟩ = some (.int .i64 se) ∧ X.cell? ⟨h, 3, none⟩ = some (.int .i64 sn) ∧ X.cell? ⟨h, 4, none⟩ = some (.int .i64 0) ∧ X.cell? ⟨h, 5, none⟩ = some (.int .i64 0)) (by kernel_rfl) ?_
  rw [HX0.out]
  refine' wpAnyT_take (i := 0) (oi := ?oix0) (v := ?vx0) ?hix0 (by kernel_rfl) (by kernel_rfl) ?hqx0 ?hyx0 hHeld ?restx0
  case hix0 => (simp only [List.getElem?_toArray, List.getElem?_cons_zero]; rfl)
  case hqx0 => exact fun _ _ _ h => h
  case hyx0 => (refine Or.inl ⟨by rfl, ?_⟩; intro w' hSw; (try dsimp only at hSw); go_simp; try with_reducible rfl)
  (try simp only [Act.put, List.setIfInBounds_toArray, List.set_cons_zero, List.set_cons_succ])
  refine' wpAnyT_take (i := 1) (oi := ?oix1) (v := ?vx1) ?hix1 (by kernel_rfl) (by kernel_rfl) ?hqx1 ?hyx1 hHeld ?restx1
  case hix1 => (simp only [List.getElem?_toArray, List.getElem?_cons_zero, List.getElem?_cons_succ]; rfl)
  case hqx1 => exact fun _ _ _ h => h
  case hyx1 => (refine Or.inl ⟨by rfl, ?_⟩; intro w' hSw; (try dsimp only at hSw); go_simp; try with_reducible rfl)
  (try simp only [Act.put, List.setIfInBounds_toArray, List.set_cons_zero, List.set_cons_succ])
  refine' wpAnyT_one (i := 2) (o := ?oix2) (by kernel_rfl) ?hix2 (fun K hK => ?stx2)
  case hix2 => (simp only [List.getElem?_toArray, List.getElem?_cons_zero, List.getElem?_cons_succ]; rfl)
  go_simp
  go_at_call 33
  refine HSN.out.mono ?_
  rintro e' X1 ⟨v, rfl, hm, hb⟩
  have HM1 := hid hm
  have HB1 := hid (HB0.out.trans (hb.mono (Nat.le_of_lt (Nat.lt_of_succ_lt (box_lt H60.out)))))
  have h61 := (hb.block _ (box_lt H60.out)).trans H60.out
  have H61 := hid h61
  obtain ⟨v0, v1, v2, v3, v4, v5⟩ := load6 h61
  have f6 := box_fr h61
  have hHeld := load6 ((hb.block _ (box_lt HE0.out)).trans HE0.out)
  simp only at hHeld
  clear hm hb h61
  refine hK.out _ _ (fun _ => hHeld) ?_
  clear hK K
  (try simp only [Act.put, List.setIfInBounds_toArray, List.set_cons_zero, List.set_cons_succ])
  refine' wpAnyT_one (i := 3) (o := ?oix3) (by kernel_rfl) ?hix3 (fun K hK => ?stx3)
  case hix3 => (simp only [List.getElem?_toArray, List.getElem?_cons_zero, List.getElem?_cons_succ]; rfl)
  go_simp
  refine hK.out _ _ (fun h => absurd h (by decide)) ?_
  clear hK K
  (try simp only [Act.put, List.setIfInBounds_toArray, List.set_cons_zero, List.set_cons_succ])
  refine' wpAnyT_one (i := 4) (o := ?oix4) (by kernel_rfl) ?hix4 (fun K hK => ?stx4)
  case hix4 => (simp only [List.getElem?_toArray, List.getElem?_cons_zero, List.getElem?_cons_succ]; rfl)
  go_simp
  refine hK.out _ _ (fun h => absurd h (by decide)) ?_
  clear hK K
  (try simp only [Act.put, List.setIfInBounds_toArray, List.set_cons_zero, List.set_cons_succ])
  refine wpAnyT_done (by kernel_rfl) ?_ _
  go_wp2_with fail
  refine bodyPost_ret (results_s1 rfl _ _ (g + 1) 23 ⟨l, r, se, sn, 0, 0⟩ rfl (set6h ⟨l, r, se, sn, 0, 0⟩ H61.out) _ rfl) rfl ?_
  rw [← HR.out]
  refine ⟨v, rfl, ?_, ?_⟩
  · refine HM1.out.keep (by have := HB0.out.size; have := HG.out; omega) (fun b x hb hx => ?_)
    have hne : b ≠ g + 1 := by have := box_lt H60.out; omega
    exact ((set6u (g := g + 1) ⟨l, r, se, sn, 0, 0⟩ (Upd.refl _ X1)).block b (box_lt hx) hne).trans hx
  · rw [HG.out]
    exact set6b ⟨l, r, se, sn, 0, 0⟩ HB1.out (Nat.le_succ _)
end Go.Proofs.Ytkdladacmjkdoaa
