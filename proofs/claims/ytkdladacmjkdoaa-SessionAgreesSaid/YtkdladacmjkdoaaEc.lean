/- step of the other end; step whole. -/
import Derived.Test.YtkdladacmjkdoaaEb
namespace Go.Proofs.Ytkdladacmjkdoaa
open Go.RowKit Go.Lib
set_option maxHeartbeats 16000000 in
set_option maxRecDepth 100000 in
theorem step_close_t (a b : Ses) (sent : List Mes) (u : Value) (kd wh : Int) (now : Int) (base n : Nat) (w : World) (hbs : base ≤ w.heap.size) (hn : sent.length = n) (hnl : n ≤ 1000) (how : w.ownsRow base 47 8 u n (sent.map cM).flatten) (hkd : 0 ≤ kd ∧ kd ≤ 255) (_hwh : 0 ≤ wh ∧ wh ≤ 255) (hnow : 0 ≤ now ∧ now ≤ 1000) (hk : kd % 7 = 6) :
    Calls Try.prog 27 #[tv a b, u, .agg #[.int .u8 kd, .bool true, .int .u8 wh], .int .i64 now] w (StepQ base a (actS b sent (kd % 7) wh now).1 (sent ++ (actS b sent (kd % 7) wh now).2) w) := by
  obtain ⟨A0, c0, rfl⟩ := ownAny_form how
  obtain ⟨q, hq⟩ : ∃ q, kd % 7 = q := ⟨_, rfl⟩
  have tq : kd.tmod 7 = q := by rw [Int.tmod_eq_emod_of_nonneg hkd.1]; exact hq
  have wq : wrap64 q = q := w64 (by omega) (by omega)
  rw [hq]
  obtain ⟨g, hg⟩ : ∃ g, w.heap.size = g := ⟨_, rfl⟩
  obtain ⟨al, ar, ae, an, ap, ad⟩ := a
  obtain ⟨bl, br, be, bn, bp, bd⟩ := b
  obtain ⟨W0, hW⟩ : ∃ X, ((w.alloc (.cells (cT ⟨al, ar, ae, an, ap, ad⟩ ⟨bl, br, be, bn, bp, bd⟩) 54)).alloc (.cells #[.int .u8 kd, .bool true, .int .u8 wh] 61)).alloc (.cells (cT z6 z6) 54) = X := ⟨_, rfl⟩
  have kt : W0.heap[g]? = some (.cells (cT ⟨al, ar, ae, an, ap, ad⟩ ⟨bl, br, be, bn, bp, bd⟩) 54) := by rw [← hW, ← hg]; exact old_al2 (old_al2 (heap_alloc_new w _) _) _
  have km : W0.heap[g + 1]? = some (.cells #[.int .u8 kd, .bool true, .int .u8 wh] 61) := by rw [← hW, ← hg]; exact old_al2 (new_two w _ _) _
  have kr : W0.heap[g + 2]? = some (.cells (cT z6 z6) 54) := by rw [← hW, ← hg]; exact new_three2 w _ _ _
  have HB : Hid (Below g w W0) := hid (by rw [← hW, ← hg]; exact below_both (below_both (al1 w _) (al1 _ _)) (al1 _ _))
  have HSN : Hid (g ≤ W0.heap.size) := hid (Nat.le_of_lt (box_lt kt))
  have HG := hid hg
  have HKt := hid kt
  have HKm := hid km
  have HKr := hid kr
  have HBS := hid hbs
  have HLN := hid hn
  have HNL := hid hnl
  have HOW := hid how
  have HNOW : Hid (R64 now) := hid (by unfold R64; omega)
  obtain ⟨⟨t0, t1, t2, t3, t4, t5⟩, t6, t7, t8, t9, t10, t11⟩ := load12 kt
  simp only at t0 t1 t2 t3 t4 t5 t6 t7 t8 t9 t10 t11
  have m0 : W0.cell? ⟨g + 1, 0, none⟩ = some (.int .u8 kd) := cell_of_row _ _ 0 _ _ _ km
  have m1 : W0.cell? ⟨g + 1, 1, none⟩ = some (.bool true) := cell_of_row _ _ 1 _ _ _ km
  have m2 : W0.cell? ⟨g + 1, 2, none⟩ = some (.int .u8 wh) := cell_of_row _ _ 2 _ _ _ km
  have ft := box_fr kt
  unfold tv
  simp only [cT, z6] at hW
  have HWW := hid hW
  clear hg hW kt km kr hbs hn how hnl
  obtain ⟨⟨⟨xl, xr, xe, xn, xp, xd⟩, ms⟩, hx⟩ : ∃ r, closeR ⟨bl, br, be, bn, bp, bd⟩ = r := ⟨_, rfl⟩
  have h1 := fun W => closeS_any ⟨bl, br, be, bn, bp, bd⟩ W
  rw [hx] at h1
  have HC : Hid (∀ W, Calls Try.prog 22 #[.agg #[.int .i64 bl, .int .i64 br, .int .i64 be, .int .i64 bn, .int .i64 bp, .int .i64 bd]] W fun f w' => ∃ v, f = .returned (.tuple #[.agg #[.int .i64 xl, .int .i64 xr, .int .i64 xe, .int .i64 xn, .int .i64 xp, .int .i64 xd], v]) ∧ MsgQ W.heap.size w' v ms ∧ Below W.heap.size W w') := hid h1
  have HML : Hid (ms.length ≤ 1) := hid (by have h2 := closeR_len ⟨bl, br, be, bn, bp, bd⟩; rw [hx] at h2; exact h2)
  have hact : actS ⟨bl, br, be, bn, bp, bd⟩ sent 6 wh now = (⟨xl, xr, xe, xn, xp, xd⟩, ms) := by unfold actS; rw [if_neg (by decide), if_neg (by decide), if_pos rfl]; rw [hx]
  obtain rfl : q = 6 := by omega
  rw [hact]
  clear hact h1 hx hq
  go_enter Try.func27, Try.ntmps27
  go_upto_region 1 with fail
  rw [HWW.out, HG.out]
  clear HWW
  go_upto_region 16 with (go_at_call 22; (with_reducible refine (HC.out _).mono ?_); rintro _ wn ⟨v9, rfl, hm, hb⟩; have HMQ := hid (hm.keep (Nat.zero_le _) (fun _ _ _ h => h)); clear hm; have kt := (hb.block _ (box_lt HKt.out)).trans HKt.out; have km := (hb.block _ (box_lt HKm.out)).trans HKm.out; have kr := (hb.block _ (box_lt HKr.out)).trans HKr.out; have HKt := hid kt; have HKm := hid km; have HKr := hid kr; have HB := hid (HB.out.trans (hb.mono HSN.out)); have HSN := hid (Nat.le_trans HSN.out hb.size); obtain ⟨⟨t0, t1, t2, t3, t4, t5⟩, t6, t7, t8, t9, t10, t11⟩ := load12 kt; simp only at t0 t1 t2 t3 t4 t5 t6 t7 t8 t9 t10 t11; have ft := box_fr kt; clear hb kt km kr)
  obtain ⟨Wt, hWt⟩ : ∃ X, setHi wn g ⟨xl, xr, xe, xn, xp, xd⟩ = X := ⟨_, rfl⟩
  have HMS : Hid (Msgs Wt v9 ms) := hid (by rw [← hWt]; exact (HMQ.out.keepT (Nat.le_refl _) (hi_keep ⟨xl, xr, xe, xn, xp, xd⟩ HKt.out (by decide))).msgs)
  have HKr := hid (show Wt.heap[g + 2]? = some (.cells (cT z6 z6) 54) by rw [← hWt]; exact hi_off _ (by omega) HKr.out)
  have HB := hid (show Below g w Wt by rw [← hWt]; exact hi_b ⟨xl, xr, xe, xn, xp, xd⟩ HB.out (Nat.le_refl _))
  have HKt := hid (show Wt.heap[g]? = some (.cells (cT ⟨al, ar, ae, an, ap, ad⟩ ⟨xl, xr, xe, xn, xp, xd⟩) 54) by rw [← hWt]; exact hi_h ⟨xl, xr, xe, xn, xp, xd⟩ HKt.out)
  have HWt := hid hWt
  simp only [setHi] at HWt
  clear hWt t0 t1 t2 t3 t4 t5 t6 t7 t8 t9 t10 t11 ft m0 m1 m2
  rw [HWt.out]
  go_upto_region 16 with fail
  obtain ⟨X0, hX0⟩ : ∃ X, Wt.drew = X := ⟨_, rfl⟩
  have j1 : X0.heap[g]? = some (.cells (cT ⟨al, ar, ae, an, ap, ad⟩ ⟨xl, xr, xe, xn, xp, xd⟩) 54) := by rw [← hX0]; exact HKt.out
  have j2 : X0.heap[g + 2]? = some (.cells (cT z6 z6) 54) := by rw [← hX0]; exact HKr.out
  have HB0 : Hid (Below g w X0) := hid (by rw [← hX0]; exact below_drew HB.out)
  have HMM : Hid (Msgs X0 v9 ms) := hid (by rw [← hX0]; exact HMS.out)
  have J1 := hid j1
  have J2 := hid j2
  have hHeld : X0.cell? ⟨g, 0, none⟩ = some (.int .i64 al) ∧ X0.cell? ⟨g, 1, none⟩ = some (.int .i64 ar) ∧ X0.cell? ⟨g, 2, none⟩ = some (.int .i64 ae) ∧ X0.cell? ⟨g, 3, none⟩ = some (.int .i64 an) ∧ X0.cell? ⟨g, 4, none⟩ = some (.int .i64 ap) ∧ X0.cell? ⟨g, 5, none⟩ = some (.int .i64 ad) ∧ X0.cell? ⟨g, 6, none⟩ = some (.int .i64 xl) ∧ X0.cell? ⟨g, 7, none⟩ = some (.int .i64 xr) ∧ X0.cell? ⟨g, 8, none⟩ = some (.int .i64 xe) ∧ X0.cell? ⟨g, 9, none⟩ = some (.int .i64 xn) ∧ X0.cell? ⟨g, 10, none⟩ = some (.int .i64 xp) ∧ X0.cell? ⟨g, 11, none⟩ = some (.int .i64 xd) := by
    obtain ⟨⟨b0, b1, b2, b3, b4, b5⟩, r⟩ := load12 j1
    exact ⟨b0, b1, b2, b3, b4, b5, r⟩
  have HX0 := hid hX0
  clear hX0 j1 j2 
  refine region_tail 4 (fun X => X.cell? ⟨g, 0, none⟩ = some (.int .i64 al) ∧ X.cell? ⟨g, 1, none⟩ = some (.int .i64 ar) ∧ X.cell? ⟨g, 2, none⟩ = some (.int .i64 ae) ∧ X.cell? ⟨g, 3, none⟩ = some (.int .i64 an) ∧ X.cell? ⟨g, 4, none⟩ = some (.int .i64 ap) ∧ X.cell? ⟨g, 5, none⟩ = some (.int .i64 ad) ∧ X.cell? ⟨g, 6, none⟩ = some (.int .i64 xl) ∧ X.cell? ⟨g, 7, none⟩ = some (.int .i64 xr) ∧ X.cell? ⟨g, 8, none⟩ = some (.int .i64 xe) ∧ X.cell? ⟨g, 9, none⟩ = some (.int .i64 xn) ∧ X.cell? ⟨g, 10, none⟩ = some (.int .i64 xp) ∧ X.cell? ⟨g, 11, none⟩ = some (.int .i64 xd)) (by kernel_rfl) ?_
  rw [HX0.out]
  refine' wpAnyT_take (i := 0) (oi := ?oict0) (v := ?vct0) ?hict0 (by kernel_rfl) (by kernel_rfl) ?hqct0 ?hyct0 hHeld ?restct0
  case hict0 => (simp only [List.getElem?_toArray, List.getElem?_cons_zero]; rfl)
  case hqct0 => exact fun _ _ _ h => h
  case hyct0 => (refine Or.inl ⟨by rfl, ?_⟩; intro w' hSw; (try dsimp only at hSw); go_simp; try with_reducible rfl)
  (try simp only [Act.put, List.setIfInBounds_toArray, List.set_cons_zero, List.set_cons_succ])
  refine' wpAnyT_take (i := 1) (oi := ?oict1) (v := ?vct1) ?hict1 (by kernel_rfl) (by kernel_rfl) ?hqct1 ?hyct1 hHeld ?restct1
  case hict1 => (simp only [List.getElem?_toArray, List.getElem?_cons_zero, List.getElem?_cons_succ]; rfl)
  case hqct1 => exact fun _ _ _ h => h
  case hyct1 => (refine Or.inl ⟨by rfl, ?_⟩; intro w' hSw; (try dsimp only at hSw); go_simp; try with_reducible rfl)
  (try simp only [Act.put, List.setIfInBounds_toArray, List.set_cons_zero, List.set_cons_succ])
  refine' wpAnyT_take (i := 2) (oi := ?oict2) (v := ?vct2) ?hict2 (by kernel_rfl) (by kernel_rfl) ?hqct2 ?hyct2 hHeld ?restct2
  case hict2 => (simp only [List.getElem?_toArray, List.getElem?_cons_zero, List.getElem?_cons_succ]; rfl)
  case hqct2 => exact fun _ _ _ h => h
  case hyct2 => (refine Or.inl ⟨by rfl, ?_⟩; intro w' hSw; (try dsimp only at hSw); go_simp; try with_reducible rfl)
  (try simp only [Act.put, List.setIfInBounds_toArray, List.set_cons_zero, List.set_cons_succ])
  refine' wpAnyT_one (i := 3) (o := ?oict3) (by kernel_rfl) ?hict3 (fun K hK => ?stct3)
  case hict3 => (simp only [List.getElem?_toArray, List.getElem?_cons_zero, List.getElem?_cons_succ]; rfl)
  refine step_append_mes rfl (.tmp 83) (.tmp 84) rfl base _ n _ rfl (own_keep HOW.out (keep_below (HB0.out.mono (by rw [HG.out]; exact Nat.le_refl _)))) ms v9 rfl HMM.out (by have := HNL.out; have := HML.out; omega) (by have := HBS.out; have := HB0.out.size; omega) ?_
  intro v8 X2 hown hgr
  have HK2 : Hid (∀ T, T ≠ 47 → Keep T X0 X2) := hid (fun T hT => keep_grown (own_keep HOW.out (keep_below (HB0.out.mono (by rw [HG.out]; exact Nat.le_refl _)))) hT hgr)
  have HP1 := hid (HK2.out 54 (by decide) _ _ J1.out)
  have HP2 := hid (HK2.out 54 (by decide) _ _ J2.out)
  have HB2 : Hid (Below base w X2) := hid (below_ownE (HB0.out.mono (by have := HBS.out; have := HG.out; omega)) (own_keep HOW.out (keep_below (HB0.out.mono (by rw [HG.out]; exact Nat.le_refl _)))) hgr (by have := HBS.out; have := HB0.out.size; omega) (Nat.le_refl _))
  have HOW2 := hid hown
  have hHeld : X2.cell? ⟨g, 0, none⟩ = some (.int .i64 al) ∧ X2.cell? ⟨g, 1, none⟩ = some (.int .i64 ar) ∧ X2.cell? ⟨g, 2, none⟩ = some (.int .i64 ae) ∧ X2.cell? ⟨g, 3, none⟩ = some (.int .i64 an) ∧ X2.cell? ⟨g, 4, none⟩ = some (.int .i64 ap) ∧ X2.cell? ⟨g, 5, none⟩ = some (.int .i64 ad) ∧ X2.cell? ⟨g, 6, none⟩ = some (.int .i64 xl) ∧ X2.cell? ⟨g, 7, none⟩ = some (.int .i64 xr) ∧ X2.cell? ⟨g, 8, none⟩ = some (.int .i64 xe) ∧ X2.cell? ⟨g, 9, none⟩ = some (.int .i64 xn) ∧ X2.cell? ⟨g, 10, none⟩ = some (.int .i64 xp) ∧ X2.cell? ⟨g, 11, none⟩ = some (.int .i64 xd) := by
    obtain ⟨⟨b0, b1, b2, b3, b4, b5⟩, r⟩ := load12 HP1.out
    exact ⟨b0, b1, b2, b3, b4, b5, r⟩
  clear hown hgr
  refine hK.out _ _ (fun _ => hHeld) ?_
  clear hK K
  (try simp only [Act.put, List.setIfInBounds_toArray, List.set_cons_zero, List.set_cons_succ])
  refine' wpAnyT_one (i := 4) (o := ?oict4) (by kernel_rfl) ?hict4 (fun K hK => ?stct4)
  case hict4 => (simp only [List.getElem?_toArray, List.getElem?_cons_zero, List.getElem?_cons_succ]; rfl)
  obtain ⟨⟨i0, i1, i2, i3, i4, i5⟩, i6, i7, i8, i9, i10, i11⟩ := load12 HP2.out
  simp only [z6] at i0 i1 i2 i3 i4 i5 i6 i7 i8 i9 i10 i11
  have ff := box_fr HP2.out
  go_simp
  obtain ⟨Y, hY⟩ : ∃ X, set12 X2 (g + 2) ⟨al, ar, ae, an, ap, ad⟩ ⟨xl, xr, xe, xn, xp, xd⟩ = X := ⟨_, rfl⟩
  have HY := hid hY
  simp only [set12, set6] at hY
  rw [hY]
  clear hY i0 i1 i2 i3 i4 i5 i6 i7 i8 i9 i10 i11 ff
  refine hK.out _ _ (fun h => absurd h (by decide)) ?_
  clear hK K
  (try simp only [Act.put, List.setIfInBounds_toArray, List.set_cons_zero, List.set_cons_succ])
  refine' wpAnyT_one (i := 5) (o := ?oict5) (by kernel_rfl) ?hict5 (fun K hK => ?stct5)
  case hict5 => (simp only [List.getElem?_toArray, List.getElem?_cons_zero, List.getElem?_cons_succ]; rfl)
  go_simp
  refine hK.out _ _ (fun h => absurd h (by decide)) ?_
  clear hK K
  (try simp only [Act.put, List.setIfInBounds_toArray, List.set_cons_zero, List.set_cons_succ])
  refine wpAnyT_done (by kernel_rfl) ?_ _
  go_wp2_with fail
  refine bodyPost_ret (results_t1 rfl _ _ (g + 2) 54 ⟨al, ar, ae, an, ap, ad⟩ ⟨xl, xr, xe, xn, xp, xd⟩ rfl (by rw [← HY.out]; exact set12h ⟨al, ar, ae, an, ap, ad⟩ ⟨xl, xr, xe, xn, xp, xd⟩ HP2.out) _ rfl) rfl ?_
  refine ⟨v8, rfl, ?_, ?_, fun T hT => ?_⟩
  · have e : ((sent ++ ms).map cM).flatten = (sent.map cM).flatten ++ ((ms).map cM).flatten := by rw [List.map_append, List.flatten_append]
    rw [e, List.length_append, HLN.out]
    exact own_keep HOW2.out (by rw [← HY.out]; exact keepT_set12 _ _ HP2.out (by decide))
  · rw [← HY.out]
    exact set12b _ _ HB2.out (by have := HBS.out; have := HG.out; omega)
  · rw [← HY.out]
    exact keepO_set12 _ _ (Keep.trans (keep_below (HB0.out.mono (by rw [HG.out]; exact Nat.le_refl _))) (HK2.out T hT)) (by have := HG.out; omega)
set_option maxHeartbeats 16000000 in
set_option maxRecDepth 100000 in
theorem step_exp_t (a b : Ses) (sent : List Mes) (u : Value) (kd wh : Int) (now : Int) (base n : Nat) (w : World) (hbs : base ≤ w.heap.size) (hn : sent.length = n) (hnl : n ≤ 1000) (how : w.ownsRow base 47 8 u n (sent.map cM).flatten) (hkd : 0 ≤ kd ∧ kd ≤ 255) (_hwh : 0 ≤ wh ∧ wh ≤ 255) (hnow : 0 ≤ now ∧ now ≤ 1000) (hk : kd % 7 = 5) :
    Calls Try.prog 27 #[tv a b, u, .agg #[.int .u8 kd, .bool true, .int .u8 wh], .int .i64 now] w (StepQ base a (actS b sent (kd % 7) wh now).1 (sent ++ (actS b sent (kd % 7) wh now).2) w) := by
  obtain ⟨A0, c0, rfl⟩ := ownAny_form how
  obtain ⟨q, hq⟩ : ∃ q, kd % 7 = q := ⟨_, rfl⟩
  have tq : kd.tmod 7 = q := by rw [Int.tmod_eq_emod_of_nonneg hkd.1]; exact hq
  have wq : wrap64 q = q := w64 (by omega) (by omega)
  rw [hq]
  obtain ⟨g, hg⟩ : ∃ g, w.heap.size = g := ⟨_, rfl⟩
  obtain ⟨al, ar, ae, an, ap, ad⟩ := a
  obtain ⟨bl, br, be, bn, bp, bd⟩ := b
  obtain ⟨W0, hW⟩ : ∃ X, ((w.alloc (.cells (cT ⟨al, ar, ae, an, ap, ad⟩ ⟨bl, br, be, bn, bp, bd⟩) 54)).alloc (.cells #[.int .u8 kd, .bool true, .int .u8 wh] 61)).alloc (.cells (cT z6 z6) 54) = X := ⟨_, rfl⟩
  have kt : W0.heap[g]? = some (.cells (cT ⟨al, ar, ae, an, ap, ad⟩ ⟨bl, br, be, bn, bp, bd⟩) 54) := by rw [← hW, ← hg]; exact old_al2 (old_al2 (heap_alloc_new w _) _) _
  have km : W0.heap[g + 1]? = some (.cells #[.int .u8 kd, .bool true, .int .u8 wh] 61) := by rw [← hW, ← hg]; exact old_al2 (new_two w _ _) _
  have kr : W0.heap[g + 2]? = some (.cells (cT z6 z6) 54) := by rw [← hW, ← hg]; exact new_three2 w _ _ _
  have HB : Hid (Below g w W0) := hid (by rw [← hW, ← hg]; exact below_both (below_both (al1 w _) (al1 _ _)) (al1 _ _))
  have HSN : Hid (g ≤ W0.heap.size) := hid (Nat.le_of_lt (box_lt kt))
  have HG := hid hg
  have HKt := hid kt
  have HKm := hid km
  have HKr := hid kr
  have HBS := hid hbs
  have HLN := hid hn
  have HNL := hid hnl
  have HOW := hid how
  have HNOW : Hid (R64 now) := hid (by unfold R64; omega)
  obtain ⟨⟨t0, t1, t2, t3, t4, t5⟩, t6, t7, t8, t9, t10, t11⟩ := load12 kt
  simp only at t0 t1 t2 t3 t4 t5 t6 t7 t8 t9 t10 t11
  have m0 : W0.cell? ⟨g + 1, 0, none⟩ = some (.int .u8 kd) := cell_of_row _ _ 0 _ _ _ km
  have m1 : W0.cell? ⟨g + 1, 1, none⟩ = some (.bool true) := cell_of_row _ _ 1 _ _ _ km
  have m2 : W0.cell? ⟨g + 1, 2, none⟩ = some (.int .u8 wh) := cell_of_row _ _ 2 _ _ _ km
  have ft := box_fr kt
  unfold tv
  simp only [cT, z6] at hW
  have HWW := hid hW
  clear hg hW kt km kr hbs hn how hnl
  obtain ⟨⟨⟨xl, xr, xe, xn, xp, xd⟩, ms⟩, hx⟩ : ∃ r, expR ⟨bl, br, be, bn, bp, bd⟩ now 3 = r := ⟨_, rfl⟩
  have h1 := fun W => expire_any ⟨bl, br, be, bn, bp, bd⟩ now 3 W HNOW.out
  rw [hx] at h1
  have HC : Hid (∀ W, Calls Try.prog 20 #[.agg #[.int .i64 bl, .int .i64 br, .int .i64 be, .int .i64 bn, .int .i64 bp, .int .i64 bd], .int .i64 now, .int .i64 3] W fun f w' => ∃ v, f = .returned (.tuple #[.agg #[.int .i64 xl, .int .i64 xr, .int .i64 xe, .int .i64 xn, .int .i64 xp, .int .i64 xd], v]) ∧ MsgQ W.heap.size w' v ms ∧ Below W.heap.size W w') := hid h1
  have HML : Hid (ms.length ≤ 1) := hid (by have h2 := expR_len ⟨bl, br, be, bn, bp, bd⟩ now 3; rw [hx] at h2; exact h2)
  have hact : actS ⟨bl, br, be, bn, bp, bd⟩ sent 5 wh now = (⟨xl, xr, xe, xn, xp, xd⟩, ms) := by unfold actS; rw [if_neg (by decide), if_pos rfl]; rw [hx]
  obtain rfl : q = 5 := by omega
  rw [hact]
  clear hact h1 hx hq
  go_enter Try.func27, Try.ntmps27
  go_upto_region 1 with fail
  rw [HWW.out, HG.out]
  clear HWW
  go_upto_region 16 with (go_at_call 20; (with_reducible refine (HC.out _).mono ?_); rintro _ wn ⟨v9, rfl, hm, hb⟩; have HMQ := hid (hm.keep (Nat.zero_le _) (fun _ _ _ h => h)); clear hm; have kt := (hb.block _ (box_lt HKt.out)).trans HKt.out; have km := (hb.block _ (box_lt HKm.out)).trans HKm.out; have kr := (hb.block _ (box_lt HKr.out)).trans HKr.out; have HKt := hid kt; have HKm := hid km; have HKr := hid kr; have HB := hid (HB.out.trans (hb.mono HSN.out)); have HSN := hid (Nat.le_trans HSN.out hb.size); obtain ⟨⟨t0, t1, t2, t3, t4, t5⟩, t6, t7, t8, t9, t10, t11⟩ := load12 kt; simp only at t0 t1 t2 t3 t4 t5 t6 t7 t8 t9 t10 t11; have ft := box_fr kt; clear hb kt km kr)
  obtain ⟨Wt, hWt⟩ : ∃ X, setHi wn g ⟨xl, xr, xe, xn, xp, xd⟩ = X := ⟨_, rfl⟩
  have HMS : Hid (Msgs Wt v9 ms) := hid (by rw [← hWt]; exact (HMQ.out.keepT (Nat.le_refl _) (hi_keep ⟨xl, xr, xe, xn, xp, xd⟩ HKt.out (by decide))).msgs)
  have HKr := hid (show Wt.heap[g + 2]? = some (.cells (cT z6 z6) 54) by rw [← hWt]; exact hi_off _ (by omega) HKr.out)
  have HB := hid (show Below g w Wt by rw [← hWt]; exact hi_b ⟨xl, xr, xe, xn, xp, xd⟩ HB.out (Nat.le_refl _))
  have HKt := hid (show Wt.heap[g]? = some (.cells (cT ⟨al, ar, ae, an, ap, ad⟩ ⟨xl, xr, xe, xn, xp, xd⟩) 54) by rw [← hWt]; exact hi_h ⟨xl, xr, xe, xn, xp, xd⟩ HKt.out)
  have HWt := hid hWt
  simp only [setHi] at HWt
  clear hWt t0 t1 t2 t3 t4 t5 t6 t7 t8 t9 t10 t11 ft m0 m1 m2
  rw [HWt.out]
  go_upto_region 16 with fail
  obtain ⟨X0, hX0⟩ : ∃ X, Wt.drew = X := ⟨_, rfl⟩
  have j1 : X0.heap[g]? = some (.cells (cT ⟨al, ar, ae, an, ap, ad⟩ ⟨xl, xr, xe, xn, xp, xd⟩) 54) := by rw [← hX0]; exact HKt.out
  have j2 : X0.heap[g + 2]? = some (.cells (cT z6 z6) 54) := by rw [← hX0]; exact HKr.out
  have HB0 : Hid (Below g w X0) := hid (by rw [← hX0]; exact below_drew HB.out)
  have HMM : Hid (Msgs X0 v9 ms) := hid (by rw [← hX0]; exact HMS.out)
  have J1 := hid j1
  have J2 := hid j2
  have hHeld : X0.cell? ⟨g, 0, none⟩ = some (.int .i64 al) ∧ X0.cell? ⟨g, 1, none⟩ = some (.int .i64 ar) ∧ X0.cell? ⟨g, 2, none⟩ = some (.int .i64 ae) ∧ X0.cell? ⟨g, 3, none⟩ = some (.int .i64 an) ∧ X0.cell? ⟨g, 4, none⟩ = some (.int .i64 ap) ∧ X0.cell? ⟨g, 5, none⟩ = some (.int .i64 ad) ∧ X0.cell? ⟨g, 6, none⟩ = some (.int .i64 xl) ∧ X0.cell? ⟨g, 7, none⟩ = some (.int .i64 xr) ∧ X0.cell? ⟨g, 8, none⟩ = some (.int .i64 xe) ∧ X0.cell? ⟨g, 9, none⟩ = some (.int .i64 xn) ∧ X0.cell? ⟨g, 10, none⟩ = some (.int .i64 xp) ∧ X0.cell? ⟨g, 11, none⟩ = some (.int .i64 xd) := by
    obtain ⟨⟨b0, b1, b2, b3, b4, b5⟩, r⟩ := load12 j1
    exact ⟨b0, b1, b2, b3, b4, b5, r⟩
  have HX0 := hid hX0
  clear hX0 j1 j2 
  refine region_tail 4 (fun X => X.cell? ⟨g, 0, none⟩ = some (.int .i64 al) ∧ X.cell? ⟨g, 1, none⟩ = some (.int .i64 ar) ∧ X.cell? ⟨g, 2, none⟩ = some (.int .i64 ae) ∧ X.cell? ⟨g, 3, none⟩ = some (.int .i64 an) ∧ X.cell? ⟨g, 4, none⟩ = some (.int .i64 ap) ∧ X.cell? ⟨g, 5, none⟩ = some (.int .i64 ad) ∧ X.cell? ⟨g, 6, none⟩ = some (.int .i64 xl) ∧ X.cell? ⟨g, 7, none⟩ = some (.int .i64 xr) ∧ X.cell? ⟨g, 8, none⟩ = some (.int .i64 xe) ∧ X.cell? ⟨g, 9, none⟩ = some (.int .i64 xn) ∧ X.cell? ⟨g, 10, none⟩ = some (.int .i64 xp) ∧ X.cell? ⟨g, 11, none⟩ = some (.int .i64 xd)) (by kernel_rfl) ?_
  rw [HX0.out]
  refine' wpAnyT_take (i := 0) (oi := ?oiet0) (v := ?vet0) ?hiet0 (by kernel_rfl) (by kernel_rfl) ?hqet0 ?hyet0 hHeld ?restet0
  case hiet0 => (simp only [List.getElem?_toArray, List.getElem?_cons_zero]; rfl)
  case hqet0 => exact fun _ _ _ h => h
  case hyet0 => (refine Or.inl ⟨by rfl, ?_⟩; intro w' hSw; (try dsimp only at hSw); go_simp; try with_reducible rfl)
  (try simp only [Act.put, List.setIfInBounds_toArray, List.set_cons_zero, List.set_cons_succ])
  refine' wpAnyT_take (i := 1) (oi := ?oiet1) (v := ?vet1) ?hiet1 (by kernel_rfl) (by kernel_rfl) ?hqet1 ?hyet1 hHeld ?restet1
  case hiet1 => (simp only [List.getElem?_toArray, List.getElem?_cons_zero, List.getElem?_cons_succ]; rfl)
  case hqet1 => exact fun _ _ _ h => h
  case hyet1 => (refine Or.inl ⟨by rfl, ?_⟩; intro w' hSw; (try dsimp only at hSw); go_simp; try with_reducible rfl)
  (try simp only [Act.put, List.setIfInBounds_toArray, List.set_cons_zero, List.set_cons_succ])
  refine' wpAnyT_take (i := 2) (oi := ?oiet2) (v := ?vet2) ?hiet2 (by kernel_rfl) (by kernel_rfl) ?hqet2 ?hyet2 hHeld ?restet2
  case hiet2 => (simp only [List.getElem?_toArray, List.getElem?_cons_zero, List.getElem?_cons_succ]; rfl)
  case hqet2 => exact fun _ _ _ h => h
  case hyet2 => (refine Or.inl ⟨by rfl, ?_⟩; intro w' hSw; (try dsimp only at hSw); go_simp; try with_reducible rfl)
  (try simp only [Act.put, List.setIfInBounds_toArray, List.set_cons_zero, List.set_cons_succ])
  refine' wpAnyT_one (i := 3) (o := ?oiet3) (by kernel_rfl) ?hiet3 (fun K hK => ?stet3)
  case hiet3 => (simp only [List.getElem?_toArray, List.getElem?_cons_zero, List.getElem?_cons_succ]; rfl)
  refine step_append_mes rfl (.tmp 83) (.tmp 84) rfl base _ n _ rfl (own_keep HOW.out (keep_below (HB0.out.mono (by rw [HG.out]; exact Nat.le_refl _)))) ms v9 rfl HMM.out (by have := HNL.out; have := HML.out; omega) (by have := HBS.out; have := HB0.out.size; omega) ?_
  intro v8 X2 hown hgr
  have HK2 : Hid (∀ T, T ≠ 47 → Keep T X0 X2) := hid (fun T hT => keep_grown (own_keep HOW.out (keep_below (HB0.out.mono (by rw [HG.out]; exact Nat.le_refl _)))) hT hgr)
  have HP1 := hid (HK2.out 54 (by decide) _ _ J1.out)
  have HP2 := hid (HK2.out 54 (by decide) _ _ J2.out)
  have HB2 : Hid (Below base w X2) := hid (below_ownE (HB0.out.mono (by have := HBS.out; have := HG.out; omega)) (own_keep HOW.out (keep_below (HB0.out.mono (by rw [HG.out]; exact Nat.le_refl _)))) hgr (by have := HBS.out; have := HB0.out.size; omega) (Nat.le_refl _))
  have HOW2 := hid hown
  have hHeld : X2.cell? ⟨g, 0, none⟩ = some (.int .i64 al) ∧ X2.cell? ⟨g, 1, none⟩ = some (.int .i64 ar) ∧ X2.cell? ⟨g, 2, none⟩ = some (.int .i64 ae) ∧ X2.cell? ⟨g, 3, none⟩ = some (.int .i64 an) ∧ X2.cell? ⟨g, 4, none⟩ = some (.int .i64 ap) ∧ X2.cell? ⟨g, 5, none⟩ = some (.int .i64 ad) ∧ X2.cell? ⟨g, 6, none⟩ = some (.int .i64 xl) ∧ X2.cell? ⟨g, 7, none⟩ = some (.int .i64 xr) ∧ X2.cell? ⟨g, 8, none⟩ = some (.int .i64 xe) ∧ X2.cell? ⟨g, 9, none⟩ = some (.int .i64 xn) ∧ X2.cell? ⟨g, 10, none⟩ = some (.int .i64 xp) ∧ X2.cell? ⟨g, 11, none⟩ = some (.int .i64 xd) := by
    obtain ⟨⟨b0, b1, b2, b3, b4, b5⟩, r⟩ := load12 HP1.out
    exact ⟨b0, b1, b2, b3, b4, b5, r⟩
  clear hown hgr
  refine hK.out _ _ (fun _ => hHeld) ?_
  clear hK K
  (try simp only [Act.put, List.setIfInBounds_toArray, List.set_cons_zero, List.set_cons_succ])
  refine' wpAnyT_one (i := 4) (o := ?oiet4) (by kernel_rfl) ?hiet4 (fun K hK => ?stet4)
  case hiet4 => (simp only [List.getElem?_toArray, List.getElem?_cons_zero, List.getElem?_cons_succ]; rfl)
  obtain ⟨⟨i0, i1, i2, i3, i4, i5⟩, i6, i7, i8, i9, i10, i11⟩ := load12 HP2.out
  simp only [z6] at i0 i1 i2 i3 i4 i5 i6 i7 i8 i9 i10 i11
  have ff := box_fr HP2.out
  go_simp
  obtain ⟨Y, hY⟩ : ∃ X, set12 X2 (g + 2) ⟨al, ar, ae, an, ap, ad⟩ ⟨xl, xr, xe, xn, xp, xd⟩ = X := ⟨_, rfl⟩
  have HY := hid hY
  simp only [set12, set6] at hY
  rw [hY]
  clear hY i0 i1 i2 i3 i4 i5 i6 i7 i8 i9 i10 i11 ff
  refine hK.out _ _ (fun h => absurd h (by decide)) ?_
  clear hK K
  (try simp only [Act.put, List.setIfInBounds_toArray, List.set_cons_zero, List.set_cons_succ])
  refine' wpAnyT_one (i := 5) (o := ?oiet5) (by kernel_rfl) ?hiet5 (fun K hK => ?stet5)
  case hiet5 => (simp only [List.getElem?_toArray, List.getElem?_cons_zero, List.getElem?_cons_succ]; rfl)
  go_simp
  refine hK.out _ _ (fun h => absurd h (by decide)) ?_
  clear hK K
  (try simp only [Act.put, List.setIfInBounds_toArray, List.set_cons_zero, List.set_cons_succ])
  refine wpAnyT_done (by kernel_rfl) ?_ _
  go_wp2_with fail
  refine bodyPost_ret (results_t1 rfl _ _ (g + 2) 54 ⟨al, ar, ae, an, ap, ad⟩ ⟨xl, xr, xe, xn, xp, xd⟩ rfl (by rw [← HY.out]; exact set12h ⟨al, ar, ae, an, ap, ad⟩ ⟨xl, xr, xe, xn, xp, xd⟩ HP2.out) _ rfl) rfl ?_
  refine ⟨v8, rfl, ?_, ?_, fun T hT => ?_⟩
  · have e : ((sent ++ ms).map cM).flatten = (sent.map cM).flatten ++ ((ms).map cM).flatten := by rw [List.map_append, List.flatten_append]
    rw [e, List.length_append, HLN.out]
    exact own_keep HOW2.out (by rw [← HY.out]; exact keepT_set12 _ _ HP2.out (by decide))
  · rw [← HY.out]
    exact set12b _ _ HB2.out (by have := HBS.out; have := HG.out; omega)
  · rw [← HY.out]
    exact keepO_set12 _ _ (Keep.trans (keep_below (HB0.out.mono (by rw [HG.out]; exact Nat.le_refl _))) (HK2.out T hT)) (by have := HG.out; omega)
set_option maxHeartbeats 16000000 in
set_option maxRecDepth 100000 in
theorem step_dial_t (a b : Ses) (sent : List Mes) (u : Value) (kd wh : Int) (now : Int) (base n : Nat) (w : World) (hbs : base ≤ w.heap.size) (hn : sent.length = n) (hnl : n ≤ 1000) (how : w.ownsRow base 47 8 u n (sent.map cM).flatten) (hkd : 0 ≤ kd ∧ kd ≤ 255) (_hwh : 0 ≤ wh ∧ wh ≤ 255) (hnow : 0 ≤ now ∧ now ≤ 1000) (hk : kd % 7 = 0) (her : (dialR b now 3).2.2 = 0) :
    Calls Try.prog 27 #[tv a b, u, .agg #[.int .u8 kd, .bool true, .int .u8 wh], .int .i64 now] w (StepQ base a (actS b sent (kd % 7) wh now).1 (sent ++ (actS b sent (kd % 7) wh now).2) w) := by
  obtain ⟨A0, c0, rfl⟩ := ownAny_form how
  obtain ⟨q, hq⟩ : ∃ q, kd % 7 = q := ⟨_, rfl⟩
  have tq : kd.tmod 7 = q := by rw [Int.tmod_eq_emod_of_nonneg hkd.1]; exact hq
  have wq : wrap64 q = q := w64 (by omega) (by omega)
  rw [hq]
  obtain ⟨g, hg⟩ : ∃ g, w.heap.size = g := ⟨_, rfl⟩
  obtain ⟨al, ar, ae, an, ap, ad⟩ := a
  obtain ⟨bl, br, be, bn, bp, bd⟩ := b
  obtain ⟨W0, hW⟩ : ∃ X, ((w.alloc (.cells (cT ⟨al, ar, ae, an, ap, ad⟩ ⟨bl, br, be, bn, bp, bd⟩) 54)).alloc (.cells #[.int .u8 kd, .bool true, .int .u8 wh] 61)).alloc (.cells (cT z6 z6) 54) = X := ⟨_, rfl⟩
  have kt : W0.heap[g]? = some (.cells (cT ⟨al, ar, ae, an, ap, ad⟩ ⟨bl, br, be, bn, bp, bd⟩) 54) := by rw [← hW, ← hg]; exact old_al2 (old_al2 (heap_alloc_new w _) _) _
  have km : W0.heap[g + 1]? = some (.cells #[.int .u8 kd, .bool true, .int .u8 wh] 61) := by rw [← hW, ← hg]; exact old_al2 (new_two w _ _) _
  have kr : W0.heap[g + 2]? = some (.cells (cT z6 z6) 54) := by rw [← hW, ← hg]; exact new_three2 w _ _ _
  have HB : Hid (Below g w W0) := hid (by rw [← hW, ← hg]; exact below_both (below_both (al1 w _) (al1 _ _)) (al1 _ _))
  have HSN : Hid (g ≤ W0.heap.size) := hid (Nat.le_of_lt (box_lt kt))
  have HG := hid hg
  have HKt := hid kt
  have HKm := hid km
  have HKr := hid kr
  have HBS := hid hbs
  have HLN := hid hn
  have HNL := hid hnl
  have HOW := hid how
  have HNOW : Hid (R64 now) := hid (by unfold R64; omega)
  obtain ⟨⟨t0, t1, t2, t3, t4, t5⟩, t6, t7, t8, t9, t10, t11⟩ := load12 kt
  simp only at t0 t1 t2 t3 t4 t5 t6 t7 t8 t9 t10 t11
  have m0 : W0.cell? ⟨g + 1, 0, none⟩ = some (.int .u8 kd) := cell_of_row _ _ 0 _ _ _ km
  have m1 : W0.cell? ⟨g + 1, 1, none⟩ = some (.bool true) := cell_of_row _ _ 1 _ _ _ km
  have m2 : W0.cell? ⟨g + 1, 2, none⟩ = some (.int .u8 wh) := cell_of_row _ _ 2 _ _ _ km
  have ft := box_fr kt
  unfold tv
  simp only [cT, z6] at hW
  have HWW := hid hW
  clear hg hW kt km kr hbs hn how hnl
  obtain ⟨⟨⟨xl, xr, xe, xn, xp, xd⟩, ms, er⟩, hx⟩ : ∃ r, dialR ⟨bl, br, be, bn, bp, bd⟩ now 3 = r := ⟨_, rfl⟩
  have h1 := fun W => dial_any ⟨bl, br, be, bn, bp, bd⟩ now 3 W
  rw [hx] at h1 her
  have HC : Hid (∀ W, Calls Try.prog 17 #[.agg #[.int .i64 bl, .int .i64 br, .int .i64 be, .int .i64 bn, .int .i64 bp, .int .i64 bd], .int .i64 now, .int .i64 3] W fun f w' => ∃ v, f = .returned (.tuple #[.agg #[.int .i64 xl, .int .i64 xr, .int .i64 xe, .int .i64 xn, .int .i64 xp, .int .i64 xd], v, .int .i64 er]) ∧ MsgQ W.heap.size w' v ms ∧ Below W.heap.size W w') := hid h1
  simp only at her
  subst her
  have HML : Hid (ms.length ≤ 1) := hid (by have h2 := dialR_len ⟨bl, br, be, bn, bp, bd⟩ now 3; rw [hx] at h2; exact h2)
  have hact : actS ⟨bl, br, be, bn, bp, bd⟩ sent 0 wh now = (⟨xl, xr, xe, xn, xp, xd⟩, ms) := by unfold actS; rw [if_pos rfl, hx]; rfl
  obtain rfl : q = 0 := by omega
  rw [hact]
  clear hact h1 hx hq
  go_enter Try.func27, Try.ntmps27
  go_upto_region 1 with fail
  rw [HWW.out, HG.out]
  clear HWW
  go_upto_region 10 with (go_at_call 17; (with_reducible refine (HC.out _).mono ?_); rintro _ wn ⟨v9, rfl, hm, hb⟩; have HMQ := hid (hm.keep (Nat.zero_le _) (fun _ _ _ h => h)); clear hm; have kt := (hb.block _ (box_lt HKt.out)).trans HKt.out; have km := (hb.block _ (box_lt HKm.out)).trans HKm.out; have kr := (hb.block _ (box_lt HKr.out)).trans HKr.out; have HKt := hid kt; have HKm := hid km; have HKr := hid kr; have HB := hid (HB.out.trans (hb.mono HSN.out)); have HSN := hid (Nat.le_trans HSN.out hb.size); obtain ⟨⟨t0, t1, t2, t3, t4, t5⟩, t6, t7, t8, t9, t10, t11⟩ := load12 kt; simp only at t0 t1 t2 t3 t4 t5 t6 t7 t8 t9 t10 t11; have ft := box_fr kt; clear hb kt km kr)
  obtain ⟨gx, hgx⟩ : ∃ h, wn.heap.size = h := ⟨_, rfl⟩
  obtain ⟨W1, hW1⟩ : ∃ X, wn.alloc (.cells (cS ⟨xl, xr, xe, xn, xp, xd⟩) 23) = X := ⟨_, rfl⟩
  have kx : W1.heap[gx]? = some (.cells (cS ⟨xl, xr, xe, xn, xp, xd⟩) 23) := by rw [← hW1, ← hgx]; exact heap_alloc_new _ _
  have kt : W1.heap[g]? = some (.cells (cT ⟨al, ar, ae, an, ap, ad⟩ ⟨bl, br, be, bn, bp, bd⟩) 54) := by rw [← hW1]; exact old_al2 HKt.out _
  have kr : W1.heap[g + 2]? = some (.cells (cT z6 z6) 54) := by rw [← hW1]; exact old_al2 HKr.out _
  have HMQ := hid (show MsgQ 0 W1 v9 ms by rw [← hW1]; exact HMQ.out.below (Nat.zero_le _) (al1 _ _))
  have HB := hid (show Below g w W1 by rw [← hW1]; exact HB.out.alloc HSN.out _)
  have HKt := hid kt
  have HKr := hid kr
  clear t0 t1 t2 t3 t4 t5 t6 t7 t8 t9 t10 t11 ft m0 m1 m2
  obtain ⟨⟨t0, t1, t2, t3, t4, t5⟩, t6, t7, t8, t9, t10, t11⟩ := load12 kt
  simp only at t0 t1 t2 t3 t4 t5 t6 t7 t8 t9 t10 t11
  obtain ⟨c0', c1', c2', c3', c4', c5'⟩ := load6 kx
  simp only at c0' c1' c2' c3' c4' c5'
  have ft := box_fr kt
  have HGX := hid hgx
  have HW1 := hid hW1
  simp only [cS] at HW1
  clear hgx hW1 kx kt kr
  rw [HGX.out, HW1.out]
  go_upto_region 16 with fail
  obtain ⟨Wt, hWt⟩ : ∃ X, setHi W1 g ⟨xl, xr, xe, xn, xp, xd⟩ = X := ⟨_, rfl⟩
  have HMS : Hid (Msgs Wt v9 ms) := hid (by rw [← hWt]; exact (HMQ.out.keepT (Nat.le_refl _) (hi_keep ⟨xl, xr, xe, xn, xp, xd⟩ HKt.out (by decide))).msgs)
  have HKr := hid (show Wt.heap[g + 2]? = some (.cells (cT z6 z6) 54) by rw [← hWt]; exact hi_off _ (by omega) HKr.out)
  have HB := hid (show Below g w Wt by rw [← hWt]; exact hi_b ⟨xl, xr, xe, xn, xp, xd⟩ HB.out (Nat.le_refl _))
  have HKt := hid (show Wt.heap[g]? = some (.cells (cT ⟨al, ar, ae, an, ap, ad⟩ ⟨xl, xr, xe, xn, xp, xd⟩) 54) by rw [← hWt]; exact hi_h ⟨xl, xr, xe, xn, xp, xd⟩ HKt.out)
  have HWt := hid hWt
  simp only [setHi] at HWt
  clear hWt t0 t1 t2 t3 t4 t5 t6 t7 t8 t9 t10 t11 ft c0' c1' c2' c3' c4' c5'
  rw [HWt.out]
  go_upto_region 16 with fail
  obtain ⟨X0, hX0⟩ : ∃ X, Wt.drew = X := ⟨_, rfl⟩
  have j1 : X0.heap[g]? = some (.cells (cT ⟨al, ar, ae, an, ap, ad⟩ ⟨xl, xr, xe, xn, xp, xd⟩) 54) := by rw [← hX0]; exact HKt.out
  have j2 : X0.heap[g + 2]? = some (.cells (cT z6 z6) 54) := by rw [← hX0]; exact HKr.out
  have HB0 : Hid (Below g w X0) := hid (by rw [← hX0]; exact below_drew HB.out)
  have HMM : Hid (Msgs X0 v9 ms) := hid (by rw [← hX0]; exact HMS.out)
  have J1 := hid j1
  have J2 := hid j2
  have hHeld : X0.cell? ⟨g, 0, none⟩ = some (.int .i64 al) ∧ X0.cell? ⟨g, 1, none⟩ = some (.int .i64 ar) ∧ X0.cell? ⟨g, 2, none⟩ = some (.int .i64 ae) ∧ X0.cell? ⟨g, 3, none⟩ = some (.int .i64 an) ∧ X0.cell? ⟨g, 4, none⟩ = some (.int .i64 ap) ∧ X0.cell? ⟨g, 5, none⟩ = some (.int .i64 ad) ∧ X0.cell? ⟨g, 6, none⟩ = some (.int .i64 xl) ∧ X0.cell? ⟨g, 7, none⟩ = some (.int .i64 xr) ∧ X0.cell? ⟨g, 8, none⟩ = some (.int .i64 xe) ∧ X0.cell? ⟨g, 9, none⟩ = some (.int .i64 xn) ∧ X0.cell? ⟨g, 10, none⟩ = some (.int .i64 xp) ∧ X0.cell? ⟨g, 11, none⟩ = some (.int .i64 xd) := by
    obtain ⟨⟨b0, b1, b2, b3, b4, b5⟩, r⟩ := load12 j1
    exact ⟨b0, b1, b2, b3, b4, b5, r⟩
  have HX0 := hid hX0
  clear hX0 j1 j2 
  refine region_tail 4 (fun X => X.cell? ⟨g, 0, none⟩ = some (.int .i64 al) ∧ X.cell? ⟨g, 1, none⟩ = some (.int .i64 ar) ∧ X.cell? ⟨g, 2, none⟩ = some (.int .i64 ae) ∧ X.cell? ⟨g, 3, none⟩ = some (.int .i64 an) ∧ X.cell? ⟨g, 4, none⟩ = some (.int .i64 ap) ∧ X.cell? ⟨g, 5, none⟩ = some (.int .i64 ad) ∧ X.cell? ⟨g, 6, none⟩ = some (.int .i64 xl) ∧ X.cell? ⟨g, 7, none⟩ = some (.int .i64 xr) ∧ X.cell? ⟨g, 8, none⟩ = some (.int .i64 xe) ∧ X.cell? ⟨g, 9, none⟩ = some (.int .i64 xn) ∧ X.cell? ⟨g, 10, none⟩ = some (.int .i64 xp) ∧ X.cell? ⟨g, 11, none⟩ = some (.int .i64 xd)) (by kernel_rfl) ?_
  rw [HX0.out]
  refine' wpAnyT_take (i := 0) (oi := ?oidt0) (v := ?vdt0) ?hidt0 (by kernel_rfl) (by kernel_rfl) ?hqdt0 ?hydt0 hHeld ?restdt0
  case hidt0 => (simp only [List.getElem?_toArray, List.getElem?_cons_zero]; rfl)
  case hqdt0 => exact fun _ _ _ h => h
  case hydt0 => (refine Or.inl ⟨by rfl, ?_⟩; intro w' hSw; (try dsimp only at hSw); go_simp; try with_reducible rfl)
  (try simp only [Act.put, List.setIfInBounds_toArray, List.set_cons_zero, List.set_cons_succ])
  refine' wpAnyT_take (i := 1) (oi := ?oidt1) (v := ?vdt1) ?hidt1 (by kernel_rfl) (by kernel_rfl) ?hqdt1 ?hydt1 hHeld ?restdt1
  case hidt1 => (simp only [List.getElem?_toArray, List.getElem?_cons_zero, List.getElem?_cons_succ]; rfl)
  case hqdt1 => exact fun _ _ _ h => h
  case hydt1 => (refine Or.inl ⟨by rfl, ?_⟩; intro w' hSw; (try dsimp only at hSw); go_simp; try with_reducible rfl)
  (try simp only [Act.put, List.setIfInBounds_toArray, List.set_cons_zero, List.set_cons_succ])
  refine' wpAnyT_take (i := 2) (oi := ?oidt2) (v := ?vdt2) ?hidt2 (by kernel_rfl) (by kernel_rfl) ?hqdt2 ?hydt2 hHeld ?restdt2
  case hidt2 => (simp only [List.getElem?_toArray, List.getElem?_cons_zero, List.getElem?_cons_succ]; rfl)
  case hqdt2 => exact fun _ _ _ h => h
  case hydt2 => (refine Or.inl ⟨by rfl, ?_⟩; intro w' hSw; (try dsimp only at hSw); go_simp; try with_reducible rfl)
  (try simp only [Act.put, List.setIfInBounds_toArray, List.set_cons_zero, List.set_cons_succ])
  refine' wpAnyT_one (i := 3) (o := ?oidt3) (by kernel_rfl) ?hidt3 (fun K hK => ?stdt3)
  case hidt3 => (simp only [List.getElem?_toArray, List.getElem?_cons_zero, List.getElem?_cons_succ]; rfl)
  refine step_append_mes rfl (.tmp 83) (.tmp 84) rfl base _ n _ rfl (own_keep HOW.out (keep_below (HB0.out.mono (by rw [HG.out]; exact Nat.le_refl _)))) ms v9 rfl HMM.out (by have := HNL.out; have := HML.out; omega) (by have := HBS.out; have := HB0.out.size; omega) ?_
  intro v8 X2 hown hgr
  have HK2 : Hid (∀ T, T ≠ 47 → Keep T X0 X2) := hid (fun T hT => keep_grown (own_keep HOW.out (keep_below (HB0.out.mono (by rw [HG.out]; exact Nat.le_refl _)))) hT hgr)
  have HP1 := hid (HK2.out 54 (by decide) _ _ J1.out)
  have HP2 := hid (HK2.out 54 (by decide) _ _ J2.out)
  have HB2 : Hid (Below base w X2) := hid (below_ownE (HB0.out.mono (by have := HBS.out; have := HG.out; omega)) (own_keep HOW.out (keep_below (HB0.out.mono (by rw [HG.out]; exact Nat.le_refl _)))) hgr (by have := HBS.out; have := HB0.out.size; omega) (Nat.le_refl _))
  have HOW2 := hid hown
  have hHeld : X2.cell? ⟨g, 0, none⟩ = some (.int .i64 al) ∧ X2.cell? ⟨g, 1, none⟩ = some (.int .i64 ar) ∧ X2.cell? ⟨g, 2, none⟩ = some (.int .i64 ae) ∧ X2.cell? ⟨g, 3, none⟩ = some (.int .i64 an) ∧ X2.cell? ⟨g, 4, none⟩ = some (.int .i64 ap) ∧ X2.cell? ⟨g, 5, none⟩ = some (.int .i64 ad) ∧ X2.cell? ⟨g, 6, none⟩ = some (.int .i64 xl) ∧ X2.cell? ⟨g, 7, none⟩ = some (.int .i64 xr) ∧ X2.cell? ⟨g, 8, none⟩ = some (.int .i64 xe) ∧ X2.cell? ⟨g, 9, none⟩ = some (.int .i64 xn) ∧ X2.cell? ⟨g, 10, none⟩ = some (.int .i64 xp) ∧ X2.cell? ⟨g, 11, none⟩ = some (.int .i64 xd) := by
    obtain ⟨⟨b0, b1, b2, b3, b4, b5⟩, r⟩ := load12 HP1.out
    exact ⟨b0, b1, b2, b3, b4, b5, r⟩
  clear hown hgr
  refine hK.out _ _ (fun _ => hHeld) ?_
  clear hK K
  (try simp only [Act.put, List.setIfInBounds_toArray, List.set_cons_zero, List.set_cons_succ])
  refine' wpAnyT_one (i := 4) (o := ?oidt4) (by kernel_rfl) ?hidt4 (fun K hK => ?stdt4)
  case hidt4 => (simp only [List.getElem?_toArray, List.getElem?_cons_zero, List.getElem?_cons_succ]; rfl)
  obtain ⟨⟨i0, i1, i2, i3, i4, i5⟩, i6, i7, i8, i9, i10, i11⟩ := load12 HP2.out
  simp only [z6] at i0 i1 i2 i3 i4 i5 i6 i7 i8 i9 i10 i11
  have ff := box_fr HP2.out
  go_simp
  obtain ⟨Y, hY⟩ : ∃ X, set12 X2 (g + 2) ⟨al, ar, ae, an, ap, ad⟩ ⟨xl, xr, xe, xn, xp, xd⟩ = X := ⟨_, rfl⟩
  have HY := hid hY
  simp only [set12, set6] at hY
  rw [hY]
  clear hY i0 i1 i2 i3 i4 i5 i6 i7 i8 i9 i10 i11 ff
  refine hK.out _ _ (fun h => absurd h (by decide)) ?_
  clear hK K
  (try simp only [Act.put, List.setIfInBounds_toArray, List.set_cons_zero, List.set_cons_succ])
  refine' wpAnyT_one (i := 5) (o := ?oidt5) (by kernel_rfl) ?hidt5 (fun K hK => ?stdt5)
  case hidt5 => (simp only [List.getElem?_toArray, List.getElem?_cons_zero, List.getElem?_cons_succ]; rfl)
  go_simp
  refine hK.out _ _ (fun h => absurd h (by decide)) ?_
  clear hK K
  (try simp only [Act.put, List.setIfInBounds_toArray, List.set_cons_zero, List.set_cons_succ])
  refine wpAnyT_done (by kernel_rfl) ?_ _
  go_wp2_with fail
  refine bodyPost_ret (results_t1 rfl _ _ (g + 2) 54 ⟨al, ar, ae, an, ap, ad⟩ ⟨xl, xr, xe, xn, xp, xd⟩ rfl (by rw [← HY.out]; exact set12h ⟨al, ar, ae, an, ap, ad⟩ ⟨xl, xr, xe, xn, xp, xd⟩ HP2.out) _ rfl) rfl ?_
  refine ⟨v8, rfl, ?_, ?_, fun T hT => ?_⟩
  · have e : ((sent ++ ms).map cM).flatten = (sent.map cM).flatten ++ ((ms).map cM).flatten := by rw [List.map_append, List.flatten_append]
    rw [e, List.length_append, HLN.out]
    exact own_keep HOW2.out (by rw [← HY.out]; exact keepT_set12 _ _ HP2.out (by decide))
  · rw [← HY.out]
    exact set12b _ _ HB2.out (by have := HBS.out; have := HG.out; omega)
  · rw [← HY.out]
    exact keepO_set12 _ _ (Keep.trans (keep_below (HB0.out.mono (by rw [HG.out]; exact Nat.le_refl _))) (HK2.out T hT)) (by have := HG.out; omega)
set_option maxHeartbeats 16000000 in
set_option maxRecDepth 100000 in
theorem step_dialn_t (a b : Ses) (sent : List Mes) (u : Value) (kd wh : Int) (now : Int) (base n : Nat) (w : World) (hbs : base ≤ w.heap.size) (hn : sent.length = n) (hnl : n ≤ 1000) (how : w.ownsRow base 47 8 u n (sent.map cM).flatten) (hkd : 0 ≤ kd ∧ kd ≤ 255) (_hwh : 0 ≤ wh ∧ wh ≤ 255) (hnow : 0 ≤ now ∧ now ≤ 1000) (hk : kd % 7 = 0) (her : ¬ (dialR b now 3).2.2 = 0) :
    Calls Try.prog 27 #[tv a b, u, .agg #[.int .u8 kd, .bool true, .int .u8 wh], .int .i64 now] w (StepQ base a (actS b sent (kd % 7) wh now).1 (sent ++ (actS b sent (kd % 7) wh now).2) w) := by
  obtain ⟨A0, c0, rfl⟩ := ownAny_form how
  obtain ⟨q, hq⟩ : ∃ q, kd % 7 = q := ⟨_, rfl⟩
  have tq : kd.tmod 7 = q := by rw [Int.tmod_eq_emod_of_nonneg hkd.1]; exact hq
  have wq : wrap64 q = q := w64 (by omega) (by omega)
  rw [hq]
  obtain ⟨g, hg⟩ : ∃ g, w.heap.size = g := ⟨_, rfl⟩
  obtain ⟨al, ar, ae, an, ap, ad⟩ := a
  obtain ⟨bl, br, be, bn, bp, bd⟩ := b
  obtain ⟨W0, hW⟩ : ∃ X, ((w.alloc (.cells (cT ⟨al, ar, ae, an, ap, ad⟩ ⟨bl, br, be, bn, bp, bd⟩) 54)).alloc (.cells #[.int .u8 kd, .bool true, .int .u8 wh] 61)).alloc (.cells (cT z6 z6) 54) = X := ⟨_, rfl⟩
  have kt : W0.heap[g]? = some (.cells (cT ⟨al, ar, ae, an, ap, ad⟩ ⟨bl, br, be, bn, bp, bd⟩) 54) := by rw [← hW, ← hg]; exact old_al2 (old_al2 (heap_alloc_new w _) _) _
  have km : W0.heap[g + 1]? = some (.cells #[.int .u8 kd, .bool true, .int .u8 wh] 61) := by rw [← hW, ← hg]; exact old_al2 (new_two w _ _) _
  have kr : W0.heap[g + 2]? = some (.cells (cT z6 z6) 54) := by rw [← hW, ← hg]; exact new_three2 w _ _ _
  have HB : Hid (Below g w W0) := hid (by rw [← hW, ← hg]; exact below_both (below_both (al1 w _) (al1 _ _)) (al1 _ _))
  have HSN : Hid (g ≤ W0.heap.size) := hid (Nat.le_of_lt (box_lt kt))
  have HG := hid hg
  have HKt := hid kt
  have HKm := hid km
  have HKr := hid kr
  have HBS := hid hbs
  have HLN := hid hn
  have HNL := hid hnl
  have HOW := hid how
  have HNOW : Hid (R64 now) := hid (by unfold R64; omega)
  obtain ⟨⟨t0, t1, t2, t3, t4, t5⟩, t6, t7, t8, t9, t10, t11⟩ := load12 kt
  simp only at t0 t1 t2 t3 t4 t5 t6 t7 t8 t9 t10 t11
  have m0 : W0.cell? ⟨g + 1, 0, none⟩ = some (.int .u8 kd) := cell_of_row _ _ 0 _ _ _ km
  have m1 : W0.cell? ⟨g + 1, 1, none⟩ = some (.bool true) := cell_of_row _ _ 1 _ _ _ km
  have m2 : W0.cell? ⟨g + 1, 2, none⟩ = some (.int .u8 wh) := cell_of_row _ _ 2 _ _ _ km
  have ft := box_fr kt
  unfold tv
  simp only [cT, z6] at hW
  have HWW := hid hW
  clear hg hW kt km kr hbs hn how hnl
  obtain ⟨⟨⟨xl, xr, xe, xn, xp, xd⟩, ms, er⟩, hx⟩ : ∃ r, dialR ⟨bl, br, be, bn, bp, bd⟩ now 3 = r := ⟨_, rfl⟩
  have h1 := fun W => dial_any ⟨bl, br, be, bn, bp, bd⟩ now 3 W
  rw [hx] at h1 her
  have HC : Hid (∀ W, Calls Try.prog 17 #[.agg #[.int .i64 bl, .int .i64 br, .int .i64 be, .int .i64 bn, .int .i64 bp, .int .i64 bd], .int .i64 now, .int .i64 3] W fun f w' => ∃ v, f = .returned (.tuple #[.agg #[.int .i64 xl, .int .i64 xr, .int .i64 xe, .int .i64 xn, .int .i64 xp, .int .i64 xd], v, .int .i64 er]) ∧ MsgQ W.heap.size w' v ms ∧ Below W.heap.size W w') := hid h1
  simp only at her
  have e0 : (er == 0) = false := by simp [her]
  have HML : Hid (([] : List Mes).length ≤ 1) := hid (by decide)
  have hact : actS ⟨bl, br, be, bn, bp, bd⟩ sent 0 wh now = (⟨bl, br, be, bn, bp, bd⟩, []) := by unfold actS; rw [if_pos rfl, hx]; exact if_neg her
  clear her
  obtain rfl : q = 0 := by omega
  rw [hact]
  clear hact h1 hx hq
  go_enter Try.func27, Try.ntmps27
  go_upto_region 1 with fail
  rw [HWW.out, HG.out]
  clear HWW
  go_upto_region 10 with (go_at_call 17; (with_reducible refine (HC.out _).mono ?_); rintro _ wn ⟨v9, rfl, hm, hb⟩; have HMQ := hid (hm.keep (Nat.zero_le _) (fun _ _ _ h => h)); clear hm; have kt := (hb.block _ (box_lt HKt.out)).trans HKt.out; have km := (hb.block _ (box_lt HKm.out)).trans HKm.out; have kr := (hb.block _ (box_lt HKr.out)).trans HKr.out; have HKt := hid kt; have HKm := hid km; have HKr := hid kr; have HB := hid (HB.out.trans (hb.mono HSN.out)); have HSN := hid (Nat.le_trans HSN.out hb.size); obtain ⟨⟨t0, t1, t2, t3, t4, t5⟩, t6, t7, t8, t9, t10, t11⟩ := load12 kt; simp only at t0 t1 t2 t3 t4 t5 t6 t7 t8 t9 t10 t11; have ft := box_fr kt; clear hb kt km kr)
  obtain ⟨gx, hgx⟩ : ∃ h, wn.heap.size = h := ⟨_, rfl⟩
  obtain ⟨W1, hW1⟩ : ∃ X, wn.alloc (.cells (cS ⟨xl, xr, xe, xn, xp, xd⟩) 23) = X := ⟨_, rfl⟩
  have kx : W1.heap[gx]? = some (.cells (cS ⟨xl, xr, xe, xn, xp, xd⟩) 23) := by rw [← hW1, ← hgx]; exact heap_alloc_new _ _
  have kt : W1.heap[g]? = some (.cells (cT ⟨al, ar, ae, an, ap, ad⟩ ⟨bl, br, be, bn, bp, bd⟩) 54) := by rw [← hW1]; exact old_al2 HKt.out _
  have kr : W1.heap[g + 2]? = some (.cells (cT z6 z6) 54) := by rw [← hW1]; exact old_al2 HKr.out _
  have HMQ := hid (show MsgQ 0 W1 v9 ms by rw [← hW1]; exact HMQ.out.below (Nat.zero_le _) (al1 _ _))
  have HB := hid (show Below g w W1 by rw [← hW1]; exact HB.out.alloc HSN.out _)
  have HKt := hid kt
  have HKr := hid kr
  clear t0 t1 t2 t3 t4 t5 t6 t7 t8 t9 t10 t11 ft m0 m1 m2
  obtain ⟨⟨t0, t1, t2, t3, t4, t5⟩, t6, t7, t8, t9, t10, t11⟩ := load12 kt
  simp only at t0 t1 t2 t3 t4 t5 t6 t7 t8 t9 t10 t11
  obtain ⟨c0', c1', c2', c3', c4', c5'⟩ := load6 kx
  simp only at c0' c1' c2' c3' c4' c5'
  have ft := box_fr kt
  have HGX := hid hgx
  have HW1 := hid hW1
  simp only [cS] at HW1
  clear hgx hW1 kx kt kr
  rw [HGX.out, HW1.out]
  go_upto_region 16 with fail
  have HMS : Hid (Msgs W1 (.slice none 0 0) []) := hid (msgs_nil W1)
  go_upto_region 16 with fail
  obtain ⟨X0, hX0⟩ : ∃ X, W1.drew = X := ⟨_, rfl⟩
  have j1 : X0.heap[g]? = some (.cells (cT ⟨al, ar, ae, an, ap, ad⟩ ⟨bl, br, be, bn, bp, bd⟩) 54) := by rw [← hX0]; exact HKt.out
  have j2 : X0.heap[g + 2]? = some (.cells (cT z6 z6) 54) := by rw [← hX0]; exact HKr.out
  have HB0 : Hid (Below g w X0) := hid (by rw [← hX0]; exact below_drew HB.out)
  have HMM : Hid (Msgs X0 (.slice none 0 0) []) := hid (by rw [← hX0]; exact HMS.out)
  have J1 := hid j1
  have J2 := hid j2
  have hHeld : X0.cell? ⟨g, 0, none⟩ = some (.int .i64 al) ∧ X0.cell? ⟨g, 1, none⟩ = some (.int .i64 ar) ∧ X0.cell? ⟨g, 2, none⟩ = some (.int .i64 ae) ∧ X0.cell? ⟨g, 3, none⟩ = some (.int .i64 an) ∧ X0.cell? ⟨g, 4, none⟩ = some (.int .i64 ap) ∧ X0.cell? ⟨g, 5, none⟩ = some (.int .i64 ad) ∧ X0.cell? ⟨g, 6, none⟩ = some (.int .i64 bl) ∧ X0.cell? ⟨g, 7, none⟩ = some (.int .i64 br) ∧ X0.cell? ⟨g, 8, none⟩ = some (.int .i64 be) ∧ X0.cell? ⟨g, 9, none⟩ = some (.int .i64 bn) ∧ X0.cell? ⟨g, 10, none⟩ = some (.int .i64 bp) ∧ X0.cell? ⟨g, 11, none⟩ = some (.int .i64 bd) := by
    obtain ⟨⟨b0, b1, b2, b3, b4, b5⟩, r⟩ := load12 j1
    exact ⟨b0, b1, b2, b3, b4, b5, r⟩
  have HX0 := hid hX0
  clear hX0 j1 j2 
  refine region_tail 4 (fun X => X.cell? ⟨g, 0, none⟩ = some (.int .i64 al) ∧ X.cell? ⟨g, 1, none⟩ = some (.int .i64 ar) ∧ X.cell? ⟨g, 2, none⟩ = some (.int .i64 ae) ∧ X.cell? ⟨g, 3, none⟩ = some (.int .i64 an) ∧ X.cell? ⟨g, 4, none⟩ = some (.int .i64 ap) ∧ X.cell? ⟨g, 5, none⟩ = some (.int .i64 ad) ∧ X.cell? ⟨g, 6, none⟩ = some (.int .i64 bl) ∧ X.cell? ⟨g, 7, none⟩ = some (.int .i64 br) ∧ X.cell? ⟨g, 8, none⟩ = some (.int .i64 be) ∧ X.cell? ⟨g, 9, none⟩ = some (.int .i64 bn) ∧ X.cell? ⟨g, 10, none⟩ = some (.int .i64 bp) ∧ X.cell? ⟨g, 11, none⟩ = some (.int .i64 bd)) (by kernel_rfl) ?_
  rw [HX0.out]
  refine' wpAnyT_take (i := 0) (oi := ?oiet0) (v := ?vet0) ?hiet0 (by kernel_rfl) (by kernel_rfl) ?hqet0 ?hyet0 hHeld ?restet0
  case hiet0 => (simp only [List.getElem?_toArray, List.getElem?_cons_zero]; rfl)
  case hqet0 => exact fun _ _ _ h => h
  case hyet0 => (refine Or.inl ⟨by rfl, ?_⟩; intro w' hSw; (try dsimp only at hSw); go_simp; try with_reducible rfl)
  (try simp only [Act.put, List.setIfInBounds_toArray, List.set_cons_zero, List.set_cons_succ])
  refine' wpAnyT_take (i := 1) (oi := ?oiet1) (v := ?vet1) ?hiet1 (by kernel_rfl) (by kernel_rfl) ?hqet1 ?hyet1 hHeld ?restet1
  case hiet1 => (simp only [List.getElem?_toArray, List.getElem?_cons_zero, List.getElem?_cons_succ]; rfl)
  case hqet1 => exact fun _ _ _ h => h
  case hyet1 => (refine Or.inl ⟨by rfl, ?_⟩; intro w' hSw; (try dsimp only at hSw); go_simp; try with_reducible rfl)
  (try simp only [Act.put, List.setIfInBounds_toArray, List.set_cons_zero, List.set_cons_succ])
  refine' wpAnyT_take (i := 2) (oi := ?oiet2) (v := ?vet2) ?hiet2 (by kernel_rfl) (by kernel_rfl) ?hqet2 ?hyet2 hHeld ?restet2
  case hiet2 => (simp only [List.getElem?_toArray, List.getElem?_cons_zero, List.getElem?_cons_succ]; rfl)
  case hqet2 => exact fun _ _ _ h => h
  case hyet2 => (refine Or.inl ⟨by rfl, ?_⟩; intro w' hSw; (try dsimp only at hSw); go_simp; try with_reducible rfl)
  (try simp only [Act.put, List.setIfInBounds_toArray, List.set_cons_zero, List.set_cons_succ])
  refine' wpAnyT_one (i := 3) (o := ?oiet3) (by kernel_rfl) ?hiet3 (fun K hK => ?stet3)
  case hiet3 => (simp only [List.getElem?_toArray, List.getElem?_cons_zero, List.getElem?_cons_succ]; rfl)
  refine step_append_mes rfl (.tmp 83) (.tmp 84) rfl base _ n _ rfl (own_keep HOW.out (keep_below (HB0.out.mono (by rw [HG.out]; exact Nat.le_refl _)))) [] (.slice none 0 0) rfl HMM.out (by have := HNL.out; have := HML.out; omega) (by have := HBS.out; have := HB0.out.size; omega) ?_
  intro v8 X2 hown hgr
  have HK2 : Hid (∀ T, T ≠ 47 → Keep T X0 X2) := hid (fun T hT => keep_grown (own_keep HOW.out (keep_below (HB0.out.mono (by rw [HG.out]; exact Nat.le_refl _)))) hT hgr)
  have HP1 := hid (HK2.out 54 (by decide) _ _ J1.out)
  have HP2 := hid (HK2.out 54 (by decide) _ _ J2.out)
  have HB2 : Hid (Below base w X2) := hid (below_ownE (HB0.out.mono (by have := HBS.out; have := HG.out; omega)) (own_keep HOW.out (keep_below (HB0.out.mono (by rw [HG.out]; exact Nat.le_refl _)))) hgr (by have := HBS.out; have := HB0.out.size; omega) (Nat.le_refl _))
  have HOW2 := hid hown
  have hHeld : X2.cell? ⟨g, 0, none⟩ = some (.int .i64 al) ∧ X2.cell? ⟨g, 1, none⟩ = some (.int .i64 ar) ∧ X2.cell? ⟨g, 2, none⟩ = some (.int .i64 ae) ∧ X2.cell? ⟨g, 3, none⟩ = some (.int .i64 an) ∧ X2.cell? ⟨g, 4, none⟩ = some (.int .i64 ap) ∧ X2.cell? ⟨g, 5, none⟩ = some (.int .i64 ad) ∧ X2.cell? ⟨g, 6, none⟩ = some (.int .i64 bl) ∧ X2.cell? ⟨g, 7, none⟩ = some (.int .i64 br) ∧ X2.cell? ⟨g, 8, none⟩ = some (.int .i64 be) ∧ X2.cell? ⟨g, 9, none⟩ = some (.int .i64 bn) ∧ X2.cell? ⟨g, 10, none⟩ = some (.int .i64 bp) ∧ X2.cell? ⟨g, 11, none⟩ = some (.int .i64 bd) := by
    obtain ⟨⟨b0, b1, b2, b3, b4, b5⟩, r⟩ := load12 HP1.out
    exact ⟨b0, b1, b2, b3, b4, b5, r⟩
  clear hown hgr
  refine hK.out _ _ (fun _ => hHeld) ?_
  clear hK K
  (try simp only [Act.put, List.setIfInBounds_toArray, List.set_cons_zero, List.set_cons_succ])
  refine' wpAnyT_one (i := 4) (o := ?oiet4) (by kernel_rfl) ?hiet4 (fun K hK => ?stet4)
  case hiet4 => (simp only [List.getElem?_toArray, List.getElem?_cons_zero, List.getElem?_cons_succ]; rfl)
  obtain ⟨⟨i0, i1, i2, i3, i4, i5⟩, i6, i7, i8, i9, i10, i11⟩ := load12 HP2.out
  simp only [z6] at i0 i1 i2 i3 i4 i5 i6 i7 i8 i9 i10 i11
  have ff := box_fr HP2.out
  go_simp
  obtain ⟨Y, hY⟩ : ∃ X, set12 X2 (g + 2) ⟨al, ar, ae, an, ap, ad⟩ ⟨bl, br, be, bn, bp, bd⟩ = X := ⟨_, rfl⟩
  have HY := hid hY
  simp only [set12, set6] at hY
  rw [hY]
  clear hY i0 i1 i2 i3 i4 i5 i6 i7 i8 i9 i10 i11 ff
  refine hK.out _ _ (fun h => absurd h (by decide)) ?_
  clear hK K
  (try simp only [Act.put, List.setIfInBounds_toArray, List.set_cons_zero, List.set_cons_succ])
  refine' wpAnyT_one (i := 5) (o := ?oiet5) (by kernel_rfl) ?hiet5 (fun K hK => ?stet5)
  case hiet5 => (simp only [List.getElem?_toArray, List.getElem?_cons_zero, List.getElem?_cons_succ]; rfl)
  go_simp
  refine hK.out _ _ (fun h => absurd h (by decide)) ?_
  clear hK K
  (try simp only [Act.put, List.setIfInBounds_toArray, List.set_cons_zero, List.set_cons_succ])
  refine wpAnyT_done (by kernel_rfl) ?_ _
  go_wp2_with fail
  refine bodyPost_ret (results_t1 rfl _ _ (g + 2) 54 ⟨al, ar, ae, an, ap, ad⟩ ⟨bl, br, be, bn, bp, bd⟩ rfl (by rw [← HY.out]; exact set12h ⟨al, ar, ae, an, ap, ad⟩ ⟨bl, br, be, bn, bp, bd⟩ HP2.out) _ rfl) rfl ?_
  refine ⟨v8, rfl, ?_, ?_, fun T hT => ?_⟩
  · have e : ((sent ++ []).map cM).flatten = (sent.map cM).flatten ++ (([]).map cM).flatten := by rw [List.map_append, List.flatten_append]
    rw [e, List.length_append, HLN.out]
    exact own_keep HOW2.out (by rw [← HY.out]; exact keepT_set12 _ _ HP2.out (by decide))
  · rw [← HY.out]
    exact set12b _ _ HB2.out (by have := HBS.out; have := HG.out; omega)
  · rw [← HY.out]
    exact keepO_set12 _ _ (Keep.trans (keep_below (HB0.out.mono (by rw [HG.out]; exact Nat.le_refl _))) (HK2.out T hT)) (by have := HG.out; omega)
set_option maxHeartbeats 16000000 in
set_option maxRecDepth 100000 in
theorem step_rec1_t (a b : Ses) (sent : List Mes) (u : Value) (kd wh : Int) (now : Int) (base n : Nat) (w : World) (hbs : base ≤ w.heap.size) (hn : sent.length = n) (hnl : n ≤ 1000) (how : w.ownsRow base 47 8 u n (sent.map cM).flatten) (hkd : 0 ≤ kd ∧ kd ≤ 255) (hwh : 0 ≤ wh ∧ wh ≤ 255) (hnow : 0 ≤ now ∧ now ≤ 1000) (hk : kd % 7 ≠ 0 ∧ kd % 7 ≠ 5 ∧ kd % 7 ≠ 6) (hn0 : 0 < n) :
    Calls Try.prog 27 #[tv a b, u, .agg #[.int .u8 kd, .bool true, .int .u8 wh], .int .i64 now] w (StepQ base a (actS b sent (kd % 7) wh now).1 (sent ++ (actS b sent (kd % 7) wh now).2) w) := by
  obtain ⟨A0, c0, rfl⟩ := ownAny_form how
  obtain ⟨q, hq⟩ : ∃ q, kd % 7 = q := ⟨_, rfl⟩
  have tq : kd.tmod 7 = q := by rw [Int.tmod_eq_emod_of_nonneg hkd.1]; exact hq
  have wq : wrap64 q = q := w64 (by omega) (by omega)
  rw [hq]
  obtain ⟨g, hg⟩ : ∃ g, w.heap.size = g := ⟨_, rfl⟩
  obtain ⟨al, ar, ae, an, ap, ad⟩ := a
  obtain ⟨bl, br, be, bn, bp, bd⟩ := b
  obtain ⟨W0, hW⟩ : ∃ X, ((w.alloc (.cells (cT ⟨al, ar, ae, an, ap, ad⟩ ⟨bl, br, be, bn, bp, bd⟩) 54)).alloc (.cells #[.int .u8 kd, .bool true, .int .u8 wh] 61)).alloc (.cells (cT z6 z6) 54) = X := ⟨_, rfl⟩
  have kt : W0.heap[g]? = some (.cells (cT ⟨al, ar, ae, an, ap, ad⟩ ⟨bl, br, be, bn, bp, bd⟩) 54) := by rw [← hW, ← hg]; exact old_al2 (old_al2 (heap_alloc_new w _) _) _
  have km : W0.heap[g + 1]? = some (.cells #[.int .u8 kd, .bool true, .int .u8 wh] 61) := by rw [← hW, ← hg]; exact old_al2 (new_two w _ _) _
  have kr : W0.heap[g + 2]? = some (.cells (cT z6 z6) 54) := by rw [← hW, ← hg]; exact new_three2 w _ _ _
  have HB : Hid (Below g w W0) := hid (by rw [← hW, ← hg]; exact below_both (below_both (al1 w _) (al1 _ _)) (al1 _ _))
  have HSN : Hid (g ≤ W0.heap.size) := hid (Nat.le_of_lt (box_lt kt))
  have HG := hid hg
  have HKt := hid kt
  have HKm := hid km
  have HKr := hid kr
  have HBS := hid hbs
  have HLN := hid hn
  have HNL := hid hnl
  have HOW := hid how
  have HNOW : Hid (R64 now) := hid (by unfold R64; omega)
  obtain ⟨⟨t0, t1, t2, t3, t4, t5⟩, t6, t7, t8, t9, t10, t11⟩ := load12 kt
  simp only at t0 t1 t2 t3 t4 t5 t6 t7 t8 t9 t10 t11
  have m0 : W0.cell? ⟨g + 1, 0, none⟩ = some (.int .u8 kd) := cell_of_row _ _ 0 _ _ _ km
  have m1 : W0.cell? ⟨g + 1, 1, none⟩ = some (.bool true) := cell_of_row _ _ 1 _ _ _ km
  have m2 : W0.cell? ⟨g + 1, 2, none⟩ = some (.int .u8 wh) := cell_of_row _ _ 2 _ _ _ km
  have ft := box_fr kt
  unfold tv
  simp only [cT, z6] at hW
  have HWW := hid hW
  clear hg hW kt km kr hbs hn how hnl
  obtain ⟨j, hj⟩ : ∃ j : Nat, wh.tmod (n : Int) = (j : Int) := ⟨(wh % (n : Int)).toNat, by rw [Int.tmod_eq_emod_of_nonneg hwh.1]; have := Int.emod_nonneg wh (show (n : Int) ≠ 0 by omega); omega⟩
  have hjn : j < n := by
    rw [Int.tmod_eq_emod_of_nonneg hwh.1] at hj
    have := Int.emod_lt_of_pos wh (show (0 : Int) < (n : Int) by omega)
    omega
  obtain ⟨m, hm⟩ : ∃ m, sent[j]? = some m := ⟨sent[j]'(by rw [HLN.out]; exact hjn), List.getElem?_eq_getElem _⟩
  obtain ⟨⟨⟨xl, xr, xe, xn, xp, xd⟩, ms⟩, hx⟩ : ∃ r, recR ⟨bl, br, be, bn, bp, bd⟩ m = r := ⟨_, rfl⟩
  have hact : actS ⟨bl, br, be, bn, bp, bd⟩ sent q wh now = (⟨xl, xr, xe, xn, xp, xd⟩, ms) := by
    unfold actS
    rw [if_neg (by omega), if_neg (by omega), if_neg (by omega), HLN.out]
    have e : (wh % (n : Int)).toNat = j := by rw [Int.tmod_eq_emod_of_nonneg hwh.1] at hj; omega
    rw [e, hm]
    exact hx
  rw [hact]
  have h1 := fun W => receive_any ⟨bl, br, be, bn, bp, bd⟩ now m 0 none 0 0 none 0 0 W
  rw [hx] at h1
  have HML : Hid (ms.length ≤ 1) := hid (by have h2 := recR_len ⟨bl, br, be, bn, bp, bd⟩ m; rw [hx] at h2; exact h2)
  obtain ⟨bk, hA, hcell⟩ : ∃ bk, A0 = some ⟨bk, 0, none⟩ ∧ bk < w.heap.size ∧ ∀ i u, (cM m)[i]? = some u → w.cell? ⟨bk, j * 8 + i, none⟩ = some u := by
    have hms := own_msgs HOW.out HLN.out
    rcases HOW.out.2 with ⟨e, _⟩ | ⟨bk, cap, cur, e, _, hg0, _⟩
    · injection e with _ e2 _
      omega
    · injection e with e1 _ _
      refine ⟨bk, e1, box_lt hg0, fun i u hu => ?_⟩
      subst e1
      have hlen := (List.getElem?_eq_some_iff.1 hu).1
      have h8 : (cM m).length = 8 := rfl
      have hfl := flat_getG (rows := sent.map cM) (st := 8) (i := j) (j := i) (r := cM m) (fun r hr => by obtain ⟨s, _, rfl⟩ := List.mem_map.1 hr; rfl) (by rw [List.getElem?_map, hm]; rfl) (by omega)
      rw [hu] at hfl
      have := mes_cells hms (j * 8 + i) u hfl
      rwa [add_at, Nat.zero_add] at this
  subst hA
  obtain ⟨hbl, hcl⟩ := hcell
  obtain ⟨k, mf, mt, mn, me⟩ := m
  have HC : Hid (∀ W, Calls Try.prog 24 #[.agg #[.int .i64 bl, .int .i64 br, .int .i64 be, .int .i64 bn, .int .i64 bp, .int .i64 bd], .int .i64 now, .agg #[.int .i64 k, .int .i64 mf, .int .i64 mt, .int .i64 mn, .int .i64 0, .int .i64 me, .slice none 0 0, .slice none 0 0]] W fun f w' => ∃ v, f = .returned (.tuple #[.agg #[.int .i64 xl, .int .i64 xr, .int .i64 xe, .int .i64 xn, .int .i64 xp, .int .i64 xd], v]) ∧ MsgQ W.heap.size w' v ms ∧ Below W.heap.size W w') := hid h1
  have HBL := hid hbl
  have HCL := hid hcl
  have HK : Hid (∀ X, Below W0.heap.size W0 X → X.cell? ⟨bk, j * 8, none⟩ = some (.int .i64 k) ∧ X.cell? ⟨bk, j * 8 + 1, none⟩ = some (.int .i64 mf) ∧ X.cell? ⟨bk, j * 8 + 2, none⟩ = some (.int .i64 mt) ∧ X.cell? ⟨bk, j * 8 + 3, none⟩ = some (.int .i64 mn) ∧ X.cell? ⟨bk, j * 8 + 4, none⟩ = some (.int .i64 0) ∧ X.cell? ⟨bk, j * 8 + 5, none⟩ = some (.int .i64 me) ∧ X.cell? ⟨bk, j * 8 + 6, none⟩ = some (.slice none 0 0) ∧ X.cell? ⟨bk, j * 8 + 7, none⟩ = some (.slice none 0 0) ∧ X.cell? ⟨g + 1, 2, none⟩ = some (.int .u8 wh)) := hid (fun X hX => by
    have hw2 : X.cell? ⟨g + 1, 2, none⟩ = some (.int .u8 wh) := cell_of_row _ _ 2 _ _ _ ((hX.block _ (box_lt HKm.out)).trans HKm.out)
    have hc : ∀ i u, (cM ⟨k, mf, mt, mn, me⟩)[i]? = some u → X.cell? ⟨bk, j * 8 + i, none⟩ = some u := fun i u hu => ((hX.mono HSN.out).cell (p := ⟨bk, j * 8 + i, none⟩) (by have := HBL.out; have := HG.out; show bk < g; omega)).trans ((HB.out.cell (p := ⟨bk, j * 8 + i, none⟩) (by have := HBL.out; have := HG.out; show bk < g; omega)).trans (HCL.out i u hu))
    exact ⟨hc 0 _ rfl, hc 1 _ rfl, hc 2 _ rfl, hc 3 _ rfl, hc 4 _ rfl, hc 5 _ rfl, hc 6 _ rfl, hc 7 _ rfl, hw2⟩)
  have d9 : decide (0 < n) = true := decide_eq_true (by omega)
  have d8 : decide ((0 : Int) < (n : Int)) = true := decide_eq_true (by omega)
  have ww : IntKind.i64.wrap wh = wh := by rw [IntKind.wrap_i64]; omega
  have wj : IntKind.i64.wrap (j : Int) = (j : Int) := by rw [IntKind.wrap_i64]; have := HNL.out; omega
  have nz : ((n : Int) == 0) = false := by simp; omega
  have nz' : ¬ (n : Int) = 0 := by omega
  have nz2 : ¬ n = 0 := by omega
  have hji : (j : Int) < (n : Int) := by omega
  have q0 : (q == 0) = false := by simp; omega
  have q5 : (q == 5) = false := by simp; omega
  have q6 : (q == 6) = false := by simp; omega
  clear hact h1 hx hm hq hk hbl hcl hkd hwh
  go_enter Try.func27, Try.ntmps27
  go_upto_region 1 with fail
  rw [HWW.out, HG.out]
  clear HWW
  go_upto_region 7 with fail
  obtain ⟨X0, hX0⟩ : ∃ X, W0.drew = X := ⟨_, rfl⟩
  have hb0 : Below W0.heap.size W0 X0 := by rw [← hX0]; exact (Below.refl W0.heap.size W0).drew
  have hHeld := HK.out X0 hb0
  have HB1 := hid hb0
  have kx0 := (hb0.block _ (box_lt HKt.out)).trans HKt.out
  have HX0 := hid hX0
  clear hX0 hb0 t0 t1 t2 t3 t4 t5 t6 t7 t8 t9 t10 t11 ft m0 m1 m2
  obtain ⟨⟨t0, t1, t2, t3, t4, t5⟩, t6, t7, t8, t9, t10, t11⟩ := load12 kx0
  simp only at t0 t1 t2 t3 t4 t5 t6 t7 t8 t9 t10 t11
  clear kx0
  refine region_tail 20 (fun X => X.cell? ⟨bk, j * 8, none⟩ = some (.int .i64 k) ∧ X.cell? ⟨bk, j * 8 + 1, none⟩ = some (.int .i64 mf) ∧ X.cell? ⟨bk, j * 8 + 2, none⟩ = some (.int .i64 mt) ∧ X.cell? ⟨bk, j * 8 + 3, none⟩ = some (.int .i64 mn) ∧ X.cell? ⟨bk, j * 8 + 4, none⟩ = some (.int .i64 0) ∧ X.cell? ⟨bk, j * 8 + 5, none⟩ = some (.int .i64 me) ∧ X.cell? ⟨bk, j * 8 + 6, none⟩ = some (.slice none 0 0) ∧ X.cell? ⟨bk, j * 8 + 7, none⟩ = some (.slice none 0 0) ∧ X.cell? ⟨g + 1, 2, none⟩ = some (.int .u8 wh)) (by kernel_rfl) ?_
  rw [HX0.out]
  refine' wpAnyT_take (i := 0) (oi := ?oirt0) (v := ?vrt0) ?hirt0 (by kernel_rfl) (by kernel_rfl) ?hqrt0 ?hyrt0 hHeld ?restrt0
  case hirt0 => (simp only [List.getElem?_toArray, List.getElem?_cons_zero]; rfl)
  case hqrt0 => exact fun _ _ _ h => h
  case hyrt0 => (refine Or.inl ⟨by rfl, ?_⟩; intro w' hSw; (try dsimp only at hSw); go_simp; try with_reducible rfl)
  (try simp only [Act.put, List.setIfInBounds_toArray, List.set_cons_zero, List.set_cons_succ])
  refine' wpAnyT_take (i := 1) (oi := ?oirt1) (v := ?vrt1) ?hirt1 (by kernel_rfl) (by kernel_rfl) ?hqrt1 ?hyrt1 hHeld ?restrt1
  case hirt1 => (simp only [List.getElem?_toArray, List.getElem?_cons_zero, List.getElem?_cons_succ]; rfl)
  case hqrt1 => exact fun _ _ _ h => h
  case hyrt1 => (refine Or.inl ⟨by rfl, ?_⟩; intro w' hSw; (try dsimp only at hSw); go_simp; try with_reducible rfl)
  (try simp only [Act.put, List.setIfInBounds_toArray, List.set_cons_zero, List.set_cons_succ])
  refine' wpAnyT_take (i := 2) (oi := ?oirt2) (v := ?vrt2) ?hirt2 (by kernel_rfl) (by kernel_rfl) ?hqrt2 ?hyrt2 hHeld ?restrt2
  case hirt2 => (simp only [List.getElem?_toArray, List.getElem?_cons_zero, List.getElem?_cons_succ]; rfl)
  case hqrt2 => exact fun _ _ _ h => h
  case hyrt2 => (refine Or.inl ⟨by rfl, ?_⟩; intro w' hSw; (try dsimp only at hSw); go_simp; try with_reducible rfl)
  (try simp only [Act.put, List.setIfInBounds_toArray, List.set_cons_zero, List.set_cons_succ])
  refine' wpAnyT_take (i := 4) (oi := ?oirt4) (v := ?vrt4) ?hirt4 (by kernel_rfl) (by kernel_rfl) ?hqrt4 ?hyrt4 hHeld ?restrt4
  case hirt4 => (simp only [List.getElem?_toArray, List.getElem?_cons_zero, List.getElem?_cons_succ]; rfl)
  case hqrt4 => exact fun _ _ _ h => h
  case hyrt4 => (refine Or.inl ⟨by rfl, ?_⟩; intro w' hSw; (try dsimp only at hSw); go_simp; try with_reducible rfl)
  (try simp only [Act.put, List.setIfInBounds_toArray, List.set_cons_zero, List.set_cons_succ])
  refine' wpAnyT_take (i := 5) (oi := ?oirt5) (v := ?vrt5) ?hirt5 (by kernel_rfl) (by kernel_rfl) ?hqrt5 ?hyrt5 hHeld ?restrt5
  case hirt5 => (simp only [List.getElem?_toArray, List.getElem?_cons_zero, List.getElem?_cons_succ]; rfl)
  case hqrt5 => exact fun _ _ _ h => h
  case hyrt5 => (refine Or.inl ⟨by rfl, ?_⟩; intro w' hSw; (try dsimp only at hSw); go_simp; try with_reducible rfl)
  (try simp only [Act.put, List.setIfInBounds_toArray, List.set_cons_zero, List.set_cons_succ])
  refine' wpAnyT_take (i := 6) (oi := ?oirt6) (v := ?vrt6) ?hirt6 (by kernel_rfl) (by kernel_rfl) ?hqrt6 ?hyrt6 hHeld ?restrt6
  case hirt6 => (simp only [List.getElem?_toArray, List.getElem?_cons_zero, List.getElem?_cons_succ]; rfl)
  case hqrt6 => exact fun _ _ _ h => h
  case hyrt6 => (refine Or.inl ⟨by rfl, ?_⟩; intro w' hSw; (try dsimp only at hSw); go_simp; try with_reducible rfl)
  (try simp only [Act.put, List.setIfInBounds_toArray, List.set_cons_zero, List.set_cons_succ])
  refine' wpAnyT_take (i := 7) (oi := ?oirt7) (v := ?vrt7) ?hirt7 (by kernel_rfl) (by kernel_rfl) ?hqrt7 ?hyrt7 hHeld ?restrt7
  case hirt7 => (simp only [List.getElem?_toArray, List.getElem?_cons_zero, List.getElem?_cons_succ]; rfl)
  case hqrt7 => exact fun _ _ _ h => h
  case hyrt7 => (refine Or.inl ⟨by rfl, ?_⟩; intro w' hSw; (try dsimp only at hSw); go_simp; try with_reducible rfl)
  (try simp only [Act.put, List.setIfInBounds_toArray, List.set_cons_zero, List.set_cons_succ])
  refine' wpAnyT_take (i := 8) (oi := ?oirt8) (v := ?vrt8) ?hirt8 (by kernel_rfl) (by kernel_rfl) ?hqrt8 ?hyrt8 hHeld ?restrt8
  case hirt8 => (simp only [List.getElem?_toArray, List.getElem?_cons_zero, List.getElem?_cons_succ]; rfl)
  case hqrt8 => exact fun _ _ _ h => h
  case hyrt8 => (refine Or.inl ⟨by rfl, ?_⟩; intro w' hSw; (try dsimp only at hSw); go_simp; try with_reducible rfl)
  (try simp only [Act.put, List.setIfInBounds_toArray, List.set_cons_zero, List.set_cons_succ])
  refine' wpAnyT_take (i := 9) (oi := ?oirt9) (v := ?vrt9) ?hirt9 (by kernel_rfl) (by kernel_rfl) ?hqrt9 ?hyrt9 hHeld ?restrt9
  case hirt9 => (simp only [List.getElem?_toArray, List.getElem?_cons_zero, List.getElem?_cons_succ]; rfl)
  case hqrt9 => exact fun _ _ _ h => h
  case hyrt9 => (refine Or.inl ⟨by rfl, ?_⟩; intro w' hSw; (try dsimp only at hSw); go_simp; try with_reducible rfl)
  (try simp only [Act.put, List.setIfInBounds_toArray, List.set_cons_zero, List.set_cons_succ])
  refine' wpAnyT_take (i := 10) (oi := ?oirt10) (v := ?vrt10) ?hirt10 (by kernel_rfl) (by kernel_rfl) ?hqrt10 ?hyrt10 hHeld ?restrt10
  case hirt10 => (simp only [List.getElem?_toArray, List.getElem?_cons_zero, List.getElem?_cons_succ]; rfl)
  case hqrt10 => exact fun _ _ _ h => h
  case hyrt10 => (refine Or.inl ⟨by rfl, ?_⟩; intro w' hSw; (try dsimp only at hSw); go_simp; try with_reducible rfl)
  (try simp only [Act.put, List.setIfInBounds_toArray, List.set_cons_zero, List.set_cons_succ])
  refine' wpAnyT_take (i := 11) (oi := ?oirt11) (v := ?vrt11) ?hirt11 (by kernel_rfl) (by kernel_rfl) ?hqrt11 ?hyrt11 hHeld ?restrt11
  case hirt11 => (simp only [List.getElem?_toArray, List.getElem?_cons_zero, List.getElem?_cons_succ]; rfl)
  case hqrt11 => exact fun _ _ _ h => h
  case hyrt11 => (refine Or.inl ⟨by rfl, ?_⟩; intro w' hSw; (try dsimp only at hSw); go_simp; try with_reducible rfl)
  (try simp only [Act.put, List.setIfInBounds_toArray, List.set_cons_zero, List.set_cons_succ])
  refine' wpAnyT_take (i := 12) (oi := ?oirt12) (v := ?vrt12) ?hirt12 (by kernel_rfl) (by kernel_rfl) ?hqrt12 ?hyrt12 hHeld ?restrt12
  case hirt12 => (simp only [List.getElem?_toArray, List.getElem?_cons_zero, List.getElem?_cons_succ]; rfl)
  case hqrt12 => exact fun _ _ _ h => h
  case hyrt12 => (refine Or.inl ⟨by rfl, ?_⟩; intro w' hSw; (try dsimp only at hSw); go_simp; try with_reducible rfl)
  (try simp only [Act.put, List.setIfInBounds_toArray, List.set_cons_zero, List.set_cons_succ])
  refine' wpAnyT_take (i := 13) (oi := ?oirt13) (v := ?vrt13) ?hirt13 (by kernel_rfl) (by kernel_rfl) ?hqrt13 ?hyrt13 hHeld ?restrt13
  case hirt13 => (simp only [List.getElem?_toArray, List.getElem?_cons_zero, List.getElem?_cons_succ]; rfl)
  case hqrt13 => exact fun _ _ _ h => h
  case hyrt13 => (refine Or.inl ⟨by rfl, ?_⟩; intro w' hSw; (try dsimp only at hSw); go_simp; try with_reducible rfl)
  (try simp only [Act.put, List.setIfInBounds_toArray, List.set_cons_zero, List.set_cons_succ])
  refine' wpAnyT_one (i := 3) (o := ?oirt3) (by kernel_rfl) ?hirt3 (fun K hK => ?strt3)
  case hirt3 => (simp only [List.getElem?_toArray, List.getElem?_cons_zero, List.getElem?_cons_succ]; rfl)
  go_simp
  refine hK.out _ _ (fun _ => hHeld) ?_
  clear hK K
  (try simp only [Act.put, List.setIfInBounds_toArray, List.set_cons_zero, List.set_cons_succ])
  refine' wpAnyT_one (i := 14) (o := ?oirt14) (by kernel_rfl) ?hirt14 (fun K hK => ?strt14)
  case hirt14 => (simp only [List.getElem?_toArray, List.getElem?_cons_zero, List.getElem?_cons_succ]; rfl)
  go_simp
  go_at_call 24
  (with_reducible refine (HC.out _).mono ?_)
  rintro _ wn ⟨v9, rfl, hm, hb⟩
  have HMQ : Hid (MsgQ 0 wn v9 ms) := hid (hm.keep (Nat.zero_le _) (fun _ _ _ h => h))
  have HB2 := hid (below_both HB1.out hb)
  have hHeld := HK.out wn HB2.out
  clear hm hb t0 t1 t2 t3 t4 t5 t6 t7 t8 t9 t10 t11
  refine hK.out _ _ (fun _ => hHeld) ?_
  clear hK K
  (try simp only [Act.put, List.setIfInBounds_toArray, List.set_cons_zero, List.set_cons_succ])
  refine' wpAnyT_take (i := 15) (oi := ?oirt15) (v := ?vrt15) ?hirt15 (by kernel_rfl) (by kernel_rfl) ?hqrt15 ?hyrt15 hHeld ?restrt15
  case hirt15 => (simp only [List.getElem?_toArray, List.getElem?_cons_zero, List.getElem?_cons_succ]; rfl)
  case hqrt15 => exact fun _ _ _ h => h
  case hyrt15 => (refine Or.inl ⟨by rfl, ?_⟩; intro w' hSw; (try dsimp only at hSw); go_simp; try with_reducible rfl)
  (try simp only [Act.put, List.setIfInBounds_toArray, List.set_cons_zero, List.set_cons_succ])
  refine' wpAnyT_take (i := 16) (oi := ?oirt16) (v := ?vrt16) ?hirt16 (by kernel_rfl) (by kernel_rfl) ?hqrt16 ?hyrt16 hHeld ?restrt16
  case hirt16 => (simp only [List.getElem?_toArray, List.getElem?_cons_zero, List.getElem?_cons_succ]; rfl)
  case hqrt16 => exact fun _ _ _ h => h
  case hyrt16 => (refine Or.inl ⟨by rfl, ?_⟩; intro w' hSw; (try dsimp only at hSw); go_simp; try with_reducible rfl)
  (try simp only [Act.put, List.setIfInBounds_toArray, List.set_cons_zero, List.set_cons_succ])
  refine' wpAnyT_take (i := 17) (oi := ?oirt17) (v := ?vrt17) ?hirt17 (by kernel_rfl) (by kernel_rfl) ?hqrt17 ?hyrt17 hHeld ?restrt17
  case hirt17 => (simp only [List.getElem?_toArray, List.getElem?_cons_zero, List.getElem?_cons_succ]; rfl)
  case hqrt17 => exact fun _ _ _ h => h
  case hyrt17 => (refine Or.inl ⟨by rfl, ?_⟩; intro w' hSw; (try dsimp only at hSw); go_simp; try with_reducible rfl)
  (try simp only [Act.put, List.setIfInBounds_toArray, List.set_cons_zero, List.set_cons_succ])
  refine' wpAnyT_one (i := 18) (o := ?oirt18) (by kernel_rfl) ?hirt18 (fun K hK => ?strt18)
  case hirt18 => (simp only [List.getElem?_toArray, List.getElem?_cons_zero, List.getElem?_cons_succ]; rfl)
  go_simp
  refine hK.out _ _ (fun _ => hHeld) ?_
  clear hK K
  (try simp only [Act.put, List.setIfInBounds_toArray, List.set_cons_zero, List.set_cons_succ])
  refine' wpAnyT_one (i := 19) (o := ?oirt19) (by kernel_rfl) ?hirt19 (fun K hK => ?strt19)
  case hirt19 => (simp only [List.getElem?_toArray, List.getElem?_cons_zero, List.getElem?_cons_succ]; rfl)
  have HKt0 := hid HKt.out
  have HKt := hid ((HB2.out.block _ (box_lt HKt.out)).trans HKt.out)
  have HKr := hid ((HB2.out.block _ (box_lt HKr.out)).trans HKr.out)
  have HB := hid (HB.out.trans (HB2.out.mono HSN.out))
  obtain ⟨⟨t0, t1, t2, t3, t4, t5⟩, t6, t7, t8, t9, t10, t11⟩ := load12 HKt.out
  simp only at t0 t1 t2 t3 t4 t5 t6 t7 t8 t9 t10 t11
  have ft := box_fr HKt.out
  go_simp
  obtain ⟨Wt, hWt⟩ : ∃ X, setHi wn g ⟨xl, xr, xe, xn, xp, xd⟩ = X := ⟨_, rfl⟩
  have HMS : Hid (Msgs Wt v9 ms) := hid (by rw [← hWt]; exact (HMQ.out.keepT (Nat.le_refl _) (hi_keep ⟨xl, xr, xe, xn, xp, xd⟩ HKt.out (by decide))).msgs)
  have HKr := hid (show Wt.heap[g + 2]? = some (.cells (cT z6 z6) 54) by rw [← hWt]; exact hi_off _ (by omega) HKr.out)
  have HB := hid (show Below g w Wt by rw [← hWt]; exact hi_b ⟨xl, xr, xe, xn, xp, xd⟩ HB.out (Nat.le_refl _))
  have HKt := hid (show Wt.heap[g]? = some (.cells (cT ⟨al, ar, ae, an, ap, ad⟩ ⟨xl, xr, xe, xn, xp, xd⟩) 54) by rw [← hWt]; exact hi_h ⟨xl, xr, xe, xn, xp, xd⟩ HKt.out)
  have HWt := hid hWt
  have hHn : Wt.cell? ⟨bk, j * 8, none⟩ = some (.int .i64 k) ∧ Wt.cell? ⟨bk, j * 8 + 1, none⟩ = some (.int .i64 mf) ∧ Wt.cell? ⟨bk, j * 8 + 2, none⟩ = some (.int .i64 mt) ∧ Wt.cell? ⟨bk, j * 8 + 3, none⟩ = some (.int .i64 mn) ∧ Wt.cell? ⟨bk, j * 8 + 4, none⟩ = some (.int .i64 0) ∧ Wt.cell? ⟨bk, j * 8 + 5, none⟩ = some (.int .i64 me) ∧ Wt.cell? ⟨bk, j * 8 + 6, none⟩ = some (.slice none 0 0) ∧ Wt.cell? ⟨bk, j * 8 + 7, none⟩ = some (.slice none 0 0) ∧ Wt.cell? ⟨g + 1, 2, none⟩ = some (.int .u8 wh) := by
    have hg : ∀ (p : Nat) (i : Nat), p ≠ g → Wt.cell? ⟨p, i, none⟩ = wn.cell? ⟨p, i, none⟩ := fun p i hp => by rw [← HWt.out]; exact hi_cell _ hp i
    obtain ⟨e0, e1, e2, e3, e4, e5, e6, e7, e8⟩ := hHeld
    have hbg : bk ≠ g := by have := HBL.out; have := HG.out; omega
    exact ⟨(hg _ _ hbg).trans e0, (hg _ _ hbg).trans e1, (hg _ _ hbg).trans e2, (hg _ _ hbg).trans e3, (hg _ _ hbg).trans e4, (hg _ _ hbg).trans e5, (hg _ _ hbg).trans e6, (hg _ _ hbg).trans e7, (hg _ _ (by omega)).trans e8⟩
  simp only [setHi] at HWt
  clear hWt t0 t1 t2 t3 t4 t5 t6 t7 t8 t9 t10 t11 ft
  rw [HWt.out]
  clear hHeld
  have hHeld := hHn
  refine hK.out _ _ (fun _ => hHeld) ?_
  clear hK K
  (try simp only [Act.put, List.setIfInBounds_toArray, List.set_cons_zero, List.set_cons_succ])
  refine' wpAnyT_one (i := 20) (o := ?oirt20) (by kernel_rfl) ?hirt20 (fun K hK => ?strt20)
  case hirt20 => (simp only [List.getElem?_toArray, List.getElem?_cons_zero, List.getElem?_cons_succ]; rfl)
  go_simp
  refine hK.out _ _ (fun h => absurd h (by decide)) ?_
  clear hK K
  (try simp only [Act.put, List.setIfInBounds_toArray, List.set_cons_zero, List.set_cons_succ])
  refine wpAnyT_done (by kernel_rfl) ?_ _
  go_upto_region 16 with fail
  obtain ⟨X0, hX0⟩ : ∃ X, Wt.drew = X := ⟨_, rfl⟩
  have j1 : X0.heap[g]? = some (.cells (cT ⟨al, ar, ae, an, ap, ad⟩ ⟨xl, xr, xe, xn, xp, xd⟩) 54) := by rw [← hX0]; exact HKt.out
  have j2 : X0.heap[g + 2]? = some (.cells (cT z6 z6) 54) := by rw [← hX0]; exact HKr.out
  have HB0 : Hid (Below g w X0) := hid (by rw [← hX0]; exact below_drew HB.out)
  have HMM : Hid (Msgs X0 v9 ms) := hid (by rw [← hX0]; exact HMS.out)
  have J1 := hid j1
  have J2 := hid j2
  have hHeld : X0.cell? ⟨g, 0, none⟩ = some (.int .i64 al) ∧ X0.cell? ⟨g, 1, none⟩ = some (.int .i64 ar) ∧ X0.cell? ⟨g, 2, none⟩ = some (.int .i64 ae) ∧ X0.cell? ⟨g, 3, none⟩ = some (.int .i64 an) ∧ X0.cell? ⟨g, 4, none⟩ = some (.int .i64 ap) ∧ X0.cell? ⟨g, 5, none⟩ = some (.int .i64 ad) ∧ X0.cell? ⟨g, 6, none⟩ = some (.int .i64 xl) ∧ X0.cell? ⟨g, 7, none⟩ = some (.int .i64 xr) ∧ X0.cell? ⟨g, 8, none⟩ = some (.int .i64 xe) ∧ X0.cell? ⟨g, 9, none⟩ = some (.int .i64 xn) ∧ X0.cell? ⟨g, 10, none⟩ = some (.int .i64 xp) ∧ X0.cell? ⟨g, 11, none⟩ = some (.int .i64 xd) := by
    obtain ⟨⟨b0, b1, b2, b3, b4, b5⟩, r⟩ := load12 j1
    exact ⟨b0, b1, b2, b3, b4, b5, r⟩
  have HX0 := hid hX0
  clear hX0 j1 j2 
  refine region_tail 4 (fun X => X.cell? ⟨g, 0, none⟩ = some (.int .i64 al) ∧ X.cell? ⟨g, 1, none⟩ = some (.int .i64 ar) ∧ X.cell? ⟨g, 2, none⟩ = some (.int .i64 ae) ∧ X.cell? ⟨g, 3, none⟩ = some (.int .i64 an) ∧ X.cell? ⟨g, 4, none⟩ = some (.int .i64 ap) ∧ X.cell? ⟨g, 5, none⟩ = some (.int .i64 ad) ∧ X.cell? ⟨g, 6, none⟩ = some (.int .i64 xl) ∧ X.cell? ⟨g, 7, none⟩ = some (.int .i64 xr) ∧ X.cell? ⟨g, 8, none⟩ = some (.int .i64 xe) ∧ X.cell? ⟨g, 9, none⟩ = some (.int .i64 xn) ∧ X.cell? ⟨g, 10, none⟩ = some (.int .i64 xp) ∧ X.cell? ⟨g, 11, none⟩ = some (.int .i64 xd)) (by kernel_rfl) ?_
  rw [HX0.out]
  refine' wpAnyT_take (i := 0) (oi := ?oiht0) (v := ?vht0) ?hiht0 (by kernel_rfl) (by kernel_rfl) ?hqht0 ?hyht0 hHeld ?restht0
  case hiht0 => (simp only [List.getElem?_toArray, List.getElem?_cons_zero]; rfl)
  case hqht0 => exact fun _ _ _ h => h
  case hyht0 => (refine Or.inl ⟨by rfl, ?_⟩; intro w' hSw; (try dsimp only at hSw); go_simp; try with_reducible rfl)
  (try simp only [Act.put, List.setIfInBounds_toArray, List.set_cons_zero, List.set_cons_succ])
  refine' wpAnyT_take (i := 1) (oi := ?oiht1) (v := ?vht1) ?hiht1 (by kernel_rfl) (by kernel_rfl) ?hqht1 ?hyht1 hHeld ?restht1
  case hiht1 => (simp only [List.getElem?_toArray, List.getElem?_cons_zero, List.getElem?_cons_succ]; rfl)
  case hqht1 => exact fun _ _ _ h => h
  case hyht1 => (refine Or.inl ⟨by rfl, ?_⟩; intro w' hSw; (try dsimp only at hSw); go_simp; try with_reducible rfl)
  (try simp only [Act.put, List.setIfInBounds_toArray, List.set_cons_zero, List.set_cons_succ])
  refine' wpAnyT_take (i := 2) (oi := ?oiht2) (v := ?vht2) ?hiht2 (by kernel_rfl) (by kernel_rfl) ?hqht2 ?hyht2 hHeld ?restht2
  case hiht2 => (simp only [List.getElem?_toArray, List.getElem?_cons_zero, List.getElem?_cons_succ]; rfl)
  case hqht2 => exact fun _ _ _ h => h
  case hyht2 => (refine Or.inl ⟨by rfl, ?_⟩; intro w' hSw; (try dsimp only at hSw); go_simp; try with_reducible rfl)
  (try simp only [Act.put, List.setIfInBounds_toArray, List.set_cons_zero, List.set_cons_succ])
  refine' wpAnyT_one (i := 3) (o := ?oiht3) (by kernel_rfl) ?hiht3 (fun K hK => ?stht3)
  case hiht3 => (simp only [List.getElem?_toArray, List.getElem?_cons_zero, List.getElem?_cons_succ]; rfl)
  refine step_append_mes rfl (.tmp 83) (.tmp 84) rfl base _ n _ rfl (own_keep HOW.out (keep_below (HB0.out.mono (by rw [HG.out]; exact Nat.le_refl _)))) ms v9 rfl HMM.out (by have := HNL.out; have := HML.out; omega) (by have := HBS.out; have := HB0.out.size; omega) ?_
  intro v8 X2 hown hgr
  have HK2 : Hid (∀ T, T ≠ 47 → Keep T X0 X2) := hid (fun T hT => keep_grown (own_keep HOW.out (keep_below (HB0.out.mono (by rw [HG.out]; exact Nat.le_refl _)))) hT hgr)
  have HP1 := hid (HK2.out 54 (by decide) _ _ J1.out)
  have HP2 := hid (HK2.out 54 (by decide) _ _ J2.out)
  have HB2 : Hid (Below base w X2) := hid (below_ownE (HB0.out.mono (by have := HBS.out; have := HG.out; omega)) (own_keep HOW.out (keep_below (HB0.out.mono (by rw [HG.out]; exact Nat.le_refl _)))) hgr (by have := HBS.out; have := HB0.out.size; omega) (Nat.le_refl _))
  have HOW2 := hid hown
  have hHeld : X2.cell? ⟨g, 0, none⟩ = some (.int .i64 al) ∧ X2.cell? ⟨g, 1, none⟩ = some (.int .i64 ar) ∧ X2.cell? ⟨g, 2, none⟩ = some (.int .i64 ae) ∧ X2.cell? ⟨g, 3, none⟩ = some (.int .i64 an) ∧ X2.cell? ⟨g, 4, none⟩ = some (.int .i64 ap) ∧ X2.cell? ⟨g, 5, none⟩ = some (.int .i64 ad) ∧ X2.cell? ⟨g, 6, none⟩ = some (.int .i64 xl) ∧ X2.cell? ⟨g, 7, none⟩ = some (.int .i64 xr) ∧ X2.cell? ⟨g, 8, none⟩ = some (.int .i64 xe) ∧ X2.cell? ⟨g, 9, none⟩ = some (.int .i64 xn) ∧ X2.cell? ⟨g, 10, none⟩ = some (.int .i64 xp) ∧ X2.cell? ⟨g, 11, none⟩ = some (.int .i64 xd) := by
    obtain ⟨⟨b0, b1, b2, b3, b4, b5⟩, r⟩ := load12 HP1.out
    exact ⟨b0, b1, b2, b3, b4, b5, r⟩
  clear hown hgr
  refine hK.out _ _ (fun _ => hHeld) ?_
  clear hK K
  (try simp only [Act.put, List.setIfInBounds_toArray, List.set_cons_zero, List.set_cons_succ])
  refine' wpAnyT_one (i := 4) (o := ?oiht4) (by kernel_rfl) ?hiht4 (fun K hK => ?stht4)
  case hiht4 => (simp only [List.getElem?_toArray, List.getElem?_cons_zero, List.getElem?_cons_succ]; rfl)
  obtain ⟨⟨i0, i1, i2, i3, i4, i5⟩, i6, i7, i8, i9, i10, i11⟩ := load12 HP2.out
  simp only [z6] at i0 i1 i2 i3 i4 i5 i6 i7 i8 i9 i10 i11
  have ff := box_fr HP2.out
  go_simp
  obtain ⟨Y, hY⟩ : ∃ X, set12 X2 (g + 2) ⟨al, ar, ae, an, ap, ad⟩ ⟨xl, xr, xe, xn, xp, xd⟩ = X := ⟨_, rfl⟩
  have HY := hid hY
  simp only [set12, set6] at hY
  rw [hY]
  clear hY i0 i1 i2 i3 i4 i5 i6 i7 i8 i9 i10 i11 ff
  refine hK.out _ _ (fun h => absurd h (by decide)) ?_
  clear hK K
  (try simp only [Act.put, List.setIfInBounds_toArray, List.set_cons_zero, List.set_cons_succ])
  refine' wpAnyT_one (i := 5) (o := ?oiht5) (by kernel_rfl) ?hiht5 (fun K hK => ?stht5)
  case hiht5 => (simp only [List.getElem?_toArray, List.getElem?_cons_zero, List.getElem?_cons_succ]; rfl)
  go_simp
  refine hK.out _ _ (fun h => absurd h (by decide)) ?_
  clear hK K
  (try simp only [Act.put, List.setIfInBounds_toArray, List.set_cons_zero, List.set_cons_succ])
  refine wpAnyT_done (by kernel_rfl) ?_ _
  go_wp2_with fail
  refine bodyPost_ret (results_t1 rfl _ _ (g + 2) 54 ⟨al, ar, ae, an, ap, ad⟩ ⟨xl, xr, xe, xn, xp, xd⟩ rfl (by rw [← HY.out]; exact set12h ⟨al, ar, ae, an, ap, ad⟩ ⟨xl, xr, xe, xn, xp, xd⟩ HP2.out) _ rfl) rfl ?_
  refine ⟨v8, rfl, ?_, ?_, fun T hT => ?_⟩
  · have e : ((sent ++ ms).map cM).flatten = (sent.map cM).flatten ++ ((ms).map cM).flatten := by rw [List.map_append, List.flatten_append]
    rw [e, List.length_append, HLN.out]
    exact own_keep HOW2.out (by rw [← HY.out]; exact keepT_set12 _ _ HP2.out (by decide))
  · rw [← HY.out]
    exact set12b _ _ HB2.out (by have := HBS.out; have := HG.out; omega)
  · rw [← HY.out]
    exact keepO_set12 _ _ (Keep.trans (keep_below (HB0.out.mono (by rw [HG.out]; exact Nat.le_refl _))) (HK2.out T hT)) (by have := HG.out; omega)
set_option maxHeartbeats 16000000 in
set_option maxRecDepth 100000 in
theorem step_rec0_t (a b : Ses) (sent : List Mes) (u : Value) (kd wh : Int) (now : Int) (base n : Nat) (w : World) (hbs : base ≤ w.heap.size) (hn : sent.length = n) (hnl : n ≤ 1000) (how : w.ownsRow base 47 8 u n (sent.map cM).flatten) (hkd : 0 ≤ kd ∧ kd ≤ 255) (_hwh : 0 ≤ wh ∧ wh ≤ 255) (hnow : 0 ≤ now ∧ now ≤ 1000) (hk : kd % 7 ≠ 0 ∧ kd % 7 ≠ 5 ∧ kd % 7 ≠ 6) (hn0 : n = 0) :
    Calls Try.prog 27 #[tv a b, u, .agg #[.int .u8 kd, .bool true, .int .u8 wh], .int .i64 now] w (StepQ base a (actS b sent (kd % 7) wh now).1 (sent ++ (actS b sent (kd % 7) wh now).2) w) := by
  obtain ⟨A0, c0, rfl⟩ := ownAny_form how
  obtain ⟨q, hq⟩ : ∃ q, kd % 7 = q := ⟨_, rfl⟩
  have tq : kd.tmod 7 = q := by rw [Int.tmod_eq_emod_of_nonneg hkd.1]; exact hq
  have wq : wrap64 q = q := w64 (by omega) (by omega)
  rw [hq]
  obtain ⟨g, hg⟩ : ∃ g, w.heap.size = g := ⟨_, rfl⟩
  obtain ⟨al, ar, ae, an, ap, ad⟩ := a
  obtain ⟨bl, br, be, bn, bp, bd⟩ := b
  obtain ⟨W0, hW⟩ : ∃ X, ((w.alloc (.cells (cT ⟨al, ar, ae, an, ap, ad⟩ ⟨bl, br, be, bn, bp, bd⟩) 54)).alloc (.cells #[.int .u8 kd, .bool true, .int .u8 wh] 61)).alloc (.cells (cT z6 z6) 54) = X := ⟨_, rfl⟩
  have kt : W0.heap[g]? = some (.cells (cT ⟨al, ar, ae, an, ap, ad⟩ ⟨bl, br, be, bn, bp, bd⟩) 54) := by rw [← hW, ← hg]; exact old_al2 (old_al2 (heap_alloc_new w _) _) _
  have km : W0.heap[g + 1]? = some (.cells #[.int .u8 kd, .bool true, .int .u8 wh] 61) := by rw [← hW, ← hg]; exact old_al2 (new_two w _ _) _
  have kr : W0.heap[g + 2]? = some (.cells (cT z6 z6) 54) := by rw [← hW, ← hg]; exact new_three2 w _ _ _
  have HB : Hid (Below g w W0) := hid (by rw [← hW, ← hg]; exact below_both (below_both (al1 w _) (al1 _ _)) (al1 _ _))
  have HSN : Hid (g ≤ W0.heap.size) := hid (Nat.le_of_lt (box_lt kt))
  have HG := hid hg
  have HKt := hid kt
  have HKm := hid km
  have HKr := hid kr
  have HBS := hid hbs
  have HLN := hid hn
  have HNL := hid hnl
  have HOW := hid how
  have HNOW : Hid (R64 now) := hid (by unfold R64; omega)
  obtain ⟨⟨t0, t1, t2, t3, t4, t5⟩, t6, t7, t8, t9, t10, t11⟩ := load12 kt
  simp only at t0 t1 t2 t3 t4 t5 t6 t7 t8 t9 t10 t11
  have m0 : W0.cell? ⟨g + 1, 0, none⟩ = some (.int .u8 kd) := cell_of_row _ _ 0 _ _ _ km
  have m1 : W0.cell? ⟨g + 1, 1, none⟩ = some (.bool true) := cell_of_row _ _ 1 _ _ _ km
  have m2 : W0.cell? ⟨g + 1, 2, none⟩ = some (.int .u8 wh) := cell_of_row _ _ 2 _ _ _ km
  have ft := box_fr kt
  unfold tv
  simp only [cT, z6] at hW
  have HWW := hid hW
  clear hg hW kt km kr hbs hn how hnl
  have hs0 : sent = [] := List.eq_nil_of_length_eq_zero (by rw [HLN.out]; exact hn0)
  have hact : actS ⟨bl, br, be, bn, bp, bd⟩ sent q wh now = (⟨bl, br, be, bn, bp, bd⟩, []) := by rw [hs0]; unfold actS; rw [if_neg (by omega), if_neg (by omega), if_neg (by omega)]; simp
  rw [hact]
  clear hs0
  have HML : Hid (([] : List Mes).length ≤ 1) := hid (by decide)
  have d9 : decide (0 < n) = false := decide_eq_false (by omega)
  have d8 : decide ((0 : Int) < (n : Int)) = false := decide_eq_false (by omega)
  have HMS : Hid (Msgs W0 (.slice none 0 0) []) := hid (msgs_nil W0)
  have q0 : (q == 0) = false := by simp; omega
  have q5 : (q == 5) = false := by simp; omega
  have q6 : (q == 6) = false := by simp; omega
  clear hact hq hk hn0 hkd
  go_enter Try.func27, Try.ntmps27
  go_upto_region 1 with fail
  rw [HWW.out, HG.out]
  clear HWW
  go_upto_region 16 with fail
  go_upto_region 16 with fail
  obtain ⟨X0, hX0⟩ : ∃ X, W0.drew = X := ⟨_, rfl⟩
  have j1 : X0.heap[g]? = some (.cells (cT ⟨al, ar, ae, an, ap, ad⟩ ⟨bl, br, be, bn, bp, bd⟩) 54) := by rw [← hX0]; exact HKt.out
  have j2 : X0.heap[g + 2]? = some (.cells (cT z6 z6) 54) := by rw [← hX0]; exact HKr.out
  have HB0 : Hid (Below g w X0) := hid (by rw [← hX0]; exact below_drew HB.out)
  have HMM : Hid (Msgs X0 (.slice none 0 0) []) := hid (by rw [← hX0]; exact HMS.out)
  have J1 := hid j1
  have J2 := hid j2
  have hHeld : X0.cell? ⟨g, 0, none⟩ = some (.int .i64 al) ∧ X0.cell? ⟨g, 1, none⟩ = some (.int .i64 ar) ∧ X0.cell? ⟨g, 2, none⟩ = some (.int .i64 ae) ∧ X0.cell? ⟨g, 3, none⟩ = some (.int .i64 an) ∧ X0.cell? ⟨g, 4, none⟩ = some (.int .i64 ap) ∧ X0.cell? ⟨g, 5, none⟩ = some (.int .i64 ad) ∧ X0.cell? ⟨g, 6, none⟩ = some (.int .i64 bl) ∧ X0.cell? ⟨g, 7, none⟩ = some (.int .i64 br) ∧ X0.cell? ⟨g, 8, none⟩ = some (.int .i64 be) ∧ X0.cell? ⟨g, 9, none⟩ = some (.int .i64 bn) ∧ X0.cell? ⟨g, 10, none⟩ = some (.int .i64 bp) ∧ X0.cell? ⟨g, 11, none⟩ = some (.int .i64 bd) := by
    obtain ⟨⟨b0, b1, b2, b3, b4, b5⟩, r⟩ := load12 j1
    exact ⟨b0, b1, b2, b3, b4, b5, r⟩
  have HX0 := hid hX0
  clear hX0 j1 j2 
  refine region_tail 4 (fun X => X.cell? ⟨g, 0, none⟩ = some (.int .i64 al) ∧ X.cell? ⟨g, 1, none⟩ = some (.int .i64 ar) ∧ X.cell? ⟨g, 2, none⟩ = some (.int .i64 ae) ∧ X.cell? ⟨g, 3, none⟩ = some (.int .i64 an) ∧ X.cell? ⟨g, 4, none⟩ = some (.int .i64 ap) ∧ X.cell? ⟨g, 5, none⟩ = some (.int .i64 ad) ∧ X.cell? ⟨g, 6, none⟩ = some (.int .i64 bl) ∧ X.cell? ⟨g, 7, none⟩ = some (.int .i64 br) ∧ X.cell? ⟨g, 8, none⟩ = some (.int .i64 be) ∧ X.cell? ⟨g, 9, none⟩ = some (.int .i64 bn) ∧ X.cell? ⟨g, 10, none⟩ = some (.int .i64 bp) ∧ X.cell? ⟨g, 11, none⟩ = some (.int .i64 bd)) (by kernel_rfl) ?_
  rw [HX0.out]
  refine' wpAnyT_take (i := 0) (oi := ?oigt0) (v := ?vgt0) ?higt0 (by kernel_rfl) (by kernel_rfl) ?hqgt0 ?hygt0 hHeld ?restgt0
  case higt0 => (simp only [List.getElem?_toArray, List.getElem?_cons_zero]; rfl)
  case hqgt0 => exact fun _ _ _ h => h
  case hygt0 => (refine Or.inl ⟨by rfl, ?_⟩; intro w' hSw; (try dsimp only at hSw); go_simp; try with_reducible rfl)
  (try simp only [Act.put, List.setIfInBounds_toArray, List.set_cons_zero, List.set_cons_succ])
  refine' wpAnyT_take (i := 1) (oi := ?oigt1) (v := ?vgt1) ?higt1 (by kernel_rfl) (by kernel_rfl) ?hqgt1 ?hygt1 hHeld ?restgt1
  case higt1 => (simp only [List.getElem?_toArray, List.getElem?_cons_zero, List.getElem?_cons_succ]; rfl)
  case hqgt1 => exact fun _ _ _ h => h
  case hygt1 => (refine Or.inl ⟨by rfl, ?_⟩; intro w' hSw; (try dsimp only at hSw); go_simp; try with_reducible rfl)
  (try simp only [Act.put, List.setIfInBounds_toArray, List.set_cons_zero, List.set_cons_succ])
  refine' wpAnyT_take (i := 2) (oi := ?oigt2) (v := ?vgt2) ?higt2 (by kernel_rfl) (by kernel_rfl) ?hqgt2 ?hygt2 hHeld ?restgt2
  case higt2 => (simp only [List.getElem?_toArray, List.getElem?_cons_zero, List.getElem?_cons_succ]; rfl)
  case hqgt2 => exact fun _ _ _ h => h
  case hygt2 => (refine Or.inl ⟨by rfl, ?_⟩; intro w' hSw; (try dsimp only at hSw); go_simp; try with_reducible rfl)
  (try simp only [Act.put, List.setIfInBounds_toArray, List.set_cons_zero, List.set_cons_succ])
  refine' wpAnyT_one (i := 3) (o := ?oigt3) (by kernel_rfl) ?higt3 (fun K hK => ?stgt3)
  case higt3 => (simp only [List.getElem?_toArray, List.getElem?_cons_zero, List.getElem?_cons_succ]; rfl)
  refine step_append_mes rfl (.tmp 83) (.tmp 84) rfl base _ n _ rfl (own_keep HOW.out (keep_below (HB0.out.mono (by rw [HG.out]; exact Nat.le_refl _)))) [] (.slice none 0 0) rfl HMM.out (by have := HNL.out; have := HML.out; omega) (by have := HBS.out; have := HB0.out.size; omega) ?_
  intro v8 X2 hown hgr
  have HK2 : Hid (∀ T, T ≠ 47 → Keep T X0 X2) := hid (fun T hT => keep_grown (own_keep HOW.out (keep_below (HB0.out.mono (by rw [HG.out]; exact Nat.le_refl _)))) hT hgr)
  have HP1 := hid (HK2.out 54 (by decide) _ _ J1.out)
  have HP2 := hid (HK2.out 54 (by decide) _ _ J2.out)
  have HB2 : Hid (Below base w X2) := hid (below_ownE (HB0.out.mono (by have := HBS.out; have := HG.out; omega)) (own_keep HOW.out (keep_below (HB0.out.mono (by rw [HG.out]; exact Nat.le_refl _)))) hgr (by have := HBS.out; have := HB0.out.size; omega) (Nat.le_refl _))
  have HOW2 := hid hown
  have hHeld : X2.cell? ⟨g, 0, none⟩ = some (.int .i64 al) ∧ X2.cell? ⟨g, 1, none⟩ = some (.int .i64 ar) ∧ X2.cell? ⟨g, 2, none⟩ = some (.int .i64 ae) ∧ X2.cell? ⟨g, 3, none⟩ = some (.int .i64 an) ∧ X2.cell? ⟨g, 4, none⟩ = some (.int .i64 ap) ∧ X2.cell? ⟨g, 5, none⟩ = some (.int .i64 ad) ∧ X2.cell? ⟨g, 6, none⟩ = some (.int .i64 bl) ∧ X2.cell? ⟨g, 7, none⟩ = some (.int .i64 br) ∧ X2.cell? ⟨g, 8, none⟩ = some (.int .i64 be) ∧ X2.cell? ⟨g, 9, none⟩ = some (.int .i64 bn) ∧ X2.cell? ⟨g, 10, none⟩ = some (.int .i64 bp) ∧ X2.cell? ⟨g, 11, none⟩ = some (.int .i64 bd) := by
    obtain ⟨⟨b0, b1, b2, b3, b4, b5⟩, r⟩ := load12 HP1.out
    exact ⟨b0, b1, b2, b3, b4, b5, r⟩
  clear hown hgr
  refine hK.out _ _ (fun _ => hHeld) ?_
  clear hK K
  (try simp only [Act.put, List.setIfInBounds_toArray, List.set_cons_zero, List.set_cons_succ])
  refine' wpAnyT_one (i := 4) (o := ?oigt4) (by kernel_rfl) ?higt4 (fun K hK => ?stgt4)
  case higt4 => (simp only [List.getElem?_toArray, List.getElem?_cons_zero, List.getElem?_cons_succ]; rfl)
  obtain ⟨⟨i0, i1, i2, i3, i4, i5⟩, i6, i7, i8, i9, i10, i11⟩ := load12 HP2.out
  simp only [z6] at i0 i1 i2 i3 i4 i5 i6 i7 i8 i9 i10 i11
  have ff := box_fr HP2.out
  go_simp
  obtain ⟨Y, hY⟩ : ∃ X, set12 X2 (g + 2) ⟨al, ar, ae, an, ap, ad⟩ ⟨bl, br, be, bn, bp, bd⟩ = X := ⟨_, rfl⟩
  have HY := hid hY
  simp only [set12, set6] at hY
  rw [hY]
  clear hY i0 i1 i2 i3 i4 i5 i6 i7 i8 i9 i10 i11 ff
  refine hK.out _ _ (fun h => absurd h (by decide)) ?_
  clear hK K
  (try simp only [Act.put, List.setIfInBounds_toArray, List.set_cons_zero, List.set_cons_succ])
  refine' wpAnyT_one (i := 5) (o := ?oigt5) (by kernel_rfl) ?higt5 (fun K hK => ?stgt5)
  case higt5 => (simp only [List.getElem?_toArray, List.getElem?_cons_zero, List.getElem?_cons_succ]; rfl)
  go_simp
  refine hK.out _ _ (fun h => absurd h (by decide)) ?_
  clear hK K
  (try simp only [Act.put, List.setIfInBounds_toArray, List.set_cons_zero, List.set_cons_succ])
  refine wpAnyT_done (by kernel_rfl) ?_ _
  go_wp2_with fail
  refine bodyPost_ret (results_t1 rfl _ _ (g + 2) 54 ⟨al, ar, ae, an, ap, ad⟩ ⟨bl, br, be, bn, bp, bd⟩ rfl (by rw [← HY.out]; exact set12h ⟨al, ar, ae, an, ap, ad⟩ ⟨bl, br, be, bn, bp, bd⟩ HP2.out) _ rfl) rfl ?_
  refine ⟨v8, rfl, ?_, ?_, fun T hT => ?_⟩
  · have e : ((sent ++ []).map cM).flatten = (sent.map cM).flatten ++ (([]).map cM).flatten := by rw [List.map_append, List.flatten_append]
    rw [e, List.length_append, HLN.out]
    exact own_keep HOW2.out (by rw [← HY.out]; exact keepT_set12 _ _ HP2.out (by decide))
  · rw [← HY.out]
    exact set12b _ _ HB2.out (by have := HBS.out; have := HG.out; omega)
  · rw [← HY.out]
    exact keepO_set12 _ _ (Keep.trans (keep_below (HB0.out.mono (by rw [HG.out]; exact Nat.le_refl _))) (HK2.out T hT)) (by have := HG.out; omega)
set_option maxHeartbeats 16000000 in
set_option maxRecDepth 100000 in
theorem step_t (a b : Ses) (sent : List Mes) (u : Value) (kd wh : Int) (now : Int) (base n : Nat) (w : World) (hbs : base ≤ w.heap.size) (hn : sent.length = n) (hnl : n ≤ 1000) (how : w.ownsRow base 47 8 u n (sent.map cM).flatten) (hkd : 0 ≤ kd ∧ kd ≤ 255) (hwh : 0 ≤ wh ∧ wh ≤ 255) (hnow : 0 ≤ now ∧ now ≤ 1000) :
    Calls Try.prog 27 #[tv a b, u, .agg #[.int .u8 kd, .bool true, .int .u8 wh], .int .i64 now] w (StepQ base a (actS b sent (kd % 7) wh now).1 (sent ++ (actS b sent (kd % 7) wh now).2) w) := by
  by_cases h0 : kd % 7 = 0
  · by_cases he : (dialR b now 3).2.2 = 0
    · exact step_dial_t a b sent u kd wh now base n w hbs hn hnl how hkd hwh hnow h0 he
    · exact step_dialn_t a b sent u kd wh now base n w hbs hn hnl how hkd hwh hnow h0 he
  by_cases h5 : kd % 7 = 5
  · exact step_exp_t a b sent u kd wh now base n w hbs hn hnl how hkd hwh hnow h5
  by_cases h6 : kd % 7 = 6
  · exact step_close_t a b sent u kd wh now base n w hbs hn hnl how hkd hwh hnow h6
  rcases Nat.eq_zero_or_pos n with hz | hz
  · exact step_rec0_t a b sent u kd wh now base n w hbs hn hnl how hkd hwh hnow ⟨h0, h5, h6⟩ hz
  · exact step_rec1_t a b sent u kd wh now base n w hbs hn hnl how hkd hwh hnow ⟨h0, h5, h6⟩ hz
/-- What two ends and the messages are behind a step. -/
def stpR (a b : Ses) (sent : List Mes) (q : Int) (ot : Bool) (wh now : Int) : Ses × Ses × List Mes :=
  if ot then (a, (actS b sent q wh now).1, sent ++ (actS b sent q wh now).2) else ((actS a sent q wh now).1, b, sent ++ (actS a sent q wh now).2)
theorem step_any (a b : Ses) (sent : List Mes) (u : Value) (kd wh : Int) (ot : Bool) (now : Int) (base n : Nat) (w : World) (hbs : base ≤ w.heap.size) (hn : sent.length = n) (hnl : n ≤ 1000) (how : w.ownsRow base 47 8 u n (sent.map cM).flatten) (hkd : 0 ≤ kd ∧ kd ≤ 255) (hwh : 0 ≤ wh ∧ wh ≤ 255) (hnow : 0 ≤ now ∧ now ≤ 1000) :
    Calls Try.prog 27 #[tv a b, u, .agg #[.int .u8 kd, .bool ot, .int .u8 wh], .int .i64 now] w (StepQ base (stpR a b sent (kd % 7) ot wh now).1 (stpR a b sent (kd % 7) ot wh now).2.1 (stpR a b sent (kd % 7) ot wh now).2.2 w) := by
  cases ot
  · exact step_f a b sent u kd wh now base n w hbs hn hnl how hkd hwh hnow
  · exact step_t a b sent u kd wh now base n w hbs hn hnl how hkd hwh hnow
end Go.Proofs.Ytkdladacmjkdoaa
