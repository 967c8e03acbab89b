/- Takes. -/
import Derived.Test.YtjpfogdfgcfkcaaYf
namespace Go.Proofs.Ytjpfogdfgcfkcaa
open Go.RowKit Go.Lib

set_option maxHeartbeats 8000000 in
set_option maxRecDepth 100000 in
theorem takes_walk (u : Value) (next : Int) (l : List Ev) (num now : Int) (w : World) (hv : EL w u l) (hr : ∀ x ∈ l, R64 x.n) :
    Calls Try.prog 5 #[.agg #[u, .int .i64 next], .int .i64 num, .int .i64 now] w fun e w' => e = .returned (.bool true) ∧ Below w.heap.size w w' := by
  obtain ⟨A, c, rfl⟩ := el_form hv
  obtain ⟨N, hN⟩ : ∃ N, l.length = N := ⟨_, rfl⟩
  rw [hN] at hv ⊢
  obtain ⟨W1, hW1⟩ : ∃ W1, w.alloc (.cells #[.slice A N c, .int .i64 next] 24) = W1 := ⟨_, rfl⟩
  obtain ⟨g, hg⟩ : ∃ g, w.heap.size = g := ⟨_, rfl⟩
  have hb1 : Below w.heap.size w W1 := by rw [← hW1]; exact al1 _ _
  have hx1 : W1.heap[g]? = some (.cells #[.slice A N c, .int .i64 next] 24) := by rw [← hW1, ← hg]; exact heap_alloc_new w _
  have hv1 := hv.below hb1
  have HFW := hid (fun (X : World) (hX : Below W1.heap.size W1 X) => few_dec l _ next X (hv1.below hX))
  have HAW := hid (fun (X : World) => awake_any X)
  have HK := hid (fun (X : World) (hX : Below W1.heap.size W1 X) => And.intro (cell_of_row _ _ 0 _ _ _ ((hX.block _ (box_lt hx1)).trans hx1)) (cell_of_row _ _ 1 _ _ _ ((hX.block _ (box_lt hx1)).trans hx1)))
  have HV1 := hid hv1
  have HB1 := hid hb1
  have HW1 := hid hW1
  have HG := hid hg
  have HN := hid hN
  have HX1 := hid hx1
  have h1 : Below W1.heap.size W1 W1 := Below.refl _ _
  obtain ⟨x0, x1⟩ := HK.out W1 h1
  have HRR := hid hr
  clear hv hN hb1 hx1 hW1 hg hr hv1
  go_enter Try.func5, Try.ntmps5
  go_wp2_with fail
  rw [HW1.out, HG.out]
  refine (HFW.out W1 h1).mono ?_
  rintro e w2 ⟨hc, hb2⟩
  have HB2 := hid hb2
  obtain ⟨x0, x1⟩ := HK.out w2 hb2
  clear h1 hb2
  rcases hc with ⟨rfl, hf⟩ | ⟨rfl, hf⟩
  · have hN60 : N ≤ 60 := by have := hf.2; rw [HN.out] at this; exact this
    have hpb : ∀ x ∈ l, x.p.length ≤ 100000 := fun x hx => by
      obtain ⟨i, hi, he⟩ := List.getElem_of_mem hx
      exact Nat.le_trans (hf.1 i x (by have := HN.out; omega) (by rw [← he]; exact List.getElem?_eq_getElem _)) (by decide)
    have hNl : l.length ≤ 100000 := by rw [HN.out]; omega
    have hHV := HV1.out
    have HF1 := hid (fun (X : World) (hX : Below W1.heap.size W1 X) => firstP_any l _ next X (hHV.below hX) HRR.out hpb)
    have HF2 := hid (fun (X : World) (hX : Below W1.heap.size W1 X) => refFirst_any l _ next X (hHV.below hX) hpb)
    have HP1 := hid (fun (X : World) (hX : Below W1.heap.size W1 X) => popP_any l _ next X (hHV.below hX) HRR.out hNl hpb)
    have HP2 := hid (fun (X : World) (hX : Below W1.heap.size W1 X) => refPop_any l _ next X (hHV.below hX) hNl hpb)
    have HC1 := hid (fun (X : World) (hX : Below W1.heap.size W1 X) => cancelP_any l _ next num X (hHV.below hX) HRR.out hNl hpb)
    have HC2 := hid (fun (X : World) (hX : Below W1.heap.size W1 X) => refCancel_any l _ next num X (hHV.below hX) hNl hpb)
    have HD1 := hid (fun (X : World) (hX : Below W1.heap.size W1 X) => dueP_any l _ next now X (hHV.below hX) HRR.out hNl hpb)
    have HD2 := hid (fun (X : World) (hX : Below W1.heap.size W1 X) => refDue_any l _ next now X (hHV.below hX) hNl hpb)
    obtain ⟨⟨fb, ft, fn, fk, fo, fp⟩, hfr⟩ : ∃ r, fstE (l.map core) next = r := ⟨_, rfl⟩
    obtain ⟨⟨pL, pm, ⟨pt, pn, pk, po, pp⟩, per⟩, hpr⟩ : ∃ r, popE (l.map core) next = r := ⟨_, rfl⟩
    obtain ⟨⟨cL, cb⟩, hcr⟩ : ∃ r, cancelS (l.map core) next num = r := ⟨_, rfl⟩
    obtain ⟨dL, hdL⟩ : ∃ r, (l.map core).drop (dueN (l.map core) next now) = r := ⟨_, rfl⟩
    obtain ⟨dD, hdD⟩ : ∃ r, (l.map core).take (dueN (l.map core) next now) = r := ⟨_, rfl⟩
    have hml : (l.map core).length ≤ 100000 := by rw [List.length_map]; exact hNl
    have hpLl : pL.length ≤ 100000 := by
      have h : (popE (l.map core) next).1.length ≤ (l.map core).length := by
        unfold popE
        split
        · exact Nat.zero_le _
        · split
          · exact Nat.zero_le _
          · rename_i h; rw [h]; simp
      rw [hpr] at h; exact Nat.le_trans h hml
    have hcLl : cL.length ≤ 100000 := by
      have h : (cancelS (l.map core) next num).1.length ≤ (l.map core).length := by
        unfold cancelS
        split
        · exact Nat.le_refl _
        · split
          · exact (cnl_sub _).length_le
          · exact Nat.le_refl _
      rw [hcr] at h; exact Nat.le_trans h hml
    have hdLl : dL.length ≤ 100000 := by rw [← hdL, List.length_drop]; omega
    have hdDl : dD.length ≤ 100000 := by rw [← hdD, List.length_take]; omega
    rw [hfr] at HF1 HF2
    rw [hpr] at HP1 HP2
    rw [hcr] at HC1 HC2
    rw [hdL, hdD] at HD1 HD2
    have n1 : (fb != fb) = false := by simp
    have n2 : (per != per) = false := by simp
    have n3 : (cb != cb) = false := by simp
    clear hfr hpr hcr hdL hdD hml hpb hNl hHV hf
    go_wp2_with fail
    refine (HF1.out w2 HB2.out).mono ?_
    rintro e w3 ⟨d1, rfl, hd1, hb3⟩
    obtain ⟨d1A, d1c, rfl⟩ := byt_form hd1
    obtain ⟨fm, hfm⟩ : ∃ fm, fp.length = fm := ⟨_, rfl⟩
    rw [hfm] at hd1 ⊢
    dsimp only at hd1 ⊢
    have h3 := HB2.out.trans (hb3.mono HB2.out.size)
    obtain ⟨W4, hW4⟩ : ∃ W4, w3.alloc (.cells #[.int .i64 ft, .int .i64 fn, .int .i64 fk, .int .i64 fo, .slice d1A fm d1c] 32) = W4 := ⟨_, rfl⟩
    obtain ⟨a, ha⟩ : ∃ a, w3.heap.size = a := ⟨_, rfl⟩
    have hb4 : Below w3.heap.size w3 W4 := by rw [← hW4]; exact al1 _ _
    have h4 := h3.trans (hb4.mono h3.size)
    have HY4 : Hid (W4.heap[a]? = some (.cells #[.int .i64 ft, .int .i64 fn, .int .i64 fk, .int .i64 fo, .slice d1A fm d1c] 32)) := hid (by rw [← hW4, ← ha]; exact heap_alloc_new _ _)
    have HD4 := hid (hd1.below hb4)
    have HB4 := hid h4
    have HW4 := hid hW4
    have HA := hid ha
    have hk4 := HK.out W4 h4
    rw [← hW4] at hk4
    obtain ⟨x0', x1'⟩ := hk4
    clear h3 h4 hb3 hb4 hW4 ha hd1 x0 x1
    go_wp2_with fail
    rw [HW4.out, HA.out]
    clear x0' x1'
    refine (HF2.out W4 HB4.out).mono ?_
    rintro e w5 ⟨d2, rfl, hd2, hb5⟩
    obtain ⟨d2A, d2c, rfl⟩ := byt_form hd2
    rw [hfm] at hd2 ⊢
    dsimp only at hd2 ⊢
    obtain ⟨W6, hW6⟩ : ∃ W6, w5.alloc (.cells #[.int .i64 ft, .int .i64 fn, .int .i64 fk, .int .i64 fo, .slice d2A fm d2c] 32) = W6 := ⟨_, rfl⟩
    obtain ⟨b, hb⟩ : ∃ b, w5.heap.size = b := ⟨_, rfl⟩
    have hb6 : Below w5.heap.size w5 W6 := by rw [← hW6]; exact al1 _ _
    have hb56 := hb5.trans (hb6.mono hb5.size)
    have h6 := HB4.out.trans (hb56.mono HB4.out.size)
    have hy6 := (hb56.block _ (box_lt HY4.out)).trans HY4.out
    have hz6 : W6.heap[b]? = some (.cells #[.int .i64 ft, .int .i64 fn, .int .i64 fk, .int .i64 fo, .slice d2A fm d2c] 32) := by rw [← hW6, ← hb]; exact heap_alloc_new _ _
    have HSE := hid (sameEv_any ft fn fk fo fp (.slice d1A fm d1c) (.slice d2A fm d2c) W6 (HD4.out.below hb56) (hd2.below hb6))
    have HB6 := hid h6
    have HW6 := hid hW6
    have HBB := hid hb
    have y0 := cell_of_row _ _ 0 _ _ _ hy6
    have z0 := cell_of_row _ _ 0 _ _ _ hz6
    have y1 := cell_of_row _ _ 1 _ _ _ hy6
    have z1 := cell_of_row _ _ 1 _ _ _ hz6
    have y2 := cell_of_row _ _ 2 _ _ _ hy6
    have z2 := cell_of_row _ _ 2 _ _ _ hz6
    have y3 := cell_of_row _ _ 3 _ _ _ hy6
    have z3 := cell_of_row _ _ 3 _ _ _ hz6
    have y4 := cell_of_row _ _ 4 _ _ _ hy6
    have z4 := cell_of_row _ _ 4 _ _ _ hz6
    rw [← hW6] at y0 y1 y2 y3 y4 z0 z1 z2 z3 z4
    rw [← hb] at z0 z1 z2 z3 z4
    clear hb5 hb6 hb56 h6 hW6 hb hd2 hy6 hz6 HY4 HD4 hfm
    go_wp2_with fail
    rw [HW6.out, HBB.out]
    refine HSE.out.mono ?_
    rintro e w7 ⟨rfl, hb7⟩
    have HB7 := hid (HB6.out.trans (hb7.mono HB6.out.size))
    obtain ⟨x0, x1⟩ := HK.out w7 HB7.out
    clear hb7 y0 y1 y2 y3 y4 z0 z1 z2 z3 z4
    go_wp2_with fail
    refine (HP1.out w7 HB7.out).mono ?_
    rintro e w8 ⟨u1, vs1, e1, rfl, hel1, hc1, he1, hb8⟩
    obtain ⟨u1A, u1c, rfl⟩ := el_form hel1
    obtain ⟨e1A, e1c, rfl⟩ := byt_form he1
    obtain ⟨m1, hm1⟩ : ∃ m1, vs1.length = m1 := ⟨_, rfl⟩
    obtain ⟨pm2, hpm⟩ : ∃ m, pp.length = m := ⟨_, rfl⟩
    rw [hm1] at hel1 ⊢
    rw [hpm] at he1 ⊢
    dsimp only at hel1 hc1 he1 ⊢
    have h8 := HB7.out.trans (hb8.mono HB7.out.size)
    obtain ⟨W9, hW9⟩ : ∃ W9, (w8.alloc (.cells #[.slice u1A m1 u1c, .int .i64 pm] 24)).alloc (.cells #[.int .i64 pt, .int .i64 pn, .int .i64 pk, .int .i64 po, .slice e1A pm2 e1c] 32) = W9 := ⟨_, rfl⟩
    obtain ⟨p, hp⟩ : ∃ p, w8.heap.size = p := ⟨_, rfl⟩
    have hb9 : Below w8.heap.size w8 W9 := by rw [← hW9]; exact ((Below.refl _ _).alloc (Nat.le_refl _) _).alloc (by simp) _
    have h9 := h8.trans (hb9.mono h8.size)
    have HP9 : Hid (W9.heap[p]? = some (.cells #[.slice u1A m1 u1c, .int .i64 pm] 24)) := hid (by rw [← hW9, ← hp]; exact (Below.heap_alloc _ _ _ (by simp)).trans (heap_alloc_new w8 _))
    have HE9 : Hid (W9.heap[p + 1]? = some (.cells #[.int .i64 pt, .int .i64 pn, .int .i64 pk, .int .i64 po, .slice e1A pm2 e1c] 32)) := hid (by rw [← hW9, ← hp]; simpa using heap_alloc_new (w8.alloc (.cells #[.slice u1A m1 u1c, .int .i64 pm] 24)) (.cells #[.int .i64 pt, .int .i64 pn, .int .i64 pk, .int .i64 po, .slice e1A pm2 e1c] 32))
    have HL1 := hid (hel1.below hb9)
    have HY1 := hid (he1.below hb9)
    have hk9 := HK.out W9 h9
    rw [← hW9] at hk9
    obtain ⟨x0', x1'⟩ := hk9
    have hWp : W1.heap.size ≤ p := by rw [← hp]; exact h8.size
    have HB9 := hid h9
    have HW9 := hid hW9
    have HPP := hid hp
    clear x0 x1 hb8 hb9 h8 h9 hW9 hp hel1 he1
    go_wp2_with fail
    rw [HW9.out, HPP.out]
    clear x0' x1'
    refine (HP2.out W9 HB9.out).mono ?_
    rintro e w10 ⟨u2, vs2, e2, rfl, hel2, hc2, he2, hb10⟩
    obtain ⟨u2A, u2c, rfl⟩ := el_form hel2
    obtain ⟨e2A, e2c, rfl⟩ := byt_form he2
    dsimp only at hel2 hc2 he2 ⊢
    have hm2 : vs2.length = m1 := by have h := congrArg List.length (hc2.trans hc1.symm); rw [List.length_map, List.length_map, hm1] at h; exact h
    rw [hm2] at hel2 ⊢
    rw [hpm] at he2 ⊢
    obtain ⟨W11, hW11⟩ : ∃ W11, (w10.alloc (.cells #[.slice u2A m1 u2c, .int .i64 pm] 24)).alloc (.cells #[.int .i64 pt, .int .i64 pn, .int .i64 pk, .int .i64 po, .slice e2A pm2 e2c] 32) = W11 := ⟨_, rfl⟩
    obtain ⟨q, hq⟩ : ∃ q, w10.heap.size = q := ⟨_, rfl⟩
    have hb11 : Below w10.heap.size w10 W11 := by rw [← hW11]; exact ((Below.refl _ _).alloc (Nat.le_refl _) _).alloc (by simp) _
    have hbb := hb10.trans (hb11.mono hb10.size)
    have h11 := HB9.out.trans (hbb.mono HB9.out.size)
    have hp11 := (hbb.block _ (box_lt HP9.out)).trans HP9.out
    have he11 := (hbb.block _ (box_lt HE9.out)).trans HE9.out
    have hq11 : W11.heap[q]? = some (.cells #[.slice u2A m1 u2c, .int .i64 pm] 24) := by rw [← hW11, ← hq]; exact (Below.heap_alloc _ _ _ (by simp)).trans (heap_alloc_new w10 _)
    have hr11 : W11.heap[q + 1]? = some (.cells #[.int .i64 pt, .int .i64 pn, .int .i64 pk, .int .i64 po, .slice e2A pm2 e2c] 32) := by rw [← hW11, ← hq]; simpa using heap_alloc_new (w10.alloc (.cells #[.slice u2A m1 u2c, .int .i64 pm] 24)) (.cells #[.int .i64 pt, .int .i64 pn, .int .i64 pk, .int .i64 po, .slice e2A pm2 e2c] 32)
    have HSQ := hid (sameQ_any vs1 vs2 _ _ pm W11 (HL1.out.below hbb) (hel2.below hb11) (by have h := congrArg List.length hc1; rw [List.length_map] at h; rw [h]; exact hpLl) (hc1.trans hc2.symm))
    have HSE2 := hid (fun (X : World) (hX : Below W11.heap.size W11 X) => sameEv_any pt pn pk po pp (.slice e1A pm2 e1c) (.slice e2A pm2 e2c) X ((HY1.out.below hbb).below hX) ((he2.below hb11).below hX))
    have HK11 := hid (fun (X : World) (hX : Below W11.heap.size W11 X) => And.intro ((hX.block _ (box_lt hp11)).trans hp11) (And.intro ((hX.block _ (box_lt he11)).trans he11) (And.intro ((hX.block _ (box_lt hq11)).trans hq11) ((hX.block _ (box_lt hr11)).trans hr11))))
    have hWq : W1.heap.size ≤ q := by rw [← hq]; exact Nat.le_trans HB9.out.size hb10.size
    have hpq : p ≠ q := by have h1 := box_lt HE9.out; have h2 := hb10.size; omega
    have HB11 := hid h11
    have HW11 := hid hW11
    have HQQ := hid hq
    have y0 := cell_of_row _ _ 0 _ _ _ hp11
    have y1 := cell_of_row _ _ 1 _ _ _ hp11
    have z0 := cell_of_row _ _ 0 _ _ _ hq11
    have z1 := cell_of_row _ _ 1 _ _ _ hq11
    rw [← hW11] at y0 y1 z0 z1
    rw [← hq] at z0 z1
    clear hb10 hb11 hbb h11 hp11 he11 hq11 hr11 hW11 hq hel2 he2 hc1 hc2 HP9 HE9 HL1 HY1 hm1 hm2
    go_wp2_with fail
    rw [HW11.out, HQQ.out]
    refine HSQ.out.mono ?_
    rintro e w12 ⟨rfl, hb12⟩
    obtain ⟨hp12, he12, hq12, hr12⟩ := HK11.out w12 hb12
    have HSE3 := hid (HSE2.out w12 hb12)
    have HB12 := hid hb12
    clear y0 y1 z0 z1 HSQ
    have y0 := cell_of_row _ _ 0 _ _ _ he12
    have y1 := cell_of_row _ _ 1 _ _ _ he12
    have y2 := cell_of_row _ _ 2 _ _ _ he12
    have y3 := cell_of_row _ _ 3 _ _ _ he12
    have y4 := cell_of_row _ _ 4 _ _ _ he12
    have z0 := cell_of_row _ _ 0 _ _ _ hr12
    have z1 := cell_of_row _ _ 1 _ _ _ hr12
    have z2 := cell_of_row _ _ 2 _ _ _ hr12
    have z3 := cell_of_row _ _ 3 _ _ _ hr12
    have z4 := cell_of_row _ _ 4 _ _ _ hr12
    clear hp12 he12 hq12 hr12 hb12
    go_wp2_with fail
    refine HSE3.out.mono ?_
    rintro e w13 ⟨rfl, hb13⟩
    have hbw13 := HB12.out.trans (hb13.mono HB12.out.size)
    obtain ⟨hp13, _, hq13, _⟩ := HK11.out w13 hbw13
    have HP13 := hid hp13
    have HQ13 := hid hq13
    have HB13 := hid (HB11.out.trans (hbw13.mono HB11.out.size))
    obtain ⟨x0, x1⟩ := HK.out w13 HB13.out
    clear y0 y1 y2 y3 y4 z0 z1 z2 z3 z4 hp13 hq13 hb13 hbw13 HK11 HSE2 HSE3
    go_wp2_with fail
    refine (HC1.out w13 HB13.out).mono ?_
    rintro e w14 ⟨u3, vs3, rfl, hg3, hc3, hb14⟩
    have hv14 := HV1.out.below (HB13.out.trans (hb14.mono HB13.out.size))
    obtain ⟨u3A, u3c, rfl⟩ := el_form (hg3.el hv14)
    obtain ⟨m3, hm3⟩ : ∃ m3, vs3.length = m3 := ⟨_, rfl⟩
    rw [hm3] at hg3 ⊢
    dsimp only at hg3 hc3 ⊢
    have hp14 := (hb14.block _ (box_lt HP13.out)).trans HP13.out
    have hq14 := (hb14.block _ (box_lt HQ13.out)).trans HQ13.out
    have HB14 := hid (HB13.out.trans (hb14.mono HB13.out.size))
    have HP14 := hid hp14
    have HQ14 := hid hq14
    have HG3 := hid hg3
    have y0 := cell_of_row _ _ 0 _ _ _ hp14
    have fy0 := box_fr (hp14) 0
    have y1 := cell_of_row _ _ 1 _ _ _ hp14
    have fy1 := box_fr (hp14) 1
    clear x0 x1 hb14 hp14 hq14 hg3 hv14
    obtain ⟨x0, x1⟩ := HK.out w14 HB14.out
    have hgp : g ≠ p := by have := box_lt HX1.out; omega
    have hgq : g ≠ q := by have := box_lt HX1.out; omega
    have hB15 := set2b (.slice u3A m3 u3c) (.int .i64 next) HB14.out hWp
    have hg15 := HG3.out.set2 HP14.out (.slice u3A m3 u3c) (.int .i64 next)
    have hp15 := set2h (.slice u3A m3 u3c) (.int .i64 next) HP14.out
    have hq15 := (set2o (w := w14) (g := p) (k := q) (.slice u3A m3 u3c) (.int .i64 next) (Ne.symm hpq)).trans HQ14.out
    have hk15 := HK.out _ hB15
    obtain ⟨W15, hW15⟩ : ∃ X, set2 w14 p (.slice u3A m3 u3c) (.int .i64 next) = X := ⟨_, rfl⟩
    rw [hW15] at hB15 hg15 hp15 hq15
    have HW15 := hid hW15
    have HB15 := hid hB15
    have HG15 := hid hg15
    have HP15 := hid hp15
    have HQ15 := hid hq15
    clear x0 x1 hB15 hg15 hp15 hq15 hW15
    obtain ⟨x0, x1⟩ := hk15
    go_wp2_with fail
    rw [show ((w14.setCell ⟨p, 0, none⟩ (.slice u3A m3 u3c)).setCell ⟨p, 1, none⟩ (.int .i64 next)) = W15 from HW15.out]
    refine (HC2.out W15 HB15.out).mono ?_
    rintro e w16 ⟨u4, vs4, rfl, hg4, hc4, hb16⟩
    have HB16 := hid (HB15.out.trans (hb16.mono HB15.out.size))
    obtain ⟨u4A, u4c, rfl⟩ := el_form (hg4.el (HV1.out.below HB16.out))
    dsimp only at hg4 hc4 ⊢
    have hm4 : vs4.length = m3 := by have h := congrArg List.length (hc4.trans hc3.symm); rw [List.length_map, List.length_map, hm3] at h; exact h
    rw [hm4] at hg4 ⊢
    have HP16 := hid ((hb16.block _ (box_lt HP15.out)).trans HP15.out)
    have HQ16 := hid ((hb16.block _ (box_lt HQ15.out)).trans HQ15.out)
    have HG16 := hid (HG15.out.below hb16)
    have HG4 := hid hg4
    clear x0 x1 y0 y1 fy0 fy1 hb16 hg4
    have z0 := cell_of_row _ _ 0 _ _ _ HQ16.out
    have fz0 := box_fr (HQ16.out) 0
    have z1 := cell_of_row _ _ 1 _ _ _ HQ16.out
    have fz1 := box_fr (HQ16.out) 1
    have hB17 := set2b (.slice u4A m3 u4c) (.int .i64 next) HB16.out hWq
    have hg17 := HG16.out.set2 HQ16.out (.slice u4A m3 u4c) (.int .i64 next)
    have hh17 := HG4.out.set2 HQ16.out (.slice u4A m3 u4c) (.int .i64 next)
    have hq17 := set2h (.slice u4A m3 u4c) (.int .i64 next) HQ16.out
    have hp17 := (set2o (w := w16) (g := q) (k := p) (.slice u4A m3 u4c) (.int .i64 next) hpq).trans HP16.out
    have HSQ := hid (sameQ_any vs3 vs4 _ _ next _ (hg17.el (HV1.out.below hB17)) (hh17.el (HV1.out.below hB17)) (by have h := congrArg List.length hc3; rw [List.length_map] at h; rw [h]; exact hcLl) (hc3.trans hc4.symm))
    have p0 := cell_of_row _ _ 0 _ _ _ hp17
    have p1 := cell_of_row _ _ 1 _ _ _ hp17
    have q0 := cell_of_row _ _ 0 _ _ _ hq17
    have q1 := cell_of_row _ _ 1 _ _ _ hq17
    have hB17' := hB17
    obtain ⟨W17, hW17⟩ : ∃ X, set2 w16 q (.slice u4A m3 u4c) (.int .i64 next) = X := ⟨_, rfl⟩
    rw [hW17] at hB17' HSQ hp17 hq17
    have HW17 := hid hW17
    have HB17 := hid hB17'
    have HP17 := hid hp17
    have HQ17 := hid hq17
    clear hB17 hg17 hh17 hq17 hp17 hB17' hW17 hc3 hc4 hm3 hm4
    go_wp2_with fail
    rw [show ((w16.setCell ⟨q, 0, none⟩ (.slice u4A m3 u4c)).setCell ⟨q, 1, none⟩ (.int .i64 next)) = W17 from HW17.out]
    refine HSQ.out.mono ?_
    rintro e w18 ⟨rfl, hb18⟩
    have HP18 := hid ((hb18.block _ (box_lt HP17.out)).trans HP17.out)
    have HQ18 := hid ((hb18.block _ (box_lt HQ17.out)).trans HQ17.out)
    have HB18 := hid (HB17.out.trans (hb18.mono HB17.out.size))
    obtain ⟨x0, x1⟩ := HK.out w18 HB18.out
    clear z0 z1 fz0 fz1 p0 p1 q0 q1 hb18 HSQ HW17 HW15
    go_wp2_with fail
    refine (HD1.out w18 HB18.out).mono ?_
    rintro e w19 ⟨u5, vs5, z5, ds5, rfl, hg5, hc5, hh5, hd5, hb19⟩
    have HB19 := hid (HB18.out.trans (hb19.mono HB18.out.size))
    obtain ⟨u5A, u5c, rfl⟩ := el_form (hg5.el (HV1.out.below HB19.out))
    obtain ⟨m5, hm5⟩ : ∃ m5, vs5.length = m5 := ⟨_, rfl⟩
    rw [hm5] at hg5 ⊢
    have HP19 := hid ((hb19.block _ (box_lt HP18.out)).trans HP18.out)
    have HQ19 := hid ((hb19.block _ (box_lt HQ18.out)).trans HQ18.out)
    have HG5 := hid hg5
    have HH5 := hid hh5
    have y0 := cell_of_row _ _ 0 _ _ _ HP19.out
    have fy0 := box_fr (HP19.out) 0
    have y1 := cell_of_row _ _ 1 _ _ _ HP19.out
    have fy1 := box_fr (HP19.out) 1
    clear x0 x1 hb19 hg5 hh5
    have hB20 := set2b (.slice u5A m5 u5c) (.int .i64 next) HB19.out hWp
    have hg20 := HG5.out.set2 HP19.out (.slice u5A m5 u5c) (.int .i64 next)
    have hh20 := HH5.out.set2 HP19.out (.slice u5A m5 u5c) (.int .i64 next)
    have hp20 := set2h (.slice u5A m5 u5c) (.int .i64 next) HP19.out
    have hq20 := (set2o (w := w19) (g := p) (k := q) (.slice u5A m5 u5c) (.int .i64 next) (Ne.symm hpq)).trans HQ19.out
    have hk20 := HK.out _ hB20
    obtain ⟨W20, hW20⟩ : ∃ X, set2 w19 p (.slice u5A m5 u5c) (.int .i64 next) = X := ⟨_, rfl⟩
    rw [hW20] at hB20 hg20 hh20 hp20 hq20
    have HW20 := hid hW20
    have HB20 := hid hB20
    have HG20 := hid hg20
    have HH20 := hid hh20
    have HP20 := hid hp20
    have HQ20 := hid hq20
    clear hB20 hg20 hh20 hp20 hq20 hW20
    obtain ⟨x0, x1⟩ := hk20
    go_wp2_with fail
    rw [show ((w19.setCell ⟨p, 0, none⟩ (.slice u5A m5 u5c)).setCell ⟨p, 1, none⟩ (.int .i64 next)) = W20 from HW20.out]
    refine (HD2.out W20 HB20.out).mono ?_
    rintro e w21 ⟨u6, vs6, z6, ds6, rfl, hg6, hc6, hh6, hd6, hb21⟩
    have HB21 := hid (HB20.out.trans (hb21.mono HB20.out.size))
    obtain ⟨u6A, u6c, rfl⟩ := el_form (hg6.el (HV1.out.below HB21.out))
    have hm6 : vs6.length = m5 := by have h := congrArg List.length (hc6.trans hc5.symm); rw [List.length_map, List.length_map, hm5] at h; exact h
    rw [hm6] at hg6 ⊢
    have HP21 := hid ((hb21.block _ (box_lt HP20.out)).trans HP20.out)
    have HQ21 := hid ((hb21.block _ (box_lt HQ20.out)).trans HQ20.out)
    have HG21 := hid (HG20.out.below hb21)
    have HH21 := hid (HH20.out.below hb21)
    have HG6 := hid hg6
    have HH6 := hid hh6
    clear x0 x1 y0 y1 fy0 fy1 hb21 hg6 hh6 HW20
    have z0 := cell_of_row _ _ 0 _ _ _ HQ21.out
    have fz0 := box_fr (HQ21.out) 0
    have z1 := cell_of_row _ _ 1 _ _ _ HQ21.out
    have fz1 := box_fr (HQ21.out) 1
    have hB22 := set2b (.slice u6A m5 u6c) (.int .i64 next) HB21.out hWq
    have hga := HG21.out.set2 HQ21.out (.slice u6A m5 u6c) (.int .i64 next)
    have hgb := HG6.out.set2 HQ21.out (.slice u6A m5 u6c) (.int .i64 next)
    have hha := HH21.out.set2 HQ21.out (.slice u6A m5 u6c) (.int .i64 next)
    have hhb := HH6.out.set2 HQ21.out (.slice u6A m5 u6c) (.int .i64 next)
    have hq22 := set2h (.slice u6A m5 u6c) (.int .i64 next) HQ21.out
    have hp22 := (set2o (w := w21) (g := q) (k := p) (.slice u6A m5 u6c) (.int .i64 next) hpq).trans HP21.out
    obtain ⟨W22, hW22⟩ : ∃ X, set2 w21 q (.slice u6A m5 u6c) (.int .i64 next) = X := ⟨_, rfl⟩
    rw [hW22] at hB22 hga hgb hha hhb hq22 hp22
    have hl5 : vs5.length ≤ 100000 := by have h := congrArg List.length hc5; rw [List.length_map] at h; rw [h]; exact hdLl
    have hl5d : ds5.length ≤ 100000 := by have h := congrArg List.length hd5; rw [List.length_map] at h; rw [h]; exact hdDl
    have HSQ := hid (fun (X : World) (hX : Below W22.heap.size W22 X) => sameQ_any vs5 vs6 _ _ next X ((hga.el (HV1.out.below hB22)).below hX) ((hgb.el (HV1.out.below hB22)).below hX) hl5 (hc5.trans hc6.symm))
    have HSD := hid (fun (X : World) (hX : Below W22.heap.size W22 X) => sameEvs_any ds5 ds6 _ _ X ((hha.el (HV1.out.below hB22)).below hX) ((hhb.el (HV1.out.below hB22)).below hX) hl5d (hd5.trans hd6.symm))
    have HW22 := hid hW22
    have HB22 := hid hB22
    have HP22 := hid hp22
    have HQ22 := hid hq22
    clear hB22 hga hgb hha hhb hq22 hp22 hW22 hc5 hc6 hd5 hd6 hm5 hm6
    go_wp2_with fail
    rw [show ((w21.setCell ⟨q, 0, none⟩ (.slice u6A m5 u6c)).setCell ⟨q, 1, none⟩ (.int .i64 next)) = W22 from HW22.out]
    refine (HAW.out W22).mono ?_
    rintro e w23 ⟨rfl, hb23⟩
    have HB23 := hid hb23
    have hp23 := (hb23.block _ (box_lt HP22.out)).trans HP22.out
    have hq23 := (hb23.block _ (box_lt HQ22.out)).trans HQ22.out
    clear z0 z1 fz0 fz1 hb23
    have y0 := cell_of_row _ _ 0 _ _ _ hp23
    have y1 := cell_of_row _ _ 1 _ _ _ hp23
    have z0 := cell_of_row _ _ 0 _ _ _ hq23
    have z1 := cell_of_row _ _ 1 _ _ _ hq23
    clear hp23 hq23
    go_wp2_with fail
    refine (HSQ.out w23 HB23.out).mono ?_
    rintro e w24 ⟨rfl, hb24⟩
    have HB24 := hid (HB23.out.trans (hb24.mono HB23.out.size))
    clear hb24 y0 y1 z0 z1
    go_wp2_with fail
    refine (HSD.out w24 HB24.out).mono ?_
    rintro e w25 ⟨rfl, hb25⟩
    have HBF := hid (HB1.out.trans ((HB22.out.trans ((HB24.out.trans (hb25.mono HB24.out.size)).mono HB22.out.size)).mono HB1.out.size))
    clear hb25
    go_wp2_with fail
    go_ret
    exact ⟨rfl, HBF.out⟩

  · clear hf
    go_wp2_with fail
    refine (HAW.out w2).mono ?_
    rintro e w3 ⟨rfl, hb3⟩
    have HBF := hid (HB1.out.trans ((HB2.out.trans (hb3.mono HB2.out.size)).mono HB1.out.size))
    clear hb3
    go_wp2_with fail
    go_ret
    exact ⟨rfl, HBF.out⟩
end Go.Proofs.Ytjpfogdfgcfkcaa
