/- The law LinkChecks walked. -/
import Derived.Test.YtacpejoablcffaaEc
namespace Go.Proofs.Ytacpejoablcffaa
open Go.RowKit Go.Lib

theorem newQ_of {mn mx rt : Int} {w w' : World} {e : Ending} (h : NewQ mn mx rt w e w') : e = .returned (.tuple #[vLk (newS mn mx rt).1 (.slice none 0 0), .int .i64 (newS mn mx rt).2]) ∧ Below w.heap.size w w' := by
  obtain ⟨hb, ⟨h1, rfl⟩ | ⟨h1, rfl⟩⟩ := h
  · unfold newS
    rw [if_neg (by rw [h1]; simp)]
    exact ⟨rfl, hb⟩
  · unfold newS
    rw [if_pos h1]
    exact ⟨rfl, hb⟩
set_option maxHeartbeats 8000000 in
set_option maxRecDepth 100000 in
theorem checks_walk (s : Lk) (u : Value) (l : List Fl) (w : World) (hv : FL w u l) (hr : ∀ x ∈ l, R64 x.n) :
    Calls Try.prog 3 #[vLk s u] w (TrueQ w) := by
  obtain ⟨A, c, rfl⟩ := fl_form hv
  obtain ⟨N, hN⟩ : ∃ N, l.length = N := ⟨_, rfl⟩
  rw [hN] at hv ⊢
  obtain ⟨mn, mx, rt, dn, idle, next⟩ := s
  obtain ⟨g, hg⟩ : ∃ g, w.heap.size = g := ⟨_, rfl⟩
  obtain ⟨W1, hW1⟩ : ∃ X, w.alloc (.cells #[.int .i64 mn, .int .i64 mx, .int .i64 rt, .bool dn, .int .i64 idle, .int .i64 next, .slice A N c] 26) = X := ⟨_, rfl⟩
  have hb1 : Below w.heap.size w W1 := by rw [← hW1]; exact al1 _ _
  have hx1 : W1.heap[g]? = some (.cells #[.int .i64 mn, .int .i64 mx, .int .i64 rt, .bool dn, .int .i64 idle, .int .i64 next, .slice A N c] 26) := by rw [← hW1, ← hg]; exact heap_alloc_new w _
  have HFW := hid (few_dec ⟨mn, mx, rt, dn, idle, next⟩ l _ W1 (hv.below hb1))
  have HCK := hid (fun (X : World) (hX : Below w.heap.size w X) => check_any ⟨mn, mx, rt, dn, idle, next⟩ l _ X (hv.below hX) hr)
  have HRC := hid (fun (X : World) (hX : Below w.heap.size w X) => refCheck_any ⟨mn, mx, rt, dn, idle, next⟩ l _ X (hv.below hX))
  unfold vLk at HFW HRC
  unfold vLk
  dsimp only
  obtain ⟨ck, hck⟩ : ∃ ck, chk ⟨mn, mx, rt, dn, idle, next⟩ (l.map core) = ck := ⟨_, rfl⟩
  rw [hck] at HCK HRC
  dsimp only at HCK
  obtain ⟨⟨⟨a0, a1, a2, ad, ai, an⟩, ne⟩, hne⟩ : ∃ r, newS mn mx rt = r := ⟨_, rfl⟩
  have HNW := hid (fun (X : World) => (new_any mn mx rt X).mono fun _ _ h => newQ_of h)
  have HRN := hid (fun (X : World) => refNew_any mn mx rt X)
  rw [hne] at HNW HRN
  unfold vLk at HNW HRN
  dsimp only at HNW HRN
  have dcc : (ck == ck) = true := beq_self_eq_true ck
  have dnn : (ne == ne) = true := beq_self_eq_true ne
  have HB1 := hid hb1
  have HX1 := hid hx1
  have HW1 := hid hW1
  have HG := hid hg
  have x0 := cell_of_row _ _ 0 _ _ _ HX1.out
  have x1 := cell_of_row _ _ 1 _ _ _ HX1.out
  have x2 := cell_of_row _ _ 2 _ _ _ HX1.out
  have x3 := cell_of_row _ _ 3 _ _ _ HX1.out
  have x4 := cell_of_row _ _ 4 _ _ _ HX1.out
  have x5 := cell_of_row _ _ 5 _ _ _ HX1.out
  have x6 := cell_of_row _ _ 6 _ _ _ HX1.out
  clear hv hN hb1 hx1 hW1 hg hck hr hne
  go_enter Try.func3, Try.ntmps3
  go_upto_region 1 with fail
  rw [HW1.out, HG.out]
  go_wp2_with fail
  refine HFW.out.mono ?_
  rintro e w2 ⟨he, hb2⟩
  have HX2 := hid ((hb2.block _ (box_lt HX1.out)).trans HX1.out)
  have HB2 := hid (HB1.out.trans (hb2.mono HB1.out.size))
  clear hb2 HFW x0 x1 x2 x3 x4 x5 x6
  rcases he with ⟨rfl, _⟩ | ⟨rfl, _⟩
  rotate_left
  · have HAW := hid (awake_any w2)
    go_wp2_with fail
    refine HAW.out.mono ?_
    rintro e w3 ⟨rfl, hb3⟩
    go_wp2_with fail
    go_ret
    exact ⟨rfl, HB2.out.trans (hb3.mono HB2.out.size)⟩
  have x0 := cell_of_row _ _ 0 _ _ _ HX2.out
  have x1 := cell_of_row _ _ 1 _ _ _ HX2.out
  have x2 := cell_of_row _ _ 2 _ _ _ HX2.out
  have x3 := cell_of_row _ _ 3 _ _ _ HX2.out
  have x4 := cell_of_row _ _ 4 _ _ _ HX2.out
  have x5 := cell_of_row _ _ 5 _ _ _ HX2.out
  have x6 := cell_of_row _ _ 6 _ _ _ HX2.out
  have HN2 := hid (HNW.out w2)
  go_upto_region 3 with fail
  go_wp2_with fail
  refine HN2.out.mono ?_
  rintro e w3 ⟨rfl, hb3⟩
  obtain ⟨p, hp⟩ : ∃ p, w3.heap.size = p := ⟨_, rfl⟩
  obtain ⟨W3, hW3⟩ : ∃ X, w3.alloc (.cells #[.int .i64 a0, .int .i64 a1, .int .i64 a2, .bool ad, .int .i64 ai, .int .i64 an, .slice none 0 0] 26) = X := ⟨_, rfl⟩
  have hz3 : Below w3.heap.size w3 W3 := by rw [← hW3]; exact al1 _ _
  have HP3 : Hid (W3.heap[p]? = some (.cells #[.int .i64 a0, .int .i64 a1, .int .i64 a2, .bool ad, .int .i64 ai, .int .i64 an, .slice none 0 0] 26)) := hid (by rw [← hW3, ← hp]; exact heap_alloc_new _ _)
  have hb3' := hb3.trans (hz3.mono hb3.size)
  have HX3 := hid ((hb3'.block _ (box_lt HX2.out)).trans HX2.out)
  have HB3 := hid (HB2.out.trans (hb3'.mono HB2.out.size))
  have HW3 := hid hW3
  have HPP := hid hp
  clear hp hW3 hz3 hb3 hb3' HN2 x0 x1 x2 x3 x4 x5 x6
  have x0 := cell_of_row _ _ 0 _ _ _ HX3.out
  have x1 := cell_of_row _ _ 1 _ _ _ HX3.out
  have x2 := cell_of_row _ _ 2 _ _ _ HX3.out
  have x3 := cell_of_row _ _ 3 _ _ _ HX3.out
  have x4 := cell_of_row _ _ 4 _ _ _ HX3.out
  have x5 := cell_of_row _ _ 5 _ _ _ HX3.out
  have x6 := cell_of_row _ _ 6 _ _ _ HX3.out
  have HN3 := hid (HRN.out W3)
  go_upto_region 4 with fail
  rw [HW3.out, HPP.out]
  go_wp2_with fail
  refine HN3.out.mono ?_
  rintro e w4 ⟨rfl, hb4⟩
  obtain ⟨q, hq⟩ : ∃ q, w4.heap.size = q := ⟨_, rfl⟩
  obtain ⟨W4, hW4⟩ : ∃ X, w4.alloc (.cells #[.int .i64 a0, .int .i64 a1, .int .i64 a2, .bool ad, .int .i64 ai, .int .i64 an, .slice none 0 0] 26) = X := ⟨_, rfl⟩
  have hz4 : Below w4.heap.size w4 W4 := by rw [← hW4]; exact al1 _ _
  have hq4 : W4.heap[q]? = some (.cells #[.int .i64 a0, .int .i64 a1, .int .i64 a2, .bool ad, .int .i64 ai, .int .i64 an, .slice none 0 0] 26) := by rw [← hW4, ← hq]; exact heap_alloc_new _ _
  have hb4' := hb4.trans (hz4.mono hb4.size)
  have hx4 := (hb4'.block _ (box_lt HX3.out)).trans HX3.out
  have hp4 := (hb4'.block _ (box_lt HP3.out)).trans HP3.out
  have HB4 := hid (HB3.out.trans (hb4'.mono HB3.out.size))
  have HW4 := hid hW4
  have HQQ := hid hq
  have HK := hid (fun (X : World) (hX : Below W4.heap.size W4 X) => (show X.cell? ⟨p, 0, none⟩ = some (.int .i64 a0) ∧ X.cell? ⟨p, 1, none⟩ = some (.int .i64 a1) ∧ X.cell? ⟨p, 2, none⟩ = some (.int .i64 a2) ∧ X.cell? ⟨p, 3, none⟩ = some (.bool ad) ∧ X.cell? ⟨p, 4, none⟩ = some (.int .i64 ai) ∧ X.cell? ⟨p, 5, none⟩ = some (.int .i64 an) ∧ X.cell? ⟨p, 6, none⟩ = some (.slice none 0 0) ∧ X.cell? ⟨q, 0, none⟩ = some (.int .i64 a0) ∧ X.cell? ⟨q, 1, none⟩ = some (.int .i64 a1) ∧ X.cell? ⟨q, 2, none⟩ = some (.int .i64 a2) ∧ X.cell? ⟨q, 3, none⟩ = some (.bool ad) ∧ X.cell? ⟨q, 4, none⟩ = some (.int .i64 ai) ∧ X.cell? ⟨q, 5, none⟩ = some (.int .i64 an) ∧ X.cell? ⟨q, 6, none⟩ = some (.slice none 0 0) ∧ X.cell? ⟨g, 0, none⟩ = some (.int .i64 mn) ∧ X.cell? ⟨g, 1, none⟩ = some (.int .i64 mx) ∧ X.cell? ⟨g, 2, none⟩ = some (.int .i64 rt) ∧ X.cell? ⟨g, 3, none⟩ = some (.bool dn) ∧ X.cell? ⟨g, 4, none⟩ = some (.int .i64 idle) ∧ X.cell? ⟨g, 5, none⟩ = some (.int .i64 next) ∧ X.cell? ⟨g, 6, none⟩ = some (.slice A N c) from (by
    have h1 := (hX.block _ (box_lt hp4)).trans hp4
    have h2 := (hX.block _ (box_lt hq4)).trans hq4
    have h3 := (hX.block _ (box_lt hx4)).trans hx4
    exact ⟨cell_of_row _ _ 0 _ _ _ h1, cell_of_row _ _ 1 _ _ _ h1, cell_of_row _ _ 2 _ _ _ h1, cell_of_row _ _ 3 _ _ _ h1, cell_of_row _ _ 4 _ _ _ h1, cell_of_row _ _ 5 _ _ _ h1, cell_of_row _ _ 6 _ _ _ h1, cell_of_row _ _ 0 _ _ _ h2, cell_of_row _ _ 1 _ _ _ h2, cell_of_row _ _ 2 _ _ _ h2, cell_of_row _ _ 3 _ _ _ h2, cell_of_row _ _ 4 _ _ _ h2, cell_of_row _ _ 5 _ _ _ h2, cell_of_row _ _ 6 _ _ _ h2, cell_of_row _ _ 0 _ _ _ h3, cell_of_row _ _ 1 _ _ _ h3, cell_of_row _ _ 2 _ _ _ h3, cell_of_row _ _ 3 _ _ _ h3, cell_of_row _ _ 4 _ _ _ h3, cell_of_row _ _ 5 _ _ _ h3, cell_of_row _ _ 6 _ _ _ h3⟩)))
  have HSM := hid (fun (X : World) => same_any ⟨a0, a1, a2, ad, ai, an⟩ [] [] (.slice none 0 0) (.slice none 0 0) X (fl_none0 X) (fl_none0 X) (by simp) rfl)
  unfold vLk at HSM
  dsimp only at HSM
  clear hq hW4 hz4 hb4 hb4' HN3 x0 x1 x2 x3 x4 x5 x6 hx4 hp4 hq4
  go_upto_region 5 with fail
  rw [HW4.out, HQQ.out]
  refine region_tail 18 (fun X => X.cell? ⟨p, 0, none⟩ = some (.int .i64 a0) ∧ X.cell? ⟨p, 1, none⟩ = some (.int .i64 a1) ∧ X.cell? ⟨p, 2, none⟩ = some (.int .i64 a2) ∧ X.cell? ⟨p, 3, none⟩ = some (.bool ad) ∧ X.cell? ⟨p, 4, none⟩ = some (.int .i64 ai) ∧ X.cell? ⟨p, 5, none⟩ = some (.int .i64 an) ∧ X.cell? ⟨p, 6, none⟩ = some (.slice none 0 0) ∧ X.cell? ⟨q, 0, none⟩ = some (.int .i64 a0) ∧ X.cell? ⟨q, 1, none⟩ = some (.int .i64 a1) ∧ X.cell? ⟨q, 2, none⟩ = some (.int .i64 a2) ∧ X.cell? ⟨q, 3, none⟩ = some (.bool ad) ∧ X.cell? ⟨q, 4, none⟩ = some (.int .i64 ai) ∧ X.cell? ⟨q, 5, none⟩ = some (.int .i64 an) ∧ X.cell? ⟨q, 6, none⟩ = some (.slice none 0 0) ∧ X.cell? ⟨g, 0, none⟩ = some (.int .i64 mn) ∧ X.cell? ⟨g, 1, none⟩ = some (.int .i64 mx) ∧ X.cell? ⟨g, 2, none⟩ = some (.int .i64 rt) ∧ X.cell? ⟨g, 3, none⟩ = some (.bool dn) ∧ X.cell? ⟨g, 4, none⟩ = some (.int .i64 idle) ∧ X.cell? ⟨g, 5, none⟩ = some (.int .i64 next) ∧ X.cell? ⟨g, 6, none⟩ = some (.slice A N c)) (by kernel_rfl) ?_
  obtain ⟨X0, hX0⟩ : ∃ X, W4.drew = X := ⟨_, rfl⟩
  have hB0 : Below W4.heap.size W4 X0 := by rw [← hX0]; exact (Below.refl W4.heap.size W4).drew
  have hHeld := HK.out X0 hB0
  rw [hX0]
  clear hX0
  refine' wpAnyT_one (i := 0) (o := ?oia0) (by kernel_rfl) ?hia0 (fun K hK => ?sta0)
  case hia0 => (simp only [List.getElem?_toArray, List.getElem?_cons_zero]; rfl)
  go_simp
  go_at_call 12
  refine (awake_any X0).mono ?_
  rintro e X1 ⟨rfl, hbc⟩
  have hB1 : Below W4.heap.size W4 X1 := hB0.trans (hbc.mono hB0.size)
  clear hbc hHeld
  have hHeld := HK.out X1 hB1
  refine hK.out _ _ (fun _ => hHeld) ?_
  clear hK K
  (try simp only [Act.put, List.setIfInBounds_toArray, List.set_cons_zero, List.set_cons_succ])
  refine' wpAnyT_take (i := 1) (oi := ?oia1) (v := ?va1) ?hia1 (by kernel_rfl) (by kernel_rfl) ?hqa1 ?hya1 hHeld ?resta1
  case hia1 => (simp only [List.getElem?_toArray, List.getElem?_cons_zero, List.getElem?_cons_succ]; rfl)
  case hqa1 => exact fun _ _ _ h => h
  case hya1 => (refine Or.inl ⟨by rfl, ?_⟩; intro w' hSw; (try dsimp only at hSw); go_simp; try with_reducible rfl)
  (try simp only [Act.put, List.setIfInBounds_toArray, List.set_cons_zero, List.set_cons_succ])
  refine' wpAnyT_take (i := 2) (oi := ?oia2) (v := ?va2) ?hia2 (by kernel_rfl) (by kernel_rfl) ?hqa2 ?hya2 hHeld ?resta2
  case hia2 => (simp only [List.getElem?_toArray, List.getElem?_cons_zero, List.getElem?_cons_succ]; rfl)
  case hqa2 => exact fun _ _ _ h => h
  case hya2 => (refine Or.inl ⟨by rfl, ?_⟩; intro w' hSw; (try dsimp only at hSw); go_simp; try with_reducible rfl)
  (try simp only [Act.put, List.setIfInBounds_toArray, List.set_cons_zero, List.set_cons_succ])
  refine' wpAnyT_take (i := 3) (oi := ?oia3) (v := ?va3) ?hia3 (by kernel_rfl) (by kernel_rfl) ?hqa3 ?hya3 hHeld ?resta3
  case hia3 => (simp only [List.getElem?_toArray, List.getElem?_cons_zero, List.getElem?_cons_succ]; rfl)
  case hqa3 => exact fun _ _ _ h => h
  case hya3 => (refine Or.inl ⟨by rfl, ?_⟩; intro w' hSw; (try dsimp only at hSw); go_simp; try with_reducible rfl)
  (try simp only [Act.put, List.setIfInBounds_toArray, List.set_cons_zero, List.set_cons_succ])
  refine' wpAnyT_one (i := 4) (o := ?oia4) (by kernel_rfl) ?hia4 (fun K hK => ?sta4)
  case hia4 => (simp only [List.getElem?_toArray, List.getElem?_cons_zero, List.getElem?_cons_succ]; rfl)
  go_simp
  go_at_call 15
  refine (HSM.out X1).mono ?_
  rintro e X2 ⟨rfl, hbc⟩
  have hB2 : Below W4.heap.size W4 X2 := hB1.trans (hbc.mono hB1.size)
  clear hbc hHeld
  have hHeld := HK.out X2 hB2
  refine hK.out _ _ (fun _ => hHeld) ?_
  clear hK K
  (try simp only [Act.put, List.setIfInBounds_toArray, List.set_cons_zero, List.set_cons_succ])
  refine' wpAnyT_take (i := 5) (oi := ?oia5) (v := ?va5) ?hia5 (by kernel_rfl) (by kernel_rfl) ?hqa5 ?hya5 hHeld ?resta5
  case hia5 => (simp only [List.getElem?_toArray, List.getElem?_cons_zero, List.getElem?_cons_succ]; rfl)
  case hqa5 => exact fun _ _ _ h => h
  case hya5 => (refine Or.inl ⟨by rfl, ?_⟩; intro w' hSw; (try dsimp only at hSw); go_simp; try with_reducible rfl)
  (try simp only [Act.put, List.setIfInBounds_toArray, List.set_cons_zero, List.set_cons_succ])
  refine' wpAnyT_take (i := 6) (oi := ?oia6) (v := ?va6) ?hia6 (by kernel_rfl) (by kernel_rfl) ?hqa6 ?hya6 hHeld ?resta6
  case hia6 => (simp only [List.getElem?_toArray, List.getElem?_cons_zero, List.getElem?_cons_succ]; rfl)
  case hqa6 => exact fun _ _ _ h => h
  case hya6 => (refine Or.inl ⟨by rfl, ?_⟩; intro w' hSw; (try dsimp only at hSw); go_simp; try with_reducible rfl)
  (try simp only [Act.put, List.setIfInBounds_toArray, List.set_cons_zero, List.set_cons_succ])
  refine' wpAnyT_take (i := 7) (oi := ?oia7) (v := ?va7) ?hia7 (by kernel_rfl) (by kernel_rfl) ?hqa7 ?hya7 hHeld ?resta7
  case hia7 => (simp only [List.getElem?_toArray, List.getElem?_cons_zero, List.getElem?_cons_succ]; rfl)
  case hqa7 => exact fun _ _ _ h => h
  case hya7 => (refine Or.inl ⟨by rfl, ?_⟩; intro w' hSw; (try dsimp only at hSw); go_simp; try with_reducible rfl)
  (try simp only [Act.put, List.setIfInBounds_toArray, List.set_cons_zero, List.set_cons_succ])
  refine' wpAnyT_take (i := 8) (oi := ?oia8) (v := ?va8) ?hia8 (by kernel_rfl) (by kernel_rfl) ?hqa8 ?hya8 hHeld ?resta8
  case hia8 => (simp only [List.getElem?_toArray, List.getElem?_cons_zero, List.getElem?_cons_succ]; rfl)
  case hqa8 => exact fun _ _ _ h => h
  case hya8 => (refine Or.inl ⟨by rfl, ?_⟩; intro w' hSw; (try dsimp only at hSw); go_simp; try with_reducible rfl)
  (try simp only [Act.put, List.setIfInBounds_toArray, List.set_cons_zero, List.set_cons_succ])
  refine' wpAnyT_take (i := 9) (oi := ?oia9) (v := ?va9) ?hia9 (by kernel_rfl) (by kernel_rfl) ?hqa9 ?hya9 hHeld ?resta9
  case hia9 => (simp only [List.getElem?_toArray, List.getElem?_cons_zero, List.getElem?_cons_succ]; rfl)
  case hqa9 => exact fun _ _ _ h => h
  case hya9 => (refine Or.inl ⟨by rfl, ?_⟩; intro w' hSw; (try dsimp only at hSw); go_simp; try with_reducible rfl)
  (try simp only [Act.put, List.setIfInBounds_toArray, List.set_cons_zero, List.set_cons_succ])
  refine' wpAnyT_take (i := 10) (oi := ?oia10) (v := ?va10) ?hia10 (by kernel_rfl) (by kernel_rfl) ?hqa10 ?hya10 hHeld ?resta10
  case hia10 => (simp only [List.getElem?_toArray, List.getElem?_cons_zero, List.getElem?_cons_succ]; rfl)
  case hqa10 => exact fun _ _ _ h => h
  case hya10 => (refine Or.inl ⟨by rfl, ?_⟩; intro w' hSw; (try dsimp only at hSw); go_simp; try with_reducible rfl)
  (try simp only [Act.put, List.setIfInBounds_toArray, List.set_cons_zero, List.set_cons_succ])
  refine' wpAnyT_take (i := 11) (oi := ?oia11) (v := ?va11) ?hia11 (by kernel_rfl) (by kernel_rfl) ?hqa11 ?hya11 hHeld ?resta11
  case hia11 => (simp only [List.getElem?_toArray, List.getElem?_cons_zero, List.getElem?_cons_succ]; rfl)
  case hqa11 => exact fun _ _ _ h => h
  case hya11 => (refine Or.inl ⟨by rfl, ?_⟩; intro w' hSw; (try dsimp only at hSw); go_simp; try with_reducible rfl)
  (try simp only [Act.put, List.setIfInBounds_toArray, List.set_cons_zero, List.set_cons_succ])
  refine' wpAnyT_take (i := 12) (oi := ?oia12) (v := ?va12) ?hia12 (by kernel_rfl) (by kernel_rfl) ?hqa12 ?hya12 hHeld ?resta12
  case hia12 => (simp only [List.getElem?_toArray, List.getElem?_cons_zero, List.getElem?_cons_succ]; rfl)
  case hqa12 => exact fun _ _ _ h => h
  case hya12 => (refine Or.inl ⟨by rfl, ?_⟩; intro w' hSw; (try dsimp only at hSw); go_simp; try with_reducible rfl)
  (try simp only [Act.put, List.setIfInBounds_toArray, List.set_cons_zero, List.set_cons_succ])
  refine' wpAnyT_take (i := 14) (oi := ?oia14) (v := ?va14) ?hia14 (by kernel_rfl) (by kernel_rfl) ?hqa14 ?hya14 hHeld ?resta14
  case hia14 => (simp only [List.getElem?_toArray, List.getElem?_cons_zero, List.getElem?_cons_succ]; rfl)
  case hqa14 => exact fun _ _ _ h => h
  case hya14 => (refine Or.inl ⟨by rfl, ?_⟩; intro w' hSw; (try dsimp only at hSw); go_simp; try with_reducible rfl)
  (try simp only [Act.put, List.setIfInBounds_toArray, List.set_cons_zero, List.set_cons_succ])
  refine' wpAnyT_one (i := 13) (o := ?oia13) (by kernel_rfl) ?hia13 (fun K hK => ?sta13)
  case hia13 => (simp only [List.getElem?_toArray, List.getElem?_cons_zero, List.getElem?_cons_succ]; rfl)
  go_simp
  go_at_call 16
  refine (HCK.out X2 (HB4.out.trans (hB2.mono HB4.out.size))).mono ?_
  rintro e X3 ⟨rfl, hbc⟩
  have hB3 : Below W4.heap.size W4 X3 := hB2.trans (hbc.mono hB2.size)
  clear hbc hHeld
  have hHeld := HK.out X3 hB3
  refine hK.out _ _ (fun _ => hHeld) ?_
  clear hK K
  (try simp only [Act.put, List.setIfInBounds_toArray, List.set_cons_zero, List.set_cons_succ])
  refine' wpAnyT_one (i := 15) (o := ?oia15) (by kernel_rfl) ?hia15 (fun K hK => ?sta15)
  case hia15 => (simp only [List.getElem?_toArray, List.getElem?_cons_zero, List.getElem?_cons_succ]; rfl)
  go_simp
  go_at_call 17
  refine (HRC.out X3 (HB4.out.trans (hB3.mono HB4.out.size))).mono ?_
  rintro e X4 ⟨rfl, hbc⟩
  have hB4 : Below W4.heap.size W4 X4 := hB3.trans (hbc.mono hB3.size)
  clear hbc hHeld
  have hHeld := HK.out X4 hB4
  refine hK.out _ _ (fun _ => hHeld) ?_
  clear hK K
  (try simp only [Act.put, List.setIfInBounds_toArray, List.set_cons_zero, List.set_cons_succ])
  refine' wpAnyT_take (i := 16) (oi := ?oia16) (v := ?va16) ?hia16 (by kernel_rfl) (by kernel_rfl) ?hqa16 ?hya16 hHeld ?resta16
  case hia16 => (simp only [List.getElem?_toArray, List.getElem?_cons_zero, List.getElem?_cons_succ]; rfl)
  case hqa16 => exact fun _ _ _ h => h
  case hya16 => (refine Or.inl ⟨by rfl, ?_⟩; intro w' hSw; (try dsimp only at hSw); go_simp; try with_reducible rfl)
  (try simp only [Act.put, List.setIfInBounds_toArray, List.set_cons_zero, List.set_cons_succ])
  refine' wpAnyT_take (i := 17) (oi := ?oia17) (v := ?va17) ?hia17 (by kernel_rfl) (by kernel_rfl) ?hqa17 ?hya17 hHeld ?resta17
  case hia17 => (simp only [List.getElem?_toArray, List.getElem?_cons_zero, List.getElem?_cons_succ]; rfl)
  case hqa17 => exact fun _ _ _ h => h
  case hya17 => (refine Or.inl ⟨by rfl, ?_⟩; intro w' hSw; (try dsimp only at hSw); go_simp; try with_reducible rfl)
  (try simp only [Act.put, List.setIfInBounds_toArray, List.set_cons_zero, List.set_cons_succ])
  refine' wpAnyT_one (i := 18) (o := ?oia18) (by kernel_rfl) ?hia18 (fun K hK => ?sta18)
  case hia18 => (simp only [List.getElem?_toArray, List.getElem?_cons_zero, List.getElem?_cons_succ]; rfl)
  go_simp
  refine hK.out _ _ (fun h => absurd h (by decide)) ?_
  clear hK K
  (try simp only [Act.put, List.setIfInBounds_toArray, List.set_cons_zero, List.set_cons_succ])
  refine wpAnyT_done (by kernel_rfl) ?_ _
  have HBF := hid (HB4.out.trans (hB4.mono HB4.out.size))
  go_wp2_with fail
  go_ret
  exact ⟨rfl, HBF.out⟩
end Go.Proofs.Ytacpejoablcffaa
