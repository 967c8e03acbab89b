/- Due. -/
import Derived.Test.YtjpfogdfgcfkcaaM
namespace Go.Proofs.Ytjpfogdfgcfkcaa
open Go.RowKit Go.Lib

def dueN (l : List Ec) (next t : Int) : Nat := if chk l next = 0 then unt l t else 0
/-- What Due answers: the queue that is left, the events that were due. -/
def DueQ (w : World) (l due : List Ec) (next : Int) (e : Ending) (w' : World) : Prop :=
  ∃ (q v : Value) (vs : List Ev), e = .returned (.tuple #[q, v]) ∧ QuQ w l next q w' ∧ w'.ownsRow w.heap.size 32 5 v vs.length (vs.map cEv).flatten ∧ vs.map core = due ∧ ∀ x ∈ vs, Pay w' x

set_option maxHeartbeats 4000000 in
set_option maxRecDepth 100000 in
theorem due_any (l : List Ev) (v : Value) (next t : Int) (w : World) (hv : EL w v l) (hr : ∀ x ∈ l, R64 x.n) (hl : l.length ≤ 100000) (hb : ∀ x ∈ l, x.p.length ≤ 100000) :
    Calls Try.prog 24 #[.agg #[v, .int .i64 next], .int .i64 t] w (DueQ w ((l.map core).drop (dueN (l.map core) next t)) ((l.map core).take (dueN (l.map core) next t)) next) := by
  obtain ⟨A, c, rfl⟩ := el_form hv
  have hcap := el_cap hv
  obtain ⟨N, hN⟩ : ∃ N, l.length = N := ⟨_, rfl⟩
  rw [hN] at hv hl hcap ⊢
  obtain ⟨W1, hW1⟩ : ∃ W1, (w.alloc (.cells #[.slice A N c, .int .i64 next] 24)).alloc (.cells #[.slice none 0 0, .int .i64 0] 24) = W1 := ⟨_, rfl⟩
  obtain ⟨g, hg⟩ : ∃ g, w.heap.size = g := ⟨_, rfl⟩
  have hb1 : Below w.heap.size w W1 := by rw [← hW1]; exact ((Below.refl _ w).alloc (Nat.le_refl _) _).alloc (by simp) _
  have hx1 : W1.heap[g]? = some (.cells #[.slice A N c, .int .i64 next] 24) := by rw [← hW1, ← hg]; exact (Below.heap_alloc _ _ _ (by simp)).trans (heap_alloc_new w _)
  have hy1 : W1.heap[g + 1]? = some (.cells #[.slice none 0 0, .int .i64 0] 24) := by
    rw [← hW1, ← hg]
    have h := heap_alloc_new (w.alloc (.cells #[.slice A N c, .int .i64 next] 24)) (.cells #[.slice none 0 0, .int .i64 0] 24)
    simpa using h
  have hz1 : W1.heap.size = g + 2 := by rw [← hW1, ← hg]; simp
  have x0 : W1.cell? ⟨g, 0, none⟩ = some (.slice A N c) := cell_of_row _ _ 0 _ _ _ hx1
  have x1 : W1.cell? ⟨g, 1, none⟩ = some (.int .i64 next) := cell_of_row _ _ 1 _ _ _ hx1
  have HPT := hid (fun (X : World) (u : Nat) (hu : u ≤ N) (hX : Below w.heap.size w X) => part_any l (.slice A N c) next u N X (hv.below hX) (by rw [hN]; exact hl) hb hu (by rw [hN]; exact Nat.le_refl _))
  have HCP := hid (fun (X : World) (u : Nat) (hu : u ≤ N) (hX : Below w.heap.size w X) => copied_any (l.take u) (.slice A u c) X (by
    have h := el_mid (hv.below hX) 0 u (Nat.zero_le _) (by rw [hN]; exact hu)
    rw [List.drop_zero, Nat.sub_zero, Nat.sub_zero] at h
    have e : fromN 5 A c 0 = A := by
      unfold fromN
      split
      · rfl
      · rcases A with _ | a
        · rfl
        · simp [Addr.add]
    rw [e] at h
    exact h) (by rw [List.length_take]; omega) (fun x hx => hb x (List.mem_of_mem_take hx)))
  have HCK := hid (fun (X : World) (hX : Below w.heap.size w X) => check_any l _ next X (hv.below hX) hr)
  have HUN := hid (fun (X : World) (hok : chk (l.map core) next = 0) (hX : Below w.heap.size w X) => until_any l A N c t next X (hv.below hX) hN hok)
  have HSL := hid (fun (u : Nat) (hu : u ≤ N) (W : World) => run_to22 A N c u (by omega) W)
  obtain ⟨ck, hck⟩ : ∃ ck, chk (l.map core) next = ck := ⟨_, rfl⟩
  rw [hck] at HCK
  have HCE := hid hck
  have HN := hid hN
  have HB1 := hid hb1
  have HX1 := hid hx1
  have HY1 := hid hy1
  have HZ1 := hid hz1
  have HW1 := hid hW1
  have HG := hid hg
  clear hv hN hr hb hb1 hx1 hy1 hz1 hW1 hg hck hcap
  go_enter Try.func24, Try.ntmps24
  go_wp2_with fail
  rw [HW1.out, HG.out]
  refine (HCK.out W1 HB1.out).mono ?_
  rintro e w2 ⟨rfl, hb2⟩
  have HX2 := hid ((hb2.block _ (box_lt HX1.out)).trans HX1.out)
  have HY2 := hid ((hb2.block _ (box_lt HY1.out)).trans HY1.out)
  have HB2 := hid (HB1.out.trans (hb2.mono HB1.out.size))
  have hz2 : g + 2 ≤ w2.heap.size := by rw [← HZ1.out]; exact hb2.size
  clear hb2 x0 x1
  have x0 := cell_of_row _ _ 0 _ _ _ HX2.out
  have x1 := cell_of_row _ _ 1 _ _ _ HX2.out
  by_cases hc0 : ck = 0
  · subst hc0
    have huN := unt_le (l.map core) t
    rw [List.length_map, HN.out] at huN
    have hun := HUN.out w2 HCE.out HB2.out
    obtain ⟨u, hu⟩ : ∃ u, unt (l.map core) t = u := ⟨_, rfl⟩
    rw [hu] at huN hun
    have HUC := hid hun
    have HDN : Hid (dueN (l.map core) next t = u) := hid (by unfold dueN; rw [if_pos HCE.out, hu])
    clear hun hu
    go_wp2_with fail
    refine HUC.out.mono ?_
    rintro e w3 ⟨rfl, hb3⟩
    have HX3 := hid ((hb3.block _ (box_lt HX2.out)).trans HX2.out)
    have HY3 := hid ((hb3.block _ (box_lt HY2.out)).trans HY2.out)
    have HB3 := hid (HB2.out.trans (hb3.mono HB2.out.size))
    have hz3 : g + 2 ≤ w3.heap.size := Nat.le_trans hz2 hb3.size
    clear hb3 x0 x1 HUC
    have x0 := cell_of_row _ _ 0 _ _ _ HX3.out
    have x1 := cell_of_row _ _ 1 _ _ _ HX3.out
    go_wp2_with fail
    have hsl := HSL.out u (by omega)
    have hK : ∀ X, Below w3.heap.size w3 X → X.cell? ⟨g, 0, none⟩ = some (.slice A N c) ∧ X.cell? ⟨g, 1, none⟩ = some (.int .i64 next) := fun X hX => ⟨(hX.cell (p := ⟨g, 0, none⟩) (box_lt HX3.out)).trans x0, (hX.cell (p := ⟨g, 1, none⟩) (box_lt HX3.out)).trans x1⟩
    have HK := hid hK
    clear hK
    refine region_tail 11 (fun X => X.cell? ⟨g, 0, none⟩ = some (.slice A N c) ∧ X.cell? ⟨g, 1, none⟩ = some (.int .i64 next)) (by kernel_rfl) ?_
    obtain ⟨X0, hX0⟩ : ∃ X, w3.drew = X := ⟨_, rfl⟩
    have hB0 : Below w3.heap.size w3 X0 := by rw [← hX0]; exact (Below.refl w3.heap.size w3).drew
    have hHeld := HK.out X0 hB0
    rw [hX0]
    clear hX0
    refine' wpAnyT_take (i := 0) (oi := ?oia30) (v := ?va30) ?hia30 (by kernel_rfl) (by kernel_rfl) ?hqa30 ?hya30 hHeld ?resta30
    case hia30 => (simp only [List.getElem?_toArray, List.getElem?_cons_zero]; rfl)
    case hqa30 => exact fun _ _ _ h => h
    case hya30 => (refine Or.inl ⟨by rfl, ?_⟩; intro w' hSw; (try dsimp only at hSw); go_simp; try with_reducible rfl)
    (try simp only [Act.put, List.setIfInBounds_toArray, List.set_cons_zero, List.set_cons_succ])
    refine' wpAnyT_take (i := 1) (oi := ?oia31) (v := ?va31) ?hia31 (by kernel_rfl) (by kernel_rfl) ?hqa31 ?hya31 hHeld ?resta31
    case hia31 => (simp only [List.getElem?_toArray, List.getElem?_cons_zero, List.getElem?_cons_succ]; rfl)
    case hqa31 => exact fun _ _ _ h => h
    case hya31 => (refine Or.inl ⟨by rfl, ?_⟩; intro w' hSw; (try dsimp only at hSw); go_simp; try with_reducible rfl)
    (try simp only [Act.put, List.setIfInBounds_toArray, List.set_cons_zero, List.set_cons_succ])
    refine' wpAnyT_take (i := 2) (oi := ?oia32) (v := ?va32) ?hia32 (by kernel_rfl) (by kernel_rfl) ?hqa32 ?hya32 hHeld ?resta32
    case hia32 => (simp only [List.getElem?_toArray, List.getElem?_cons_zero, List.getElem?_cons_succ]; rfl)
    case hqa32 => exact fun _ _ _ h => h
    case hya32 => (refine Or.inl ⟨by rfl, ?_⟩; intro w' hSw; (try dsimp only at hSw); go_simp; try with_reducible rfl)
    (try simp only [Act.put, List.setIfInBounds_toArray, List.set_cons_zero, List.set_cons_succ])
    refine' wpAnyT_take (i := 3) (oi := ?oia33) (v := ?va33) ?hia33 (by kernel_rfl) (by kernel_rfl) ?hqa33 ?hya33 hHeld ?resta33
    case hia33 => (simp only [List.getElem?_toArray, List.getElem?_cons_zero, List.getElem?_cons_succ]; rfl)
    case hqa33 => exact fun _ _ _ h => h
    case hya33 => (refine Or.inl ⟨by rfl, ?_⟩; intro w' hSw; (try dsimp only at hSw); go_simp; try with_reducible rfl)
    (try simp only [Act.put, List.setIfInBounds_toArray, List.set_cons_zero, List.set_cons_succ])
    refine' wpAnyT_take (i := 4) (oi := ?oia34) (v := ?va34) ?hia34 (by kernel_rfl) (by kernel_rfl) ?hqa34 ?hya34 hHeld ?resta34
    case hia34 => (simp only [List.getElem?_toArray, List.getElem?_cons_zero, List.getElem?_cons_succ]; rfl)
    case hqa34 => exact fun _ _ _ h => h
    case hya34 => (refine Or.inl ⟨by rfl, ?_⟩; intro w' hSw; (try dsimp only at hSw); go_simp; try with_reducible rfl)
    (try simp only [Act.put, List.setIfInBounds_toArray, List.set_cons_zero, List.set_cons_succ])
    refine' wpAnyT_take (i := 6) (oi := ?oia36) (v := ?va36) ?hia36 (by kernel_rfl) (by kernel_rfl) ?hqa36 ?hya36 hHeld ?resta36
    case hia36 => (simp only [List.getElem?_toArray, List.getElem?_cons_zero, List.getElem?_cons_succ]; rfl)
    case hqa36 => exact fun _ _ _ h => h
    case hya36 => (refine Or.inl ⟨by rfl, ?_⟩; intro w' hSw; (try dsimp only at hSw); go_simp; try with_reducible rfl)
    (try simp only [Act.put, List.setIfInBounds_toArray, List.set_cons_zero, List.set_cons_succ])
    refine' wpAnyT_take (i := 7) (oi := ?oia37) (v := ?va37) ?hia37 (by kernel_rfl) (by kernel_rfl) ?hqa37 ?hya37 hHeld ?resta37
    case hia37 => (simp only [List.getElem?_toArray, List.getElem?_cons_zero, List.getElem?_cons_succ]; rfl)
    case hqa37 => exact fun _ _ _ h => h
    case hya37 => (refine Or.inl ⟨by rfl, ?_⟩; intro w' hSw; (try dsimp only at hSw); go_simp; try with_reducible rfl)
    (try simp only [Act.put, List.setIfInBounds_toArray, List.set_cons_zero, List.set_cons_succ])
    refine' wpAnyT_take (i := 8) (oi := ?oia38) (v := ?va38) ?hia38 (by kernel_rfl) (by kernel_rfl) ?hqa38 ?hya38 hHeld ?resta38
    case hia38 => (simp only [List.getElem?_toArray, List.getElem?_cons_zero, List.getElem?_cons_succ]; rfl)
    case hqa38 => exact fun _ _ _ h => h
    case hya38 => (refine Or.inl ⟨by rfl, ?_⟩; intro w' hSw; (try dsimp only at hSw); go_simp; try with_reducible rfl)
    (try simp only [Act.put, List.setIfInBounds_toArray, List.set_cons_zero, List.set_cons_succ])
    refine' wpAnyT_take (i := 9) (oi := ?oia39) (v := ?va39) ?hia39 (by kernel_rfl) (by kernel_rfl) ?hqa39 ?hya39 hHeld ?resta39
    case hia39 => (simp only [List.getElem?_toArray, List.getElem?_cons_zero, List.getElem?_cons_succ]; rfl)
    case hqa39 => exact fun _ _ _ h => h
    case hya39 => (refine Or.inl ⟨by rfl, ?_⟩; intro w' hSw; (try dsimp only at hSw); go_simp; try with_reducible rfl)
    (try simp only [Act.put, List.setIfInBounds_toArray, List.set_cons_zero, List.set_cons_succ])
    refine' wpAnyT_one (i := 5) (o := ?oic53) (by kernel_rfl) ?hic53 (fun K hK => ?stc53)
    case hic53 => (simp only [List.getElem?_toArray, List.getElem?_cons_zero, List.getElem?_cons_succ]; rfl)
    go_simp
    go_at_call 37
    refine (HPT.out X0 u (by omega) (HB3.out.trans (hB0.mono HB3.out.size))).mono ?_
    rintro e wa ⟨qa, rfl, va, vs, rfl, hoa, hca, hpa, hba⟩
    obtain ⟨vA, vc, rfl⟩ := own_form32 hoa
    obtain ⟨n2, hn2⟩ : ∃ n2, vs.length = n2 := ⟨_, rfl⟩
    rw [hn2] at hoa ⊢
    have hbka := hB0.trans (hba.mono hB0.size)
    have hHeld2 := HK.out wa hbka
    go_simp
    refine hK.out _ _ (fun _ => hHeld2) ?_
    clear hK K
    (try simp only [Act.put, List.setIfInBounds_toArray, List.set_cons_zero, List.set_cons_succ])
    clear hHeld
    have hHeld := hHeld2
    clear hHeld2
    refine' wpAnyT_one (i := 10) (o := ?oic103) (by kernel_rfl) ?hic103 (fun K hK => ?stc103)
    case hic103 => (simp only [List.getElem?_toArray, List.getElem?_cons_zero, List.getElem?_cons_succ]; rfl)
    go_simp
    go_at_call 33
    refine (HCP.out wa u (by omega) (HB3.out.trans (hbka.mono HB3.out.size))).mono ?_
    rintro e wb ⟨vb, vs2, rfl, hob, hcb, hpb, hbb⟩
    obtain ⟨bA, bc, rfl⟩ := own_form32 hob
    obtain ⟨n3, hn3⟩ : ∃ n3, vs2.length = n3 := ⟨_, rfl⟩
    rw [hn3] at hob ⊢
    have hbkb := hbka.trans (hbb.mono hbka.size)
    have hHeld2 := HK.out wb hbkb
    go_simp
    refine hK.out _ _ (fun _ => hHeld2) ?_
    clear hK K
    (try simp only [Act.put, List.setIfInBounds_toArray, List.set_cons_zero, List.set_cons_succ])
    clear hHeld hHeld2
    have hyb := (hbkb.block _ (box_lt HY3.out)).trans HY3.out
    have y0 := cell_of_row _ _ 0 _ _ _ hyb
    have y1 := cell_of_row _ _ 1 _ _ _ hyb
    have fy0 := box_fr hyb 0
    have fy1 := box_fr hyb 1
    refine' wpAnyT_one (i := 11) (o := ?oic113) (by kernel_rfl) ?hic113 (fun K hK => ?stc113)
    case hic113 => (simp only [List.getElem?_toArray, List.getElem?_cons_zero, List.getElem?_cons_succ]; rfl)
    go_simp
    refine hK.out _ _ (fun h => absurd h (by decide)) ?_
    clear hK K
    (try simp only [Act.put, List.setIfInBounds_toArray, List.set_cons_zero, List.set_cons_succ])
    refine' wpAnyT_one (i := 12) (o := ?oic123) (by kernel_rfl) ?hic123 (fun K hK => ?stc123)
    case hic123 => (simp only [List.getElem?_toArray, List.getElem?_cons_zero, List.getElem?_cons_succ]; rfl)
    go_simp
    refine hK.out _ _ (fun h => absurd h (by decide)) ?_
    clear hK K
    (try simp only [Act.put, List.setIfInBounds_toArray, List.set_cons_zero, List.set_cons_succ])
    refine wpAnyT_done (by kernel_rfl) ?_ _
    go_wp2_with fail
    have hX0 := hB0.size
    have hws : w.heap.size ≤ w3.heap.size := HB3.out.size
    have howa := own_base (B' := w.heap.size) (own_keep hoa (keep_below hbb)) (by omega)
    have howb := own_base (B' := w.heap.size) hob (by have := hbka.size; omega)
    have hna : ∀ k, (Value.slice vA n2 vc).ownBlock = some k → k ≠ g + 1 := own_ne (own_keep hoa (keep_below hbb)) hyb (by decide)
    have hnb : ∀ k, (Value.slice bA n3 bc).ownBlock = some k → k ≠ g + 1 := own_ne hob hyb (by decide)
    have hkeep : Keep 5 wb (set2 wb (g + 1) (.slice vA n2 vc) (.int .i64 next)) := fun k cs hk => (set2o _ _ (fun e => by rw [e, hyb] at hk; cases hk)).trans hk
    rw [HDN.out]
    refine bodyPost_ret (results_v_tmp rfl _ _ (g + 1) _ rfl (lv24 (set2h _ _ hyb)) _ rfl) rfl ?_
    refine ⟨_, _, vs2, rfl, ⟨_, vs, rfl, by rw [hn2]; exact set2r _ _ howa hna, ?_, fun x hx => ((hpa x hx).keep (keep_below hbb)).keep hkeep, set2b _ _ (HB3.out.trans (hbkb.mono HB3.out.size)) (by rw [HG.out]; omega)⟩, by rw [hn3]; exact set2r _ _ howb hnb, by rw [hcb, List.map_take], fun x hx => (hpb x hx).keep hkeep⟩
    rw [hca, List.map_take, List.map_drop]
    rw [List.take_of_length_le (by rw [List.length_drop, List.length_map, HN.out]; omega)]
  · have d1 : (ck == 0) = false := by rw [beq_eq_false_iff_ne]; exact hc0
    have HDN : Hid (dueN (l.map core) next t = 0) := hid (by unfold dueN; rw [if_neg (by rw [HCE.out]; exact hc0)])
    clear hc0
    go_wp2_with fail
    have hsl := HSL.out 0 (by omega)
    have hK : ∀ X, Below w2.heap.size w2 X → X.cell? ⟨g, 0, none⟩ = some (.slice A N c) ∧ X.cell? ⟨g, 1, none⟩ = some (.int .i64 next) := fun X hX => ⟨(hX.cell (p := ⟨g, 0, none⟩) (box_lt HX2.out)).trans x0, (hX.cell (p := ⟨g, 1, none⟩) (box_lt HX2.out)).trans x1⟩
    have HK := hid hK
    clear hK
    refine region_tail 11 (fun X => X.cell? ⟨g, 0, none⟩ = some (.slice A N c) ∧ X.cell? ⟨g, 1, none⟩ = some (.int .i64 next)) (by kernel_rfl) ?_
    obtain ⟨X0, hX0⟩ : ∃ X, w2.drew = X := ⟨_, rfl⟩
    have hB0 : Below w2.heap.size w2 X0 := by rw [← hX0]; exact (Below.refl w2.heap.size w2).drew
    have hHeld := HK.out X0 hB0
    rw [hX0]
    clear hX0
    refine' wpAnyT_take (i := 0) (oi := ?oia20) (v := ?va20) ?hia20 (by kernel_rfl) (by kernel_rfl) ?hqa20 ?hya20 hHeld ?resta20
    case hia20 => (simp only [List.getElem?_toArray, List.getElem?_cons_zero]; rfl)
    case hqa20 => exact fun _ _ _ h => h
    case hya20 => (refine Or.inl ⟨by rfl, ?_⟩; intro w' hSw; (try dsimp only at hSw); go_simp; try with_reducible rfl)
    (try simp only [Act.put, List.setIfInBounds_toArray, List.set_cons_zero, List.set_cons_succ])
    refine' wpAnyT_take (i := 1) (oi := ?oia21) (v := ?va21) ?hia21 (by kernel_rfl) (by kernel_rfl) ?hqa21 ?hya21 hHeld ?resta21
    case hia21 => (simp only [List.getElem?_toArray, List.getElem?_cons_zero, List.getElem?_cons_succ]; rfl)
    case hqa21 => exact fun _ _ _ h => h
    case hya21 => (refine Or.inl ⟨by rfl, ?_⟩; intro w' hSw; (try dsimp only at hSw); go_simp; try with_reducible rfl)
    (try simp only [Act.put, List.setIfInBounds_toArray, List.set_cons_zero, List.set_cons_succ])
    refine' wpAnyT_take (i := 2) (oi := ?oia22) (v := ?va22) ?hia22 (by kernel_rfl) (by kernel_rfl) ?hqa22 ?hya22 hHeld ?resta22
    case hia22 => (simp only [List.getElem?_toArray, List.getElem?_cons_zero, List.getElem?_cons_succ]; rfl)
    case hqa22 => exact fun _ _ _ h => h
    case hya22 => (refine Or.inl ⟨by rfl, ?_⟩; intro w' hSw; (try dsimp only at hSw); go_simp; try with_reducible rfl)
    (try simp only [Act.put, List.setIfInBounds_toArray, List.set_cons_zero, List.set_cons_succ])
    refine' wpAnyT_take (i := 3) (oi := ?oia23) (v := ?va23) ?hia23 (by kernel_rfl) (by kernel_rfl) ?hqa23 ?hya23 hHeld ?resta23
    case hia23 => (simp only [List.getElem?_toArray, List.getElem?_cons_zero, List.getElem?_cons_succ]; rfl)
    case hqa23 => exact fun _ _ _ h => h
    case hya23 => (refine Or.inl ⟨by rfl, ?_⟩; intro w' hSw; (try dsimp only at hSw); go_simp; try with_reducible rfl)
    (try simp only [Act.put, List.setIfInBounds_toArray, List.set_cons_zero, List.set_cons_succ])
    refine' wpAnyT_take (i := 4) (oi := ?oia24) (v := ?va24) ?hia24 (by kernel_rfl) (by kernel_rfl) ?hqa24 ?hya24 hHeld ?resta24
    case hia24 => (simp only [List.getElem?_toArray, List.getElem?_cons_zero, List.getElem?_cons_succ]; rfl)
    case hqa24 => exact fun _ _ _ h => h
    case hya24 => (refine Or.inl ⟨by rfl, ?_⟩; intro w' hSw; (try dsimp only at hSw); go_simp; try with_reducible rfl)
    (try simp only [Act.put, List.setIfInBounds_toArray, List.set_cons_zero, List.set_cons_succ])
    refine' wpAnyT_take (i := 6) (oi := ?oia26) (v := ?va26) ?hia26 (by kernel_rfl) (by kernel_rfl) ?hqa26 ?hya26 hHeld ?resta26
    case hia26 => (simp only [List.getElem?_toArray, List.getElem?_cons_zero, List.getElem?_cons_succ]; rfl)
    case hqa26 => exact fun _ _ _ h => h
    case hya26 => (refine Or.inl ⟨by rfl, ?_⟩; intro w' hSw; (try dsimp only at hSw); go_simp; try with_reducible rfl)
    (try simp only [Act.put, List.setIfInBounds_toArray, List.set_cons_zero, List.set_cons_succ])
    refine' wpAnyT_take (i := 7) (oi := ?oia27) (v := ?va27) ?hia27 (by kernel_rfl) (by kernel_rfl) ?hqa27 ?hya27 hHeld ?resta27
    case hia27 => (simp only [List.getElem?_toArray, List.getElem?_cons_zero, List.getElem?_cons_succ]; rfl)
    case hqa27 => exact fun _ _ _ h => h
    case hya27 => (refine Or.inl ⟨by rfl, ?_⟩; intro w' hSw; (try dsimp only at hSw); go_simp; try with_reducible rfl)
    (try simp only [Act.put, List.setIfInBounds_toArray, List.set_cons_zero, List.set_cons_succ])
    refine' wpAnyT_take (i := 8) (oi := ?oia28) (v := ?va28) ?hia28 (by kernel_rfl) (by kernel_rfl) ?hqa28 ?hya28 hHeld ?resta28
    case hia28 => (simp only [List.getElem?_toArray, List.getElem?_cons_zero, List.getElem?_cons_succ]; rfl)
    case hqa28 => exact fun _ _ _ h => h
    case hya28 => (refine Or.inl ⟨by rfl, ?_⟩; intro w' hSw; (try dsimp only at hSw); go_simp; try with_reducible rfl)
    (try simp only [Act.put, List.setIfInBounds_toArray, List.set_cons_zero, List.set_cons_succ])
    refine' wpAnyT_take (i := 9) (oi := ?oia29) (v := ?va29) ?hia29 (by kernel_rfl) (by kernel_rfl) ?hqa29 ?hya29 hHeld ?resta29
    case hia29 => (simp only [List.getElem?_toArray, List.getElem?_cons_zero, List.getElem?_cons_succ]; rfl)
    case hqa29 => exact fun _ _ _ h => h
    case hya29 => (refine Or.inl ⟨by rfl, ?_⟩; intro w' hSw; (try dsimp only at hSw); go_simp; try with_reducible rfl)
    (try simp only [Act.put, List.setIfInBounds_toArray, List.set_cons_zero, List.set_cons_succ])
    refine' wpAnyT_one (i := 5) (o := ?oic52) (by kernel_rfl) ?hic52 (fun K hK => ?stc52)
    case hic52 => (simp only [List.getElem?_toArray, List.getElem?_cons_zero, List.getElem?_cons_succ]; rfl)
    go_simp
    go_at_call 37
    refine (HPT.out X0 0 (by omega) (HB2.out.trans (hB0.mono HB2.out.size))).mono ?_
    rintro e wa ⟨qa, rfl, va, vs, rfl, hoa, hca, hpa, hba⟩
    obtain ⟨vA, vc, rfl⟩ := own_form32 hoa
    obtain ⟨n2, hn2⟩ : ∃ n2, vs.length = n2 := ⟨_, rfl⟩
    rw [hn2] at hoa ⊢
    have hbka := hB0.trans (hba.mono hB0.size)
    have hHeld2 := HK.out wa hbka
    go_simp
    refine hK.out _ _ (fun _ => hHeld2) ?_
    clear hK K
    (try simp only [Act.put, List.setIfInBounds_toArray, List.set_cons_zero, List.set_cons_succ])
    clear hHeld
    have hHeld := hHeld2
    clear hHeld2
    refine' wpAnyT_one (i := 10) (o := ?oic102) (by kernel_rfl) ?hic102 (fun K hK => ?stc102)
    case hic102 => (simp only [List.getElem?_toArray, List.getElem?_cons_zero, List.getElem?_cons_succ]; rfl)
    go_simp
    go_at_call 33
    refine (HCP.out wa 0 (by omega) (HB2.out.trans (hbka.mono HB2.out.size))).mono ?_
    rintro e wb ⟨vb, vs2, rfl, hob, hcb, hpb, hbb⟩
    obtain ⟨bA, bc, rfl⟩ := own_form32 hob
    obtain ⟨n3, hn3⟩ : ∃ n3, vs2.length = n3 := ⟨_, rfl⟩
    rw [hn3] at hob ⊢
    have hbkb := hbka.trans (hbb.mono hbka.size)
    have hHeld2 := HK.out wb hbkb
    go_simp
    refine hK.out _ _ (fun _ => hHeld2) ?_
    clear hK K
    (try simp only [Act.put, List.setIfInBounds_toArray, List.set_cons_zero, List.set_cons_succ])
    clear hHeld hHeld2
    have hyb := (hbkb.block _ (box_lt HY2.out)).trans HY2.out
    have y0 := cell_of_row _ _ 0 _ _ _ hyb
    have y1 := cell_of_row _ _ 1 _ _ _ hyb
    have fy0 := box_fr hyb 0
    have fy1 := box_fr hyb 1
    refine' wpAnyT_one (i := 11) (o := ?oic112) (by kernel_rfl) ?hic112 (fun K hK => ?stc112)
    case hic112 => (simp only [List.getElem?_toArray, List.getElem?_cons_zero, List.getElem?_cons_succ]; rfl)
    go_simp
    refine hK.out _ _ (fun h => absurd h (by decide)) ?_
    clear hK K
    (try simp only [Act.put, List.setIfInBounds_toArray, List.set_cons_zero, List.set_cons_succ])
    refine' wpAnyT_one (i := 12) (o := ?oic122) (by kernel_rfl) ?hic122 (fun K hK => ?stc122)
    case hic122 => (simp only [List.getElem?_toArray, List.getElem?_cons_zero, List.getElem?_cons_succ]; rfl)
    go_simp
    refine hK.out _ _ (fun h => absurd h (by decide)) ?_
    clear hK K
    (try simp only [Act.put, List.setIfInBounds_toArray, List.set_cons_zero, List.set_cons_succ])
    refine wpAnyT_done (by kernel_rfl) ?_ _
    go_wp2_with fail
    have hX0 := hB0.size
    have hws : w.heap.size ≤ w2.heap.size := HB2.out.size
    have howa := own_base (B' := w.heap.size) (own_keep hoa (keep_below hbb)) (by omega)
    have howb := own_base (B' := w.heap.size) hob (by have := hbka.size; omega)
    have hna : ∀ k, (Value.slice vA n2 vc).ownBlock = some k → k ≠ g + 1 := own_ne (own_keep hoa (keep_below hbb)) hyb (by decide)
    have hnb : ∀ k, (Value.slice bA n3 bc).ownBlock = some k → k ≠ g + 1 := own_ne hob hyb (by decide)
    have hkeep : Keep 5 wb (set2 wb (g + 1) (.slice vA n2 vc) (.int .i64 next)) := fun k cs hk => (set2o _ _ (fun e => by rw [e, hyb] at hk; cases hk)).trans hk
    rw [HDN.out]
    refine bodyPost_ret (results_v_tmp rfl _ _ (g + 1) _ rfl (lv24 (set2h _ _ hyb)) _ rfl) rfl ?_
    refine ⟨_, _, vs2, rfl, ⟨_, vs, rfl, by rw [hn2]; exact set2r _ _ howa hna, ?_, fun x hx => ((hpa x hx).keep (keep_below hbb)).keep hkeep, set2b _ _ (HB2.out.trans (hbkb.mono HB2.out.size)) (by rw [HG.out]; omega)⟩, by rw [hn3]; exact set2r _ _ howb hnb, by rw [hcb, List.map_take], fun x hx => (hpb x hx).keep hkeep⟩
    rw [hca, List.map_take, List.map_drop]
    rw [List.take_of_length_le (by rw [List.length_drop, List.length_map, HN.out]; omega)]
end Go.Proofs.Ytjpfogdfgcfkcaa
