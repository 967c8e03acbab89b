/- Copy of the reference. -/
import Derived.Test.YtacpejoablcffaaEc
namespace Go.Proofs.Ytacpejoablcffaa
open Go.RowKit Go.Lib

theorem keep_box {W : World} {g : Nat} {T E : TypeId} {cs : Array Value} (h : W.heap[g]? = some (.cells cs E)) (hT : T ≠ E) (i : Nat) (v : Value) : Keep T W (W.setCell ⟨g, i, none⟩ v) := fun k cs' hk => (Below.heap_setCell _ _ _ _ (show k ≠ g from fun e => by
  rw [e, h] at hk
  cases hk
  exact hT rfl)).trans hk
set_option maxHeartbeats 8000000 in
set_option maxRecDepth 100000 in
theorem refCopy_any (s : Lk) (l : List Fl) (v : Value) (w : World) (hv : FL w v l) (hl : l.length ≤ 100000) (hpl : ∀ x ∈ l, x.p.length ≤ 100000) :
    Calls Try.prog 45 #[vLk s v] w (LinkQ w (s, l.map core)) := by
  obtain ⟨A, c, rfl⟩ := fl_form hv
  obtain ⟨N, hN⟩ : ∃ N, l.length = N := ⟨_, rfl⟩
  rw [hN] at hv hl ⊢
  obtain ⟨mn, mx, rt, dn, idle, next⟩ := s
  unfold vLk
  dsimp only
  obtain ⟨g, hg⟩ : ∃ g, w.heap.size = g := ⟨_, rfl⟩
  obtain ⟨W1, hW1⟩ : ∃ X, (w.alloc (.cells #[.int .i64 mn, .int .i64 mx, .int .i64 rt, .bool dn, .int .i64 idle, .int .i64 next, .slice A N c] 26)).alloc (.cells #[.int .i64 0, .int .i64 0, .int .i64 0, .bool false, .int .i64 0, .int .i64 0, .slice none 0 0] 26) = X := ⟨_, rfl⟩
  have hb1 : Below w.heap.size w W1 := by rw [← hW1]; exact ((Below.refl _ w).alloc (Nat.le_refl _) _).alloc (by simp) _
  have hx1 : W1.heap[g]? = some (.cells #[.int .i64 mn, .int .i64 mx, .int .i64 rt, .bool dn, .int .i64 idle, .int .i64 next, .slice A N c] 26) := by rw [← hW1, ← hg]; exact (Below.heap_alloc _ _ _ (by simp)).trans (heap_alloc_new w _)
  have hy1 : W1.heap[g + 1]? = some (.cells #[.int .i64 0, .int .i64 0, .int .i64 0, .bool false, .int .i64 0, .int .i64 0, .slice none 0 0] 26) := by rw [← hW1, ← hg]; simpa using heap_alloc_new (w.alloc (.cells #[.int .i64 mn, .int .i64 mx, .int .i64 rt, .bool dn, .int .i64 idle, .int .i64 next, .slice A N c] 26)) (.cells #[.int .i64 0, .int .i64 0, .int .i64 0, .bool false, .int .i64 0, .int .i64 0, .slice none 0 0] 26)
  obtain ⟨B, hB⟩ : ∃ B, W1.heap.size = B := ⟨_, rfl⟩
  have hgB : g + 1 < B := by rw [← hB]; exact box_lt hy1
  have hwB : w.heap.size ≤ B := by rw [← hB]; exact hb1.size
  have HV := hid (hv.below hb1)
  have HN := hid hN
  have HB1 := hid hb1
  have HX1 := hid hx1
  have HY1 := hid hy1
  have HW1 := hid hW1
  have HG := hid hg
  have HPL := hid hpl
  have HBB := hid hB
  have hgw : w.heap.size ≤ g := Nat.le_of_eq hg
  clear hv hN hb1 hx1 hy1 hW1 hg hpl hB
  go_enter Try.func45, Try.ntmps45
  go_upto_region 3 with fail
  rw [HW1.out, HG.out]
  go_loopw [3, 4] (fun fv iv wr => ∃ (k : Nat) (vs : List Fl), k ≤ N ∧ iv = .int .i64 (k : Int) ∧ Hid (vs.length = k) ∧ Hid (vs.map core = (l.map core).take k) ∧ Hid (wr.ownsRow B 69 3 fv k (vs.map cFl).flatten) ∧ Hid (∀ x ∈ vs, Pay wr x) ∧ Hid (Below B W1 wr)) (fun _ i _ => N - (Lib.intOf i).toNat)
  case atStart => exact ⟨0, [], Nat.zero_le _, rfl, hid rfl, hid rfl, hid (World.ownsRow_nil _ _ _ _), hid (fun x hx => by cases hx), hid (Below.refl _ _)⟩
  case round =>
    obtain ⟨k, vs, hk, rfl, HL, HC, HO, HP, HB⟩ := hrel
    obtain ⟨fA, fc, rfl⟩ := own_form69 HO.out
    have hx6 := (HB.out.block g (by omega)).trans HX1.out
    have HX6 := hid hx6
    have HBs : Hid (B ≤ wr.heap.size) := hid (by rw [← HBB.out]; exact (HBB.out ▸ HB.out).size)
    by_cases hkn : k < N
    · have hkn' : (k : Int) < (N : Int) := by omega
      have HVr : Hid (FL wr (.slice A N c) l) := hid (HV.out.below (by rw [HBB.out]; exact HB.out))
      obtain ⟨b, off, rfl, hbl, hc⟩ := fl_cells HV.out (by rw [HN.out]; omega)
      rw [HBB.out] at hbl
      obtain ⟨x, hx⟩ : ∃ x, l[k]? = some x := ⟨l[k]'(by rw [HN.out]; exact hkn), List.getElem?_eq_getElem _⟩
      obtain ⟨q0, q1, q2⟩ := hc k x hx
      obtain ⟨hxb, hxn⟩ := HVr.out.1 x (List.mem_of_getElem? hx)
      have HTK := hid (show (l.map core).take (k + 1) = (l.map core).take k ++ [core x] from take_succ'' (by rw [List.getElem?_map, hx]; rfl))
      have hxp := HPL.out x (List.mem_of_getElem? hx)
      clear hc hx
      obtain ⟨xt, xn, xd, xp⟩ := x
      dsimp only at q0 q1 q2 hxb hxn hxp
      obtain ⟨xA, xc, rfl⟩ := byt_form hxb
      obtain ⟨xm, hxm⟩ : ∃ xm, xp.length = xm := ⟨_, rfl⟩
      rw [hxm] at q2 hxb hxn hxp HTK
      have HCO := hid (fun (X : World) (hX : Below wr.heap.size wr X) => copied_any xp _ X (hxb.below hX) hxn (by omega))
      have HXM := hid hxm
      have H8 := hid hxb.1
      have hx1 := HX1.out
      have HK := hid (fun (X : World) (hX : Below B W1 X) => (show X.cell? ⟨g, 6, none⟩ = some (.slice (some ⟨b, off, none⟩) N c) ∧ X.cell? ⟨b, off + k * 3, none⟩ = some (.int .i64 xt) ∧ X.cell? ⟨b, off + k * 3 + 1, none⟩ = some (.int .i64 xn) ∧ X.cell? ⟨b, off + k * 3 + 2, none⟩ = some (.slice xA xm xc) from ⟨cell_of_row _ _ 6 _ _ _ ((hX.block _ (show g < B by omega)).trans hx1), (hX.cell (p := ⟨b, off + k * 3, none⟩) hbl).trans q0, (hX.cell (p := ⟨b, off + k * 3 + 1, none⟩) hbl).trans q1, (hX.cell (p := ⟨b, off + k * 3 + 2, none⟩) hbl).trans q2⟩))
      have x6 := cell_of_row _ _ 6 _ _ _ hx6
      clear hxb hxn hxm hxp q0 q1 q2 hx6 hx1
      go_upto_region 5 with fail
      clear x6
      obtain ⟨X0, hX0⟩ : ∃ X, wr.drew = X := ⟨_, rfl⟩
      have hB0 : Below wr.heap.size wr X0 := by rw [← hX0]; exact (Below.refl wr.heap.size wr).drew
      have hHeld := HK.out X0 (HB.out.trans (hB0.mono HBs.out))
      refine region_tail 23 (fun X => X.cell? ⟨g, 6, none⟩ = some (.slice (some ⟨b, off, none⟩) N c) ∧ X.cell? ⟨b, off + k * 3, none⟩ = some (.int .i64 xt) ∧ X.cell? ⟨b, off + k * 3 + 1, none⟩ = some (.int .i64 xn) ∧ X.cell? ⟨b, off + k * 3 + 2, none⟩ = some (.slice xA xm xc)) (by kernel_rfl) ?_
      rw [hX0]
      clear hX0
      refine' wpAnyT_take (i := 0) (oi := ?oia0) (v := ?va0) ?hia0 (by kernel_rfl) (by kernel_rfl) ?hqa0 ?hya0 hHeld ?resta0
      case hia0 => (simp only [List.getElem?_toArray, List.getElem?_cons_zero]; rfl)
      case hqa0 => exact fun _ _ _ h => h
      case hya0 => (refine Or.inl ⟨by rfl, ?_⟩; intro w' hSw; (try dsimp only at hSw); go_simp; try with_reducible rfl)
      (try simp only [Act.put, List.setIfInBounds_toArray, List.set_cons_zero, List.set_cons_succ])
      refine' wpAnyT_take (i := 1) (oi := ?oia1) (v := ?va1) ?hia1 (by kernel_rfl) (by kernel_rfl) ?hqa1 ?hya1 hHeld ?resta1
      case hia1 => (simp only [List.getElem?_toArray, List.getElem?_cons_zero, List.getElem?_cons_succ]; rfl)
      case hqa1 => exact fun _ _ _ h => h
      case hya1 => (refine Or.inl ⟨by rfl, ?_⟩; intro w' hSw; (try dsimp only at hSw); go_simp; try with_reducible rfl)
      (try simp only [Act.put, List.setIfInBounds_toArray, List.set_cons_zero, List.set_cons_succ])
      refine' wpAnyT_take (i := 2) (oi := ?oia2) (v := ?va2) ?hia2 (by kernel_rfl) (by kernel_rfl) ?hqa2 ?hya2 hHeld ?resta2
      case hia2 => (simp only [List.getElem?_toArray, List.getElem?_cons_zero, List.getElem?_cons_succ]; rfl)
      case hqa2 => exact fun _ _ _ h => h
      case hya2 => (refine Or.inl ⟨by rfl, ?_⟩; intro w' hSw; (try dsimp only at hSw); go_simp; try with_reducible rfl)
      (try simp only [Act.put, List.setIfInBounds_toArray, List.set_cons_zero, List.set_cons_succ])
      refine' wpAnyT_take (i := 3) (oi := ?oia3) (v := ?va3) ?hia3 (by kernel_rfl) (by kernel_rfl) ?hqa3 ?hya3 hHeld ?resta3
      case hia3 => (simp only [List.getElem?_toArray, List.getElem?_cons_zero, List.getElem?_cons_succ]; rfl)
      case hqa3 => exact fun _ _ _ h => h
      case hya3 => (refine Or.inl ⟨by rfl, ?_⟩; intro w' hSw; (try dsimp only at hSw); go_simp; try with_reducible rfl)
      (try simp only [Act.put, List.setIfInBounds_toArray, List.set_cons_zero, List.set_cons_succ])
      refine' wpAnyT_take (i := 4) (oi := ?oia4) (v := ?va4) ?hia4 (by kernel_rfl) (by kernel_rfl) ?hqa4 ?hya4 hHeld ?resta4
      case hia4 => (simp only [List.getElem?_toArray, List.getElem?_cons_zero, List.getElem?_cons_succ]; rfl)
      case hqa4 => exact fun _ _ _ h => h
      case hya4 => (refine Or.inl ⟨by rfl, ?_⟩; intro w' hSw; (try dsimp only at hSw); go_simp; try with_reducible rfl)
      (try simp only [Act.put, List.setIfInBounds_toArray, List.set_cons_zero, List.set_cons_succ])
      refine' wpAnyT_take (i := 5) (oi := ?oia5) (v := ?va5) ?hia5 (by kernel_rfl) (by kernel_rfl) ?hqa5 ?hya5 hHeld ?resta5
      case hia5 => (simp only [List.getElem?_toArray, List.getElem?_cons_zero, List.getElem?_cons_succ]; rfl)
      case hqa5 => exact fun _ _ _ h => h
      case hya5 => (refine Or.inl ⟨by rfl, ?_⟩; intro w' hSw; (try dsimp only at hSw); go_simp; try with_reducible rfl)
      (try simp only [Act.put, List.setIfInBounds_toArray, List.set_cons_zero, List.set_cons_succ])
      refine' wpAnyT_take (i := 6) (oi := ?oia6) (v := ?va6) ?hia6 (by kernel_rfl) (by kernel_rfl) ?hqa6 ?hya6 hHeld ?resta6
      case hia6 => (simp only [List.getElem?_toArray, List.getElem?_cons_zero, List.getElem?_cons_succ]; rfl)
      case hqa6 => exact fun _ _ _ h => h
      case hya6 => (refine Or.inl ⟨by rfl, ?_⟩; intro w' hSw; (try dsimp only at hSw); go_simp; try with_reducible rfl)
      (try simp only [Act.put, List.setIfInBounds_toArray, List.set_cons_zero, List.set_cons_succ])
      refine' wpAnyT_take (i := 7) (oi := ?oia7) (v := ?va7) ?hia7 (by kernel_rfl) (by kernel_rfl) ?hqa7 ?hya7 hHeld ?resta7
      case hia7 => (simp only [List.getElem?_toArray, List.getElem?_cons_zero, List.getElem?_cons_succ]; rfl)
      case hqa7 => exact fun _ _ _ h => h
      case hya7 => (refine Or.inl ⟨by rfl, ?_⟩; intro w' hSw; (try dsimp only at hSw); go_simp; try with_reducible rfl)
      (try simp only [Act.put, List.setIfInBounds_toArray, List.set_cons_zero, List.set_cons_succ])
      refine' wpAnyT_take (i := 8) (oi := ?oia8) (v := ?va8) ?hia8 (by kernel_rfl) (by kernel_rfl) ?hqa8 ?hya8 hHeld ?resta8
      case hia8 => (simp only [List.getElem?_toArray, List.getElem?_cons_zero, List.getElem?_cons_succ]; rfl)
      case hqa8 => exact fun _ _ _ h => h
      case hya8 => (refine Or.inl ⟨by rfl, ?_⟩; intro w' hSw; (try dsimp only at hSw); go_simp; try with_reducible rfl)
      (try simp only [Act.put, List.setIfInBounds_toArray, List.set_cons_zero, List.set_cons_succ])
      refine' wpAnyT_take (i := 9) (oi := ?oia9) (v := ?va9) ?hia9 (by kernel_rfl) (by kernel_rfl) ?hqa9 ?hya9 hHeld ?resta9
      case hia9 => (simp only [List.getElem?_toArray, List.getElem?_cons_zero, List.getElem?_cons_succ]; rfl)
      case hqa9 => exact fun _ _ _ h => h
      case hya9 => (refine Or.inl ⟨by rfl, ?_⟩; intro w' hSw; (try dsimp only at hSw); go_simp; try with_reducible rfl)
      (try simp only [Act.put, List.setIfInBounds_toArray, List.set_cons_zero, List.set_cons_succ])
      refine' wpAnyT_take (i := 10) (oi := ?oia10) (v := ?va10) ?hia10 (by kernel_rfl) (by kernel_rfl) ?hqa10 ?hya10 hHeld ?resta10
      case hia10 => (simp only [List.getElem?_toArray, List.getElem?_cons_zero, List.getElem?_cons_succ]; rfl)
      case hqa10 => exact fun _ _ _ h => h
      case hya10 => (refine Or.inl ⟨by rfl, ?_⟩; intro w' hSw; (try dsimp only at hSw); go_simp; try with_reducible rfl)
      (try simp only [Act.put, List.setIfInBounds_toArray, List.set_cons_zero, List.set_cons_succ])
      refine' wpAnyT_take (i := 11) (oi := ?oia11) (v := ?va11) ?hia11 (by kernel_rfl) (by kernel_rfl) ?hqa11 ?hya11 hHeld ?resta11
      case hia11 => (simp only [List.getElem?_toArray, List.getElem?_cons_zero, List.getElem?_cons_succ]; rfl)
      case hqa11 => exact fun _ _ _ h => h
      case hya11 => (refine Or.inl ⟨by rfl, ?_⟩; intro w' hSw; (try dsimp only at hSw); go_simp; try with_reducible rfl)
      (try simp only [Act.put, List.setIfInBounds_toArray, List.set_cons_zero, List.set_cons_succ])
      refine' wpAnyT_take (i := 12) (oi := ?oia12) (v := ?va12) ?hia12 (by kernel_rfl) (by kernel_rfl) ?hqa12 ?hya12 hHeld ?resta12
      case hia12 => (simp only [List.getElem?_toArray, List.getElem?_cons_zero, List.getElem?_cons_succ]; rfl)
      case hqa12 => exact fun _ _ _ h => h
      case hya12 => (refine Or.inl ⟨by rfl, ?_⟩; intro w' hSw; (try dsimp only at hSw); go_simp; try with_reducible rfl)
      (try simp only [Act.put, List.setIfInBounds_toArray, List.set_cons_zero, List.set_cons_succ])
      refine' wpAnyT_take (i := 13) (oi := ?oia13) (v := ?va13) ?hia13 (by kernel_rfl) (by kernel_rfl) ?hqa13 ?hya13 hHeld ?resta13
      case hia13 => (simp only [List.getElem?_toArray, List.getElem?_cons_zero, List.getElem?_cons_succ]; rfl)
      case hqa13 => exact fun _ _ _ h => h
      case hya13 => (refine Or.inl ⟨by rfl, ?_⟩; intro w' hSw; (try dsimp only at hSw); go_simp; try with_reducible rfl)
      (try simp only [Act.put, List.setIfInBounds_toArray, List.set_cons_zero, List.set_cons_succ])
      refine' wpAnyT_take (i := 14) (oi := ?oia14) (v := ?va14) ?hia14 (by kernel_rfl) (by kernel_rfl) ?hqa14 ?hya14 hHeld ?resta14
      case hia14 => (simp only [List.getElem?_toArray, List.getElem?_cons_zero, List.getElem?_cons_succ]; rfl)
      case hqa14 => exact fun _ _ _ h => h
      case hya14 => (refine Or.inl ⟨by rfl, ?_⟩; intro w' hSw; (try dsimp only at hSw); go_simp; try with_reducible rfl)
      (try simp only [Act.put, List.setIfInBounds_toArray, List.set_cons_zero, List.set_cons_succ])
      refine' wpAnyT_take (i := 15) (oi := ?oia15) (v := ?va15) ?hia15 (by kernel_rfl) (by kernel_rfl) ?hqa15 ?hya15 hHeld ?resta15
      case hia15 => (simp only [List.getElem?_toArray, List.getElem?_cons_zero, List.getElem?_cons_succ]; rfl)
      case hqa15 => exact fun _ _ _ h => h
      case hya15 => (refine Or.inl ⟨by rfl, ?_⟩; intro w' hSw; (try dsimp only at hSw); go_simp; try with_reducible rfl)
      (try simp only [Act.put, List.setIfInBounds_toArray, List.set_cons_zero, List.set_cons_succ])
      refine' wpAnyT_take (i := 16) (oi := ?oia16) (v := ?va16) ?hia16 (by kernel_rfl) (by kernel_rfl) ?hqa16 ?hya16 hHeld ?resta16
      case hia16 => (simp only [List.getElem?_toArray, List.getElem?_cons_zero, List.getElem?_cons_succ]; rfl)
      case hqa16 => exact fun _ _ _ h => h
      case hya16 => (refine Or.inl ⟨by rfl, ?_⟩; intro w' hSw; (try dsimp only at hSw); go_simp; try with_reducible rfl)
      (try simp only [Act.put, List.setIfInBounds_toArray, List.set_cons_zero, List.set_cons_succ])
      refine' wpAnyT_take (i := 17) (oi := ?oia17) (v := ?va17) ?hia17 (by kernel_rfl) (by kernel_rfl) ?hqa17 ?hya17 hHeld ?resta17
      case hia17 => (simp only [List.getElem?_toArray, List.getElem?_cons_zero, List.getElem?_cons_succ]; rfl)
      case hqa17 => exact fun _ _ _ h => h
      case hya17 => (refine Or.inl ⟨by rfl, ?_⟩; intro w' hSw; (try dsimp only at hSw); go_simp; try with_reducible rfl)
      (try simp only [Act.put, List.setIfInBounds_toArray, List.set_cons_zero, List.set_cons_succ])
      refine' wpAnyT_take (i := 18) (oi := ?oia18) (v := ?va18) ?hia18 (by kernel_rfl) (by kernel_rfl) ?hqa18 ?hya18 hHeld ?resta18
      case hia18 => (simp only [List.getElem?_toArray, List.getElem?_cons_zero, List.getElem?_cons_succ]; rfl)
      case hqa18 => exact fun _ _ _ h => h
      case hya18 => (refine Or.inl ⟨by rfl, ?_⟩; intro w' hSw; (try dsimp only at hSw); go_simp; try with_reducible rfl)
      (try simp only [Act.put, List.setIfInBounds_toArray, List.set_cons_zero, List.set_cons_succ])
      refine' wpAnyT_one (i := 19) (o := ?oia19) (by kernel_rfl) ?hia19 (fun K hK => ?sta19)
      case hia19 => (simp only [List.getElem?_toArray, List.getElem?_cons_zero, List.getElem?_cons_succ]; rfl)
      go_simp
      go_at_call 48
      refine (HCO.out X0 hB0).mono ?_
      rintro e X1 ⟨cv, rfl, hco, hbc⟩
      obtain ⟨cA, cc, rfl⟩ := own_form hco
      rw [HXM.out] at hco ⊢
      have hB1 : Below wr.heap.size wr X1 := hB0.trans (hbc.mono hB0.size)
      have HCV := hid hco
      clear hbc hHeld hco
      have hHeld := HK.out X1 (HB.out.trans (hB1.mono HBs.out))
      refine hK.out _ _ (fun _ => hHeld) ?_
      clear hK K
      (try simp only [Act.put, List.setIfInBounds_toArray, List.set_cons_zero, List.set_cons_succ])
      refine' wpAnyT_take (i := 20) (oi := ?oia20) (v := ?va20) ?hia20 (by kernel_rfl) (by kernel_rfl) ?hqa20 ?hya20 hHeld ?resta20
      case hia20 => (simp only [List.getElem?_toArray, List.getElem?_cons_zero, List.getElem?_cons_succ]; rfl)
      case hqa20 => exact fun _ _ _ h => h
      case hya20 => (refine Or.inl ⟨by rfl, ?_⟩; intro w' hSw; (try dsimp only at hSw); go_simp; try with_reducible rfl)
      (try simp only [Act.put, List.setIfInBounds_toArray, List.set_cons_zero, List.set_cons_succ])
      refine' wpAnyT_one (i := 21) (o := ?oia21) (by kernel_rfl) ?hia21 (fun K hK => ?sta21)
      case hia21 => (simp only [List.getElem?_toArray, List.getElem?_cons_zero, List.getElem?_cons_succ]; rfl)
      go_simp
      obtain ⟨X2, hX2⟩ : ∃ X, X1.alloc (.cells #[.int .i64 xt, .int .i64 xn, .slice cA xm cc] 69) = X := ⟨_, rfl⟩
      obtain ⟨h, hh⟩ : ∃ h, X1.heap.size = h := ⟨_, rfl⟩
      have hb2 : Below X1.heap.size X1 X2 := by rw [← hX2]; exact al1 _ _
      have hcell := cell3 X1 (.int .i64 xt) (.int .i64 xn) (.slice cA xm cc) 69
      rw [hX2, hh] at hcell
      rw [hX2, hh]
      have hB2 : Below wr.heap.size wr X2 := hB1.trans (hb2.mono hB1.size)
      have HO2 := hid (own_keep HO.out (keep_below hB2))
      have HP2 := hid (fun x hx => (HP.out x hx).keep (keep_below hB2))
      have HCV2 := hid (own_keep HCV.out (keep_below hb2))
      have hbs : B ≤ X2.heap.size := Nat.le_trans HBs.out hB2.size
      clear hHeld hX2 hh hb2
      have hHeld := HK.out X2 (HB.out.trans (hB2.mono HBs.out))
      refine hK.out _ _ (fun _ => hHeld) ?_
      clear hK K
      (try simp only [Act.put, List.setIfInBounds_toArray, List.set_cons_zero, List.set_cons_succ])
      refine' wpAnyT_one (i := 22) (o := ?oia22) (by kernel_rfl) ?hia22 (fun K hK => ?sta22)
      case hia22 => (simp only [List.getElem?_toArray, List.getElem?_cons_zero, List.getElem?_cons_succ]; rfl)
      refine step_append_one rfl (.tmp 12) (.tmp 33) rfl B (.slice fA k fc) k _ (by simp [Act.eval]) HO2.out xt xn cA xm cc ⟨h, 0, none⟩ 1 (by simp [Act.eval]) hcell (by omega) hbs ?_
      intro v9 X3 ho9 hg9
      have hB3 : Below B wr X3 := below_ownE (hB2.mono HBs.out) HO2.out hg9 hbs (Nat.le_refl _)
      have HP3 := hid (fun x hx => (HP2.out x hx).keep (keep_grown (T := 5) HO2.out (by decide) hg9))
      have HCV3 := hid (own_keep HCV2.out (keep_grown (T := 5) HO2.out (by decide) hg9))
      obtain ⟨rA, rc, rfl⟩ := own_form69 ho9
      have HO3 := hid ho9
      clear hcell ho9 hg9 hHeld
      have hHeld := HK.out X3 (HB.out.trans hB3)
      refine hK.out _ _ (fun _ => hHeld) ?_
      clear hK K
      (try simp only [Act.put, List.setIfInBounds_toArray, List.set_cons_zero, List.set_cons_succ])
      refine' wpAnyT_one (i := 23) (o := ?oia23) (by kernel_rfl) ?hia23 (fun K hK => ?sta23)
      case hia23 => (simp only [List.getElem?_toArray, List.getElem?_cons_zero, List.getElem?_cons_succ]; rfl)
      go_simp
      refine hK.out _ _ (fun h => absurd h (by decide)) ?_
      clear hK K
      (try simp only [Act.put, List.setIfInBounds_toArray, List.set_cons_zero, List.set_cons_succ])
      refine wpAnyT_done (by kernel_rfl) ?_ _
      go_upto_region 4 with fail
      go_wp2_with fail
      go_roundw
      case rel => exact ⟨k + 1, vs ++ [⟨xt, xn, .slice cA xm cc, xp⟩], by omega, by go_num, hid (by rw [List.length_append, HL.out]; rfl), hid (by rw [List.map_append, HC.out, HTK.out]; rfl), hid (by rw [List.map_append, List.flatten_append]; exact HO3.out), hid (fun y hy => by
        rcases List.mem_append.1 hy with hy | hy
        · exact HP3.out y hy
        · rw [List.mem_singleton] at hy
          subst hy
          exact ⟨⟨_, by dsimp only; rw [HXM.out]; exact HCV3.out⟩, H8.out⟩), hid (HB.out.trans hB3)⟩
      case measure => simp [Lib.intOf]; omega
    · obtain rfl : N = k := by omega
      obtain ⟨M, hM⟩ : ∃ M, vs.length = M := ⟨_, rfl⟩
      have HBW : Hid (Below w.heap.size w wr) := hid (HB1.out.trans (HB.out.mono hwB))
      have hy6 := (HB.out.block (g + 1) hgB).trans HY1.out
      have f6 := box_fr HX6.out 6
      have x6 := cell_of_row _ _ 6 _ _ _ HX6.out
      obtain ⟨W4, hW4⟩ : ∃ X, wr.setCell ⟨g, 6, none⟩ (.slice fA N fc) = X := ⟨_, rfl⟩
      have HX4 : Hid (W4.heap[g]? = some (.cells #[.int .i64 mn, .int .i64 mx, .int .i64 rt, .bool dn, .int .i64 idle, .int .i64 next, .slice fA N fc] 26)) := hid (by
        rw [← hW4]
        exact box_set (cs := [.int .i64 mn, .int .i64 mx, .int .i64 rt, .bool dn, .int .i64 idle, .int .i64 next, .slice A N c]) HX6.out 6 _)
      have HY4 : Hid (W4.heap[g + 1]? = some (.cells #[.int .i64 0, .int .i64 0, .int .i64 0, .bool false, .int .i64 0, .int .i64 0, .slice none 0 0] 26)) := hid (by
        rw [← hW4]
        exact (Below.heap_setCell _ _ _ _ (show g + 1 ≠ g by omega)).trans hy6)
      have hk4 : ∀ T, T ≠ 26 → Keep T wr W4 := fun T hT => by
        rw [← hW4]
        exact keep_box HX6.out hT _ _
      have HO4 := hid (own_keep HO.out (hk4 69 (by decide)))
      have HP4 := hid (fun x hx => (HP.out x hx).keep (hk4 5 (by decide)))
      have HB4 : Hid (Below w.heap.size w W4) := hid (by rw [← hW4]; exact HBW.out.setCell hgw _)
      have HW4 := hid hW4
      clear hk4 hW4 hy6 hM
      go_upto_region 7 with fail
      rw [HW4.out]
      clear x6 f6
      have x0 := cell_of_row _ _ 0 _ _ _ HX4.out
      have x1 := cell_of_row _ _ 1 _ _ _ HX4.out
      have x2 := cell_of_row _ _ 2 _ _ _ HX4.out
      have x3 := cell_of_row _ _ 3 _ _ _ HX4.out
      have x4 := cell_of_row _ _ 4 _ _ _ HX4.out
      have x5 := cell_of_row _ _ 5 _ _ _ HX4.out
      have x6 := cell_of_row _ _ 6 _ _ _ HX4.out
      have y0 := cell_of_row _ _ 0 _ _ _ HY4.out
      have y1 := cell_of_row _ _ 1 _ _ _ HY4.out
      have y2 := cell_of_row _ _ 2 _ _ _ HY4.out
      have y3 := cell_of_row _ _ 3 _ _ _ HY4.out
      have y4 := cell_of_row _ _ 4 _ _ _ HY4.out
      have y5 := cell_of_row _ _ 5 _ _ _ HY4.out
      have y6 := cell_of_row _ _ 6 _ _ _ HY4.out
      have fy0 := box_fr HY4.out 0
      have fy1 := box_fr HY4.out 1
      have fy2 := box_fr HY4.out 2
      have fy3 := box_fr HY4.out 3
      have fy4 := box_fr HY4.out 4
      have fy5 := box_fr HY4.out 5
      have fy6 := box_fr HY4.out 6
      go_wp2_with fail
      refine bodyPost_ret (results_cell_row rfl _ _ (g + 1) 26 #[.int .i64 mn, .int .i64 mx, .int .i64 rt, .bool dn, .int .i64 idle, .int .i64 next, .slice fA N fc] (0, 0) _ rfl (set7h _ _ _ _ _ _ _ HY4.out) Try.underlying26 rfl rfl) rfl ?_
      refine ⟨_, rfl, ⟨_, vs, rfl, ?_, by rw [HC.out, List.take_of_length_le (by rw [List.length_map, HN.out]; exact Nat.le_refl _)], fun x hx => (HP4.out x hx).keep (set7k HY4.out (by decide) _ _ _ _ _ _ _)⟩, set7b _ _ _ _ _ _ _ HB4.out (by omega)⟩
      rw [HL.out]
      exact own_base (own_keep HO4.out (set7k HY4.out (by decide) _ _ _ _ _ _ _)) hwB
end Go.Proofs.Ytacpejoablcffaa
