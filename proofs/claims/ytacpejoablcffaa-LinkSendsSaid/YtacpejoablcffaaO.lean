/- The reference's Same, of equal links. -/
import Derived.Test.YtacpejoablcffaaN
namespace Go.Proofs.Ytacpejoablcffaa
open Go.RowKit Go.Lib

set_option maxHeartbeats 4000000 in
set_option maxRecDepth 100000 in
theorem same_any (s : Lk) (l r : List Fl) (v u : Value) (w : World) (hv : FL w v l) (hu : FL w u r) (hl : l.length ≤ 1000000) (he : l.map core = r.map core) : Calls Try.prog 15 #[vLk s v, vLk s u] w (TrueQ w) := by
  obtain ⟨A, c, rfl⟩ := fl_form hv
  obtain ⟨B, d, rfl⟩ := fl_form hu
  have hlr : r.length = l.length := (map_cores he).symm
  obtain ⟨N, hN⟩ : ∃ N, l.length = N := ⟨_, rfl⟩
  rw [hN] at hv hl hlr ⊢
  rw [hlr] at hu ⊢
  obtain ⟨mn, mx, rt, dn, idle, next⟩ := s
  unfold vLk
  dsimp only
  obtain ⟨g, hg⟩ : ∃ g, w.heap.size = g := ⟨_, rfl⟩
  obtain ⟨W1, hW1⟩ : ∃ W1, (w.alloc (.cells #[.int .i64 mn, .int .i64 mx, .int .i64 rt, .bool dn, .int .i64 idle, .int .i64 next, .slice A N c] 26)).alloc (.cells #[.int .i64 mn, .int .i64 mx, .int .i64 rt, .bool dn, .int .i64 idle, .int .i64 next, .slice B N d] 26) = W1 := ⟨_, rfl⟩
  have hb1 : Below w.heap.size w W1 := by rw [← hW1]; exact ((Below.refl _ w).alloc (Nat.le_refl _) _).alloc (by simp) _
  have hx1 : W1.heap[g]? = some (.cells #[.int .i64 mn, .int .i64 mx, .int .i64 rt, .bool dn, .int .i64 idle, .int .i64 next, .slice A N c] 26) := by rw [← hW1, ← hg]; exact (Below.heap_alloc _ _ _ (by simp)).trans (heap_alloc_new w _)
  have hy1 : W1.heap[g + 1]? = some (.cells #[.int .i64 mn, .int .i64 mx, .int .i64 rt, .bool dn, .int .i64 idle, .int .i64 next, .slice B N d] 26) := by rw [← hW1, ← hg]; simpa using heap_alloc_new (w.alloc (.cells #[.int .i64 mn, .int .i64 mx, .int .i64 rt, .bool dn, .int .i64 idle, .int .i64 next, .slice A N c] 26)) (.cells #[.int .i64 mn, .int .i64 mx, .int .i64 rt, .bool dn, .int .i64 idle, .int .i64 next, .slice B N d] 26)
  have hz1 : W1.heap.size = g + 2 := by rw [← hW1, ← hg]; simp
  have HV := hid hv
  have HU := hid hu
  have HN := hid hN
  have HM := hid hlr
  have HE := hid he
  have HB1 := hid hb1
  have HX1 := hid hx1
  have HY1 := hid hy1
  have HW1 := hid hW1
  have HG := hid hg
  have HZ1 := hid hz1
  clear hv hu hN hlr he hb1 hx1 hy1 hW1 hg hz1
  have x0 := cell_of_row _ _ 0 _ _ _ HX1.out
  have x1 := cell_of_row _ _ 1 _ _ _ HX1.out
  have x2 := cell_of_row _ _ 2 _ _ _ HX1.out
  have x3 := cell_of_row _ _ 3 _ _ _ HX1.out
  have x4 := cell_of_row _ _ 4 _ _ _ HX1.out
  have x5 := cell_of_row _ _ 5 _ _ _ HX1.out
  have x6 := cell_of_row _ _ 6 _ _ _ HX1.out
  have y0 := cell_of_row _ _ 0 _ _ _ HY1.out
  have y1 := cell_of_row _ _ 1 _ _ _ HY1.out
  have y2 := cell_of_row _ _ 2 _ _ _ HY1.out
  have y3 := cell_of_row _ _ 3 _ _ _ HY1.out
  have y4 := cell_of_row _ _ 4 _ _ _ HY1.out
  have y5 := cell_of_row _ _ 5 _ _ _ HY1.out
  have y6 := cell_of_row _ _ 6 _ _ _ HY1.out
  have d1 : ((N : Int) != (N : Int)) = false := by simp
  have e1 : (mn != mn) = false := by simp
  have e2 : (mx != mx) = false := by simp
  have e3 : (rt != rt) = false := by simp
  have e4 : (dn != dn) = false := by simp
  have e5 : (idle != idle) = false := by simp
  have e6 : (next != next) = false := by simp
  go_enter Try.func15, Try.ntmps15
  go_upto_region 1 with fail
  rw [HW1.out, HG.out]
  go_wp2_with fail
  clear x0 x1 x2 x3 x4 x5 x6 y0 y1 y2 y3 y4 y5 y6 e1 e2 e3 e4 e5 e6
  go_loopw [5] (fun i wr => ∃ k : Nat, k ≤ N ∧ i = .int .i64 (k : Int) ∧ Hid (Below W1.heap.size W1 wr)) (fun i _ => N - (Go.RowKit.intOf i).toNat)
  case atStart => exact ⟨0, by omega, rfl, hid (Below.refl _ _)⟩
  case round =>
    obtain ⟨k, hk, rfl, HB⟩ := hrel
    have HX := hid ((HB.out.block _ (box_lt HX1.out)).trans HX1.out)
    have HY := hid ((HB.out.block _ (box_lt HY1.out)).trans HY1.out)
    have HBW := hid (HB1.out.trans (HB.out.mono HB1.out.size))
    have x6 := cell_of_row _ _ 6 _ _ _ HX.out
    have y6 := cell_of_row _ _ 6 _ _ _ HY.out
    by_cases hkl : k < N
    · have hkl' : (k : Int) < (N : Int) := by omega
      obtain ⟨b, off, rfl, hbl, hc⟩ := fl_cells (HV.out.below HBW.out) (by rw [HN.out]; omega)
      obtain ⟨b2, off2, rfl, hbl2, hc2⟩ := fl_cells (HU.out.below HBW.out) (by rw [HM.out]; omega)
      obtain ⟨x, hx⟩ : ∃ x, l[k]? = some x := ⟨l[k]'(by rw [HN.out]; exact hkl), List.getElem?_eq_getElem _⟩
      obtain ⟨z, hz⟩ : ∃ z, r[k]? = some z := ⟨r[k]'(by rw [HM.out]; exact hkl), List.getElem?_eq_getElem _⟩
      have hzc : core z = core x := by
        have h := congrArg (fun l => l[k]?) HE.out
        simp only [List.getElem?_map, hx, hz, Option.map_some] at h
        injection h with h
        exact h.symm
      obtain ⟨p0, p1, p2⟩ := hc k x hx
      obtain ⟨q0, q1, q2⟩ := hc2 k z hz
      have hxb := ((HV.out.below HBW.out).1 x (List.mem_of_getElem? hx)).1
      have hzb := ((HU.out.below HBW.out).1 z (List.mem_of_getElem? hz)).1
      obtain ⟨xt, xn, xd, xp⟩ := x
      obtain ⟨zt, zn, zd, zp⟩ := z
      dsimp only at p0 p1 p2 q0 q1 q2 hxb hzb
      obtain ⟨rfl, rfl, rfl⟩ : zt = xt ∧ zn = xn ∧ zp = xp := by
        have h := hzc
        unfold core at h
        simp only [Prod.mk.injEq] at h
        exact h
      obtain ⟨xA, xc, rfl⟩ := byt_form hxb
      obtain ⟨zA, zc, rfl⟩ := byt_form hzb
      obtain ⟨xm, hxm⟩ : ∃ xm, zp.length = xm := ⟨_, rfl⟩
      rw [hxm] at p2 q2 hxb hzb
      have HXB := hid hxb
      have HZB := hid hzb
      have hgw := box_lt HX.out
      have hyw := box_lt HY.out
      have HS : Hid (∀ X, Below wr.heap.size wr X → X.cell? ⟨g, 6, none⟩ = some (.slice (some ⟨b, off, none⟩) N c) ∧ X.cell? ⟨g + 1, 6, none⟩ = some (.slice (some ⟨b2, off2, none⟩) N d) ∧ X.cell? ⟨b, off + k * 3, none⟩ = some (.int .i64 zt) ∧ X.cell? ⟨b, off + k * 3 + 1, none⟩ = some (.int .i64 zn) ∧ X.cell? ⟨b, off + k * 3 + 2, none⟩ = some (.slice xA xm xc) ∧ X.cell? ⟨b2, off2 + k * 3, none⟩ = some (.int .i64 zt) ∧ X.cell? ⟨b2, off2 + k * 3 + 1, none⟩ = some (.int .i64 zn) ∧ X.cell? ⟨b2, off2 + k * 3 + 2, none⟩ = some (.slice zA xm zc)) := hid (fun X hX => ⟨(hX.cell (p := ⟨g, 6, none⟩) hgw).trans x6, (hX.cell (p := ⟨g + 1, 6, none⟩) hyw).trans y6, (hX.cell (p := ⟨b, off + k * 3, none⟩) hbl).trans p0, (hX.cell (p := ⟨b, off + k * 3 + 1, none⟩) hbl).trans p1, (hX.cell (p := ⟨b, off + k * 3 + 2, none⟩) hbl).trans p2, (hX.cell (p := ⟨b2, off2 + k * 3, none⟩) hbl2).trans q0, (hX.cell (p := ⟨b2, off2 + k * 3 + 1, none⟩) hbl2).trans q1, (hX.cell (p := ⟨b2, off2 + k * 3 + 2, none⟩) hbl2).trans q2⟩)
      have HBD : Hid (Below wr.heap.size wr wr.drew) := hid (Below.refl _ _).drew
      have hHeld := HS.out _ HBD.out
      clear hc hc2 hx hz hxb hzb hxm hzc p0 p1 p2 q0 q1 q2
      go_upto_region 6 with fail
      clear x6 y6
      go_cut [6, 7] from 50 to 59 (fun s6 s7 wx => ∃ h1 h2 : Nat, s6 = .pointer (some ⟨h1, 0, none⟩) ∧ s7 = .pointer (some ⟨h2, 0, none⟩) ∧ Hid (wx.heap[h1]? = some (.cells #[.int .i64 zt, .int .i64 zn, .slice xA xm xc] 69)) ∧ Hid (wx.heap[h2]? = some (.cells #[.int .i64 zt, .int .i64 zn, .slice zA xm zc] 69)) ∧ Hid (Below wr.heap.size wr wx))
      case first =>
        refine region_tail 13 (fun X => X.cell? ⟨g, 6, none⟩ = some (.slice (some ⟨b, off, none⟩) N c) ∧ X.cell? ⟨g + 1, 6, none⟩ = some (.slice (some ⟨b2, off2, none⟩) N d) ∧ X.cell? ⟨b, off + k * 3, none⟩ = some (.int .i64 zt) ∧ X.cell? ⟨b, off + k * 3 + 1, none⟩ = some (.int .i64 zn) ∧ X.cell? ⟨b, off + k * 3 + 2, none⟩ = some (.slice xA xm xc) ∧ X.cell? ⟨b2, off2 + k * 3, none⟩ = some (.int .i64 zt) ∧ X.cell? ⟨b2, off2 + k * 3 + 1, none⟩ = some (.int .i64 zn) ∧ X.cell? ⟨b2, off2 + k * 3 + 2, none⟩ = some (.slice zA xm zc)) (by kernel_rfl) ?_
        refine' wpAnyT_take (i := 0) (oi := ?oia0) (v := ?va0) ?hia0 (by kernel_rfl) (by kernel_rfl) ?hqa0 ?hya0 hHeld ?resta0
        case hia0 => (simp only [List.getElem?_toArray, List.getElem?_cons_zero]; rfl)
        case hqa0 => exact fun _ _ _ h => h
        case hya0 => (refine Or.inl ⟨by rfl, ?_⟩; intro w' hSw; (try dsimp only at hSw); go_simp; try with_reducible rfl)
        (try simp only [Act.put, List.setIfInBounds_toArray, List.set_cons_zero, List.set_cons_succ])
        refine' wpAnyT_take (i := 1) (oi := ?oia1) (v := ?va1) ?hia1 (by kernel_rfl) (by kernel_rfl) ?hqa1 ?hya1 hHeld ?resta1
        case hia1 => (simp only [List.getElem?_toArray, List.getElem?_cons_zero, List.getElem?_cons_succ]; rfl)
        case hqa1 => exact fun _ _ _ h => h
        case hya1 => (refine Or.inl ⟨by rfl, ?_⟩; intro w' hSw; (try dsimp only at hSw); go_simp; try with_reducible rfl)
        (try simp only [Act.put, List.setIfInBounds_toArray, List.set_cons_zero, List.set_cons_succ])
        refine' wpAnyT_take (i := 2) (oi := ?oia2) (v := ?va2) ?hia2 (by kernel_rfl) (by kernel_rfl) ?hqa2 ?hya2 hHeld ?resta2
        case hia2 => (simp only [List.getElem?_toArray, List.getElem?_cons_zero, List.getElem?_cons_succ]; rfl)
        case hqa2 => exact fun _ _ _ h => h
        case hya2 => (refine Or.inl ⟨by rfl, ?_⟩; intro w' hSw; (try dsimp only at hSw); go_simp; try with_reducible rfl)
        (try simp only [Act.put, List.setIfInBounds_toArray, List.set_cons_zero, List.set_cons_succ])
        refine' wpAnyT_take (i := 3) (oi := ?oia3) (v := ?va3) ?hia3 (by kernel_rfl) (by kernel_rfl) ?hqa3 ?hya3 hHeld ?resta3
        case hia3 => (simp only [List.getElem?_toArray, List.getElem?_cons_zero, List.getElem?_cons_succ]; rfl)
        case hqa3 => exact fun _ _ _ h => h
        case hya3 => (refine Or.inl ⟨by rfl, ?_⟩; intro w' hSw; (try dsimp only at hSw); go_simp; try with_reducible rfl)
        (try simp only [Act.put, List.setIfInBounds_toArray, List.set_cons_zero, List.set_cons_succ])
        refine' wpAnyT_take (i := 4) (oi := ?oia4) (v := ?va4) ?hia4 (by kernel_rfl) (by kernel_rfl) ?hqa4 ?hya4 hHeld ?resta4
        case hia4 => (simp only [List.getElem?_toArray, List.getElem?_cons_zero, List.getElem?_cons_succ]; rfl)
        case hqa4 => exact fun _ _ _ h => h
        case hya4 => (refine Or.inl ⟨by rfl, ?_⟩; intro w' hSw; (try dsimp only at hSw); go_simp; try with_reducible rfl)
        (try simp only [Act.put, List.setIfInBounds_toArray, List.set_cons_zero, List.set_cons_succ])
        refine' wpAnyT_take (i := 5) (oi := ?oia5) (v := ?va5) ?hia5 (by kernel_rfl) (by kernel_rfl) ?hqa5 ?hya5 hHeld ?resta5
        case hia5 => (simp only [List.getElem?_toArray, List.getElem?_cons_zero, List.getElem?_cons_succ]; rfl)
        case hqa5 => exact fun _ _ _ h => h
        case hya5 => (refine Or.inl ⟨by rfl, ?_⟩; intro w' hSw; (try dsimp only at hSw); go_simp; try with_reducible rfl)
        (try simp only [Act.put, List.setIfInBounds_toArray, List.set_cons_zero, List.set_cons_succ])
        refine' wpAnyT_take (i := 6) (oi := ?oia6) (v := ?va6) ?hia6 (by kernel_rfl) (by kernel_rfl) ?hqa6 ?hya6 hHeld ?resta6
        case hia6 => (simp only [List.getElem?_toArray, List.getElem?_cons_zero, List.getElem?_cons_succ]; rfl)
        case hqa6 => exact fun _ _ _ h => h
        case hya6 => (refine Or.inl ⟨by rfl, ?_⟩; intro w' hSw; (try dsimp only at hSw); go_simp; try with_reducible rfl)
        (try simp only [Act.put, List.setIfInBounds_toArray, List.set_cons_zero, List.set_cons_succ])
        refine' wpAnyT_take (i := 7) (oi := ?oia7) (v := ?va7) ?hia7 (by kernel_rfl) (by kernel_rfl) ?hqa7 ?hya7 hHeld ?resta7
        case hia7 => (simp only [List.getElem?_toArray, List.getElem?_cons_zero, List.getElem?_cons_succ]; rfl)
        case hqa7 => exact fun _ _ _ h => h
        case hya7 => (refine Or.inl ⟨by rfl, ?_⟩; intro w' hSw; (try dsimp only at hSw); go_simp; try with_reducible rfl)
        (try simp only [Act.put, List.setIfInBounds_toArray, List.set_cons_zero, List.set_cons_succ])
        refine' wpAnyT_take (i := 8) (oi := ?oia8) (v := ?va8) ?hia8 (by kernel_rfl) (by kernel_rfl) ?hqa8 ?hya8 hHeld ?resta8
        case hia8 => (simp only [List.getElem?_toArray, List.getElem?_cons_zero, List.getElem?_cons_succ]; rfl)
        case hqa8 => exact fun _ _ _ h => h
        case hya8 => (refine Or.inl ⟨by rfl, ?_⟩; intro w' hSw; (try dsimp only at hSw); go_simp; try with_reducible rfl)
        (try simp only [Act.put, List.setIfInBounds_toArray, List.set_cons_zero, List.set_cons_succ])
        refine' wpAnyT_take (i := 9) (oi := ?oia9) (v := ?va9) ?hia9 (by kernel_rfl) (by kernel_rfl) ?hqa9 ?hya9 hHeld ?resta9
        case hia9 => (simp only [List.getElem?_toArray, List.getElem?_cons_zero, List.getElem?_cons_succ]; rfl)
        case hqa9 => exact fun _ _ _ h => h
        case hya9 => (refine Or.inl ⟨by rfl, ?_⟩; intro w' hSw; (try dsimp only at hSw); go_simp; try with_reducible rfl)
        (try simp only [Act.put, List.setIfInBounds_toArray, List.set_cons_zero, List.set_cons_succ])
        refine wpAnyT_all (l := [10, 11]) (by kernel_rfl) (by decide) ?_
        intro i hi
        simp only [List.mem_cons, List.not_mem_nil, or_false] at hi
        rcases hi with rfl | rfl
        · refine ⟨_, by (simp only [List.getElem?_toArray, List.getElem?_cons_zero, List.getElem?_cons_succ]; rfl), fun KK hKK => ?_⟩
          go_simp
          obtain ⟨w10, hW⟩ : ∃ X, (wr.alloc (.cells #[.int .i64 0, .int .i64 0, .slice none 0 0] 69)).drew = X := ⟨_, rfl⟩
          obtain ⟨h1, hh⟩ : ∃ h, wr.heap.size = h := ⟨_, rfl⟩
          have hb5 : Below wr.heap.size wr w10 := by rw [← hW]; exact (al1 wr _).drew
          have Hh1_10 : Hid (w10.heap[h1]? = some (.cells #[.int .i64 0, .int .i64 0, .slice none 0 0] 69)) := hid (by rw [← hW, ← hh]; exact heap_alloc_new wr _)
          have HB10 := hid (((Below.refl wr.heap.size wr)).trans (hb5.mono (Nat.le_refl _)))
          have gh1 : wr.heap.size ≤ h1 := by rw [← hh]; exact Nat.le_refl _
          rw [hW]
          (try rw [hh])
          have hHeld := HS.out _ HB10.out
          clear hb5 hW hh
          refine hKK.out _ _ (fun _ => hHeld) ?_
          clear hKK KK
          (try simp only [Act.put, List.setIfInBounds_toArray, List.set_cons_zero, List.set_cons_succ])
          refine wpAnyT_all (l := [11]) (by kernel_rfl) (by decide) ?_
          intro i hi
          simp only [List.mem_cons, List.not_mem_nil, or_false] at hi
          subst hi
          refine ⟨_, by (simp only [List.getElem?_toArray, List.getElem?_cons_zero, List.getElem?_cons_succ]; rfl), fun KK hKK => ?_⟩
          go_simp
          obtain ⟨w1011, hW⟩ : ∃ X, w10.alloc (.cells #[.int .i64 0, .int .i64 0, .slice none 0 0] 69) = X := ⟨_, rfl⟩
          obtain ⟨h2, hh⟩ : ∃ h, w10.heap.size = h := ⟨_, rfl⟩
          have hb5 : Below w10.heap.size w10 w1011 := by rw [← hW]; exact al1 _ _
          have Hh2_1011 : Hid (w1011.heap[h2]? = some (.cells #[.int .i64 0, .int .i64 0, .slice none 0 0] 69)) := hid (by rw [← hW, ← hh]; exact heap_alloc_new w10 _)
          have HB1011 := hid ((HB10.out).trans (hb5.mono HB10.out.size))
          have gh2 : wr.heap.size ≤ h2 := by rw [← hh]; exact HB10.out.size
          rw [hW]
          (try rw [hh])
          have hHeld := HS.out _ HB1011.out
          have Hh1_1011 := hid ((hb5.block _ (box_lt Hh1_10.out)).trans Hh1_10.out)
          have hne : h1 < h2 := by have := box_lt Hh1_10.out; omega
          clear hb5 hW hh
          refine hKK.out _ _ (fun _ => hHeld) ?_
          clear hKK KK
          (try simp only [Act.put, List.setIfInBounds_toArray, List.set_cons_zero, List.set_cons_succ])
          refine wpAnyT_all (l := [12]) (by kernel_rfl) (by decide) ?_
          intro i hi
          simp only [List.mem_cons, List.not_mem_nil, or_false] at hi
          subst hi
          refine ⟨_, by (simp only [List.getElem?_toArray, List.getElem?_cons_zero, List.getElem?_cons_succ]; rfl), fun KK hKK => ?_⟩
          have f0 := box_fr Hh1_1011.out 0
          have z0 := cell_of_row _ _ 0 _ _ _ Hh1_1011.out
          have f1 := box_fr Hh1_1011.out 1
          have z1 := cell_of_row _ _ 1 _ _ _ Hh1_1011.out
          have f2 := box_fr Hh1_1011.out 2
          have z2 := cell_of_row _ _ 2 _ _ _ Hh1_1011.out
          go_simp
          obtain ⟨w101112, hW⟩ : ∃ X, ((w1011.setCell ⟨h1, 0, none⟩ (.int .i64 zt)).setCell ⟨h1, 1, none⟩ (.int .i64 zn)).setCell ⟨h1, 2, none⟩ (.slice xA xm xc) = X := ⟨_, rfl⟩
          have Hh1_101112 : Hid (w101112.heap[h1]? = some (.cells #[.int .i64 zt, .int .i64 zn, (.slice xA xm xc)] 69)) := hid (by rw [← hW]; exact set3h _ _ _ Hh1_1011.out)
          have Hh2_101112 : Hid (w101112.heap[h2]? = some (.cells #[.int .i64 0, .int .i64 0, .slice none 0 0] 69)) := hid (by rw [← hW]; exact (set3o _ _ _ (by omega)).trans Hh2_1011.out)
          have HB101112 : Hid (Below wr.heap.size wr w101112) := hid (by rw [← hW]; exact set3b _ _ _ HB1011.out (by omega))
          rw [hW]
          have hHeld := HS.out _ HB101112.out
          clear hW f0 f1 f2 z0 z1 z2
          refine hKK.out _ _ (fun _ => hHeld) ?_
          clear hKK KK
          (try simp only [Act.put, List.setIfInBounds_toArray, List.set_cons_zero, List.set_cons_succ])
          refine wpAnyT_all (l := [13]) (by kernel_rfl) (by decide) ?_
          intro i hi
          simp only [List.mem_cons, List.not_mem_nil, or_false] at hi
          subst hi
          refine ⟨_, by (simp only [List.getElem?_toArray, List.getElem?_cons_zero, List.getElem?_cons_succ]; rfl), fun KK hKK => ?_⟩
          have f0 := box_fr Hh2_101112.out 0
          have z0 := cell_of_row _ _ 0 _ _ _ Hh2_101112.out
          have f1 := box_fr Hh2_101112.out 1
          have z1 := cell_of_row _ _ 1 _ _ _ Hh2_101112.out
          have f2 := box_fr Hh2_101112.out 2
          have z2 := cell_of_row _ _ 2 _ _ _ Hh2_101112.out
          go_simp
          obtain ⟨w10111213, hW⟩ : ∃ X, ((w101112.setCell ⟨h2, 0, none⟩ (.int .i64 zt)).setCell ⟨h2, 1, none⟩ (.int .i64 zn)).setCell ⟨h2, 2, none⟩ (.slice zA xm zc) = X := ⟨_, rfl⟩
          have Hh2_10111213 : Hid (w10111213.heap[h2]? = some (.cells #[.int .i64 zt, .int .i64 zn, (.slice zA xm zc)] 69)) := hid (by rw [← hW]; exact set3h _ _ _ Hh2_101112.out)
          have Hh1_10111213 : Hid (w10111213.heap[h1]? = some (.cells #[.int .i64 zt, .int .i64 zn, (.slice xA xm xc)] 69)) := hid (by rw [← hW]; exact (set3o _ _ _ (by omega)).trans Hh1_101112.out)
          have HB10111213 : Hid (Below wr.heap.size wr w10111213) := hid (by rw [← hW]; exact set3b _ _ _ HB101112.out (by omega))
          rw [hW]
          have hHeld := HS.out _ HB10111213.out
          clear hW f0 f1 f2 z0 z1 z2
          refine hKK.out _ _ (fun h => absurd h (by decide)) ?_
          clear hKK KK
          (try simp only [Act.put, List.setIfInBounds_toArray, List.set_cons_zero, List.set_cons_succ])
          refine wpAnyT_done (by kernel_rfl) ?_ _
          go_wp2_with fail
          go_meet
          exact ⟨h1, h2, rfl, rfl, Hh1_10111213, Hh2_10111213, HB10111213⟩
        · refine ⟨_, by (simp only [List.getElem?_toArray, List.getElem?_cons_zero, List.getElem?_cons_succ]; rfl), fun KK hKK => ?_⟩
          go_simp
          obtain ⟨w11, hW⟩ : ∃ X, (wr.alloc (.cells #[.int .i64 0, .int .i64 0, .slice none 0 0] 69)).drew = X := ⟨_, rfl⟩
          obtain ⟨h2, hh⟩ : ∃ h, wr.heap.size = h := ⟨_, rfl⟩
          have hb5 : Below wr.heap.size wr w11 := by rw [← hW]; exact (al1 wr _).drew
          have Hh2_11 : Hid (w11.heap[h2]? = some (.cells #[.int .i64 0, .int .i64 0, .slice none 0 0] 69)) := hid (by rw [← hW, ← hh]; exact heap_alloc_new wr _)
          have HB11 := hid (((Below.refl wr.heap.size wr)).trans (hb5.mono (Nat.le_refl _)))
          have gh2 : wr.heap.size ≤ h2 := by rw [← hh]; exact Nat.le_refl _
          rw [hW]
          (try rw [hh])
          have hHeld := HS.out _ HB11.out
          clear hb5 hW hh
          refine hKK.out _ _ (fun _ => hHeld) ?_
          clear hKK KK
          (try simp only [Act.put, List.setIfInBounds_toArray, List.set_cons_zero, List.set_cons_succ])
          refine wpAnyT_all (l := [10]) (by kernel_rfl) (by decide) ?_
          intro i hi
          simp only [List.mem_cons, List.not_mem_nil, or_false] at hi
          subst hi
          refine ⟨_, by (simp only [List.getElem?_toArray, List.getElem?_cons_zero, List.getElem?_cons_succ]; rfl), fun KK hKK => ?_⟩
          go_simp
          obtain ⟨w1110, hW⟩ : ∃ X, w11.alloc (.cells #[.int .i64 0, .int .i64 0, .slice none 0 0] 69) = X := ⟨_, rfl⟩
          obtain ⟨h1, hh⟩ : ∃ h, w11.heap.size = h := ⟨_, rfl⟩
          have hb5 : Below w11.heap.size w11 w1110 := by rw [← hW]; exact al1 _ _
          have Hh1_1110 : Hid (w1110.heap[h1]? = some (.cells #[.int .i64 0, .int .i64 0, .slice none 0 0] 69)) := hid (by rw [← hW, ← hh]; exact heap_alloc_new w11 _)
          have HB1110 := hid ((HB11.out).trans (hb5.mono HB11.out.size))
          have gh1 : wr.heap.size ≤ h1 := by rw [← hh]; exact HB11.out.size
          rw [hW]
          (try rw [hh])
          have hHeld := HS.out _ HB1110.out
          have Hh2_1110 := hid ((hb5.block _ (box_lt Hh2_11.out)).trans Hh2_11.out)
          have hne : h2 < h1 := by have := box_lt Hh2_11.out; omega
          clear hb5 hW hh
          refine hKK.out _ _ (fun _ => hHeld) ?_
          clear hKK KK
          (try simp only [Act.put, List.setIfInBounds_toArray, List.set_cons_zero, List.set_cons_succ])
          refine wpAnyT_all (l := [12]) (by kernel_rfl) (by decide) ?_
          intro i hi
          simp only [List.mem_cons, List.not_mem_nil, or_false] at hi
          subst hi
          refine ⟨_, by (simp only [List.getElem?_toArray, List.getElem?_cons_zero, List.getElem?_cons_succ]; rfl), fun KK hKK => ?_⟩
          have f0 := box_fr Hh1_1110.out 0
          have z0 := cell_of_row _ _ 0 _ _ _ Hh1_1110.out
          have f1 := box_fr Hh1_1110.out 1
          have z1 := cell_of_row _ _ 1 _ _ _ Hh1_1110.out
          have f2 := box_fr Hh1_1110.out 2
          have z2 := cell_of_row _ _ 2 _ _ _ Hh1_1110.out
          go_simp
          obtain ⟨w111012, hW⟩ : ∃ X, ((w1110.setCell ⟨h1, 0, none⟩ (.int .i64 zt)).setCell ⟨h1, 1, none⟩ (.int .i64 zn)).setCell ⟨h1, 2, none⟩ (.slice xA xm xc) = X := ⟨_, rfl⟩
          have Hh1_111012 : Hid (w111012.heap[h1]? = some (.cells #[.int .i64 zt, .int .i64 zn, (.slice xA xm xc)] 69)) := hid (by rw [← hW]; exact set3h _ _ _ Hh1_1110.out)
          have Hh2_111012 : Hid (w111012.heap[h2]? = some (.cells #[.int .i64 0, .int .i64 0, .slice none 0 0] 69)) := hid (by rw [← hW]; exact (set3o _ _ _ (by omega)).trans Hh2_1110.out)
          have HB111012 : Hid (Below wr.heap.size wr w111012) := hid (by rw [← hW]; exact set3b _ _ _ HB1110.out (by omega))
          rw [hW]
          have hHeld := HS.out _ HB111012.out
          clear hW f0 f1 f2 z0 z1 z2
          refine hKK.out _ _ (fun _ => hHeld) ?_
          clear hKK KK
          (try simp only [Act.put, List.setIfInBounds_toArray, List.set_cons_zero, List.set_cons_succ])
          refine wpAnyT_all (l := [13]) (by kernel_rfl) (by decide) ?_
          intro i hi
          simp only [List.mem_cons, List.not_mem_nil, or_false] at hi
          subst hi
          refine ⟨_, by (simp only [List.getElem?_toArray, List.getElem?_cons_zero, List.getElem?_cons_succ]; rfl), fun KK hKK => ?_⟩
          have f0 := box_fr Hh2_111012.out 0
          have z0 := cell_of_row _ _ 0 _ _ _ Hh2_111012.out
          have f1 := box_fr Hh2_111012.out 1
          have z1 := cell_of_row _ _ 1 _ _ _ Hh2_111012.out
          have f2 := box_fr Hh2_111012.out 2
          have z2 := cell_of_row _ _ 2 _ _ _ Hh2_111012.out
          go_simp
          obtain ⟨w11101213, hW⟩ : ∃ X, ((w111012.setCell ⟨h2, 0, none⟩ (.int .i64 zt)).setCell ⟨h2, 1, none⟩ (.int .i64 zn)).setCell ⟨h2, 2, none⟩ (.slice zA xm zc) = X := ⟨_, rfl⟩
          have Hh2_11101213 : Hid (w11101213.heap[h2]? = some (.cells #[.int .i64 zt, .int .i64 zn, (.slice zA xm zc)] 69)) := hid (by rw [← hW]; exact set3h _ _ _ Hh2_111012.out)
          have Hh1_11101213 : Hid (w11101213.heap[h1]? = some (.cells #[.int .i64 zt, .int .i64 zn, (.slice xA xm xc)] 69)) := hid (by rw [← hW]; exact (set3o _ _ _ (by omega)).trans Hh1_111012.out)
          have HB11101213 : Hid (Below wr.heap.size wr w11101213) := hid (by rw [← hW]; exact set3b _ _ _ HB111012.out (by omega))
          rw [hW]
          have hHeld := HS.out _ HB11101213.out
          clear hW f0 f1 f2 z0 z1 z2
          refine hKK.out _ _ (fun h => absurd h (by decide)) ?_
          clear hKK KK
          (try simp only [Act.put, List.setIfInBounds_toArray, List.set_cons_zero, List.set_cons_succ])
          refine wpAnyT_done (by kernel_rfl) ?_ _
          go_wp2_with fail
          go_meet
          exact ⟨h1, h2, rfl, rfl, Hh1_11101213, Hh2_11101213, HB11101213⟩
      case rest =>
        obtain ⟨h1, h2, rfl, rfl, H1, H2, HB7⟩ := hcut
        have z0 := cell_of_row _ _ 0 _ _ _ H1.out
        have z1 := cell_of_row _ _ 1 _ _ _ H1.out
        have z2 := cell_of_row _ _ 2 _ _ _ H1.out
        have u0 := cell_of_row _ _ 0 _ _ _ H2.out
        have u1 := cell_of_row _ _ 1 _ _ _ H2.out
        have u2 := cell_of_row _ _ 2 _ _ _ H2.out
        have hc1 := byt_conv (HXB.out.below HB7.out)
        have hc2 := byt_conv (HZB.out.below HB7.out)
        obtain ⟨S, hS⟩ : ∃ S, strOfNums (ints zp) = S := ⟨_, rfl⟩
        rw [hS] at hc1 hc2
        have dS : (S.toList != S.toList) = false := by simp
        have dt : (zt != zt) = false := by simp
        have dn' : (zn != zn) = false := by simp
        clear hS hHeld
        go_wp2_with fail
        go_roundw
        case rel => exact ⟨k + 1, by omega, by go_num, hid (HB.out.trans (HB7.out.mono HB.out.size))⟩
        case measure => simp [Go.RowKit.intOf]; omega
    · obtain rfl : k = N := by omega
      go_wp2_with fail
      go_ret
      exact ⟨rfl, HBW.out⟩
end Go.Proofs.Ytacpejoablcffaa
