/- The token of a match. -/
import Derived.Test.YtldlddoealpomaaEb
namespace Go.Proofs.Ytldlddoealpomaa
open Go.RowKit Go.Lib

theorem byt_some {w : World} {A : Option Addr} {n c : Nat} {l : List Nat} (h : Byt w (.slice A n c) l) (hl : 0 < l.length) : ∃ ad, A = some ad := by
  obtain ⟨_, A', c', e, _, _, b, off, hA, _⟩ := h
  injection e with e
  exact ⟨_, e.trans (hA hl).1⟩
set_option maxHeartbeats 4000000 in
set_option maxRecDepth 100000 in
theorem outMatch_any (D n : Nat) (l : List Nat) (g base : Nat) (vt vx vm : Value) (w : World) (he : Enc w g base vt vx vm l) (hn : 4 ≤ n) (hn2 : n ≤ 131) (hD : D ≤ 4096) (hl : l.length ≤ 800000000000) :
    Calls Try.prog 45 #[.pointer (some ⟨g, 0, none⟩), .agg #[.int .i64 (D : Int), .int .i64 (n : Int)]] w (EncQ g base vt vx vm (l ++ [124 + n] ++ enc D) w) := by
  obtain ⟨hb, ho, hbs⟩ := he
  obtain ⟨A, c, rfl⟩ := own_form ho
  have hgl := box_lt hb
  have hal := al1 w (.cells #[.int .i64 (D : Int), .int .i64 (n : Int)] 68)
  have HBX : Hid ((w.alloc (.cells #[.int .i64 (D : Int), .int .i64 (n : Int)] 68)).heap[w.heap.size]? = some (.cells #[.int .i64 (D : Int), .int .i64 (n : Int)] 68)) := hid (heap_alloc_new _ _)
  have HB := hid ((hal.block g hgl).trans hb)
  have HO := hid (own_keep ho (keep_below hal))
  have HCH := hid (Chg.below (g := g) (v := .slice A l.length c) hal)
  have hz : base ≤ (w.alloc (.cells #[.int .i64 (D : Int), .int .i64 (n : Int)] 68)).heap.size := by simp; omega
  obtain ⟨W, hW⟩ : ∃ W, w.alloc (.cells #[.int .i64 (D : Int), .int .i64 (n : Int)] 68) = W := ⟨_, rfl⟩
  have hmb : w.heap.size < W.heap.size := by rw [← hW]; simp
  have hgm : g ≠ w.heap.size := by omega
  rw [hW] at HBX HB HO HCH hz
  obtain ⟨mb, hmbe⟩ : ∃ mb, w.heap.size = mb := ⟨_, rfl⟩
  have HMB := hid hmbe
  rw [hmbe] at HBX hmb hgm
  have HW := hid hW
  obtain ⟨L, hL⟩ : ∃ L, l.length = L := ⟨_, rfl⟩
  have HLL := hid hL
  rw [hL] at HB HO HCH hl ⊢
  have hHeld : W.drew.cell? ⟨g, 0, none⟩ = some (.slice A L c) ∧ W.drew.cell? ⟨mb, 1, none⟩ = some (.int .i64 (n : Int)) := ⟨cell_of_row _ _ 0 _ _ _ HB.out, cell_of_row _ _ 1 _ _ _ HBX.out⟩
  obtain ⟨z, hz0⟩ : ∃ z, 124 + n = z := ⟨_, rfl⟩
  have hwa : IntKind.i64.wrap ((128 : Int) + (n : Int)) = (128 : Int) + (n : Int) := by rw [IntKind.wrap_i64]; omega
  have hwb : IntKind.i64.wrap ((128 : Int) + (n : Int) - 4) = (z : Int) := by rw [IntKind.wrap_i64]; omega
  have hwc : IntKind.u8.wrap (z : Int) = (z : Int) := by rw [IntKind.wrap_u8]; omega
  have hw8 : IntKind.u8.wrap (IntKind.i64.wrap (IntKind.i64.wrap ((128 : Int) + (n : Int)) - 4)) = (z : Int) := by rw [hwa, hwb, hwc]
  have hz8 : z < 256 := by omega
  have HZE := hid hz0
  rw [hz0]
  clear hwa hwb hwc hz0
  clear hb ho hal hW hL hbs
  go_enter Try.func45, Try.ntmps45
  go_wp2_with fail
  rw [HW.out]
  refine region_tail 14 (fun X : World => X.cell? ⟨g, 0, none⟩ = some (.slice A L c) ∧ X.cell? ⟨mb, 1, none⟩ = some (.int .i64 (n : Int))) (by kernel_rfl) ?_
  refine' wpAnyT_take (i := 0) (oi := ?oia0) (v := ?va0) ?hia0 (by kernel_rfl) (by kernel_rfl) ?hqa0 ?hya0 hHeld ?resta0
  case hia0 => (simp only [List.getElem?_toArray, List.getElem?_cons_zero]; rfl)
  case hqa0 => exact fun _ _ _ h => h
  case hya0 => (refine Or.inl ⟨by rfl, ?_⟩; intro w' hSw; (try dsimp only at hSw); go_simp; try with_reducible rfl)
  (try simp only [Act.put, List.setIfInBounds_toArray, List.set_cons_zero, List.set_cons_succ])
  refine' wpAnyT_take (i := 1) (oi := ?oia1) (v := ?va1) ?hia1 (by kernel_rfl) (by kernel_rfl) ?hqa1 ?hya1 hHeld ?resta1
  case hia1 => (simp only [List.getElem?_toArray, List.getElem?_cons_zero, List.getElem?_cons_succ]; rfl)
  case hqa1 => exact fun _ _ _ h => h
  case hya1 => (refine Or.inl ⟨by rfl, ?_⟩; intro w' hSw; (try dsimp only at hSw); go_simp; try with_reducible rfl)
  (try simp only [Act.put, List.setIfInBounds_toArray, List.set_cons_zero, List.set_cons_succ])
  refine' wpAnyT_take (i := 2) (oi := ?oia2) (v := ?va2) ?hia2 (by kernel_rfl) (by kernel_rfl) ?hqa2 ?hya2 hHeld ?resta2
  case hia2 => (simp only [List.getElem?_toArray, List.getElem?_cons_zero, List.getElem?_cons_succ]; rfl)
  case hqa2 => exact fun _ _ _ h => h
  case hya2 => (refine Or.inl ⟨by rfl, ?_⟩; intro w' hSw; (try dsimp only at hSw); go_simp; try with_reducible rfl)
  (try simp only [Act.put, List.setIfInBounds_toArray, List.set_cons_zero, List.set_cons_succ])
  refine' wpAnyT_take (i := 3) (oi := ?oia3) (v := ?va3) ?hia3 (by kernel_rfl) (by kernel_rfl) ?hqa3 ?hya3 hHeld ?resta3
  case hia3 => (simp only [List.getElem?_toArray, List.getElem?_cons_zero, List.getElem?_cons_succ]; rfl)
  case hqa3 => exact fun _ _ _ h => h
  case hya3 => (refine Or.inl ⟨by rfl, ?_⟩; intro w' hSw; (try dsimp only at hSw); go_simp; try with_reducible rfl)
  (try simp only [Act.put, List.setIfInBounds_toArray, List.set_cons_zero, List.set_cons_succ])
  refine' wpAnyT_take (i := 4) (oi := ?oia4) (v := ?va4) ?hia4 (by kernel_rfl) (by kernel_rfl) ?hqa4 ?hya4 hHeld ?resta4
  case hia4 => (simp only [List.getElem?_toArray, List.getElem?_cons_zero, List.getElem?_cons_succ]; rfl)
  case hqa4 => exact fun _ _ _ h => h
  case hya4 => (refine Or.inl ⟨by rfl, ?_⟩; intro w' hSw; (try dsimp only at hSw); go_simp; try with_reducible rfl)
  (try simp only [Act.put, List.setIfInBounds_toArray, List.set_cons_zero, List.set_cons_succ])
  refine' wpAnyT_take (i := 5) (oi := ?oia5) (v := ?va5) ?hia5 (by kernel_rfl) (by kernel_rfl) ?hqa5 ?hya5 hHeld ?resta5
  case hia5 => (simp only [List.getElem?_toArray, List.getElem?_cons_zero, List.getElem?_cons_succ]; rfl)
  case hqa5 => exact fun _ _ _ h => h
  case hya5 => (refine Or.inl ⟨by rfl, ?_⟩; intro w' hSw; (try dsimp only at hSw); go_simp; try with_reducible rfl)
  (try simp only [Act.put, List.setIfInBounds_toArray, List.set_cons_zero, List.set_cons_succ])
  refine' wpAnyT_take (i := 6) (oi := ?oia6) (v := ?va6) ?hia6 (by kernel_rfl) (by kernel_rfl) ?hqa6 ?hya6 hHeld ?resta6
  case hia6 => (simp only [List.getElem?_toArray, List.getElem?_cons_zero, List.getElem?_cons_succ]; rfl)
  case hqa6 => exact fun _ _ _ h => h
  case hya6 => (refine Or.inl ⟨by rfl, ?_⟩; intro w' hSw; (try dsimp only at hSw); go_simp; try with_reducible rfl)
  (try simp only [Act.put, List.setIfInBounds_toArray, List.set_cons_zero, List.set_cons_succ])
  refine' wpAnyT_take (i := 7) (oi := ?oia7) (v := ?va7) ?hia7 (by kernel_rfl) (by kernel_rfl) ?hqa7 ?hya7 hHeld ?resta7
  case hia7 => (simp only [List.getElem?_toArray, List.getElem?_cons_zero, List.getElem?_cons_succ]; rfl)
  case hqa7 => exact fun _ _ _ h => h
  case hya7 => (refine Or.inl ⟨by rfl, ?_⟩; intro w' hSw; (try dsimp only at hSw); go_simp; try with_reducible rfl)
  (try simp only [Act.put, List.setIfInBounds_toArray, List.set_cons_zero, List.set_cons_succ])
  refine' wpAnyT_take (i := 8) (oi := ?oia8) (v := ?va8) ?hia8 (by kernel_rfl) (by kernel_rfl) ?hqa8 ?hya8 hHeld ?resta8
  case hia8 => (simp only [List.getElem?_toArray, List.getElem?_cons_zero, List.getElem?_cons_succ]; rfl)
  case hqa8 => exact fun _ _ _ h => h
  case hya8 => (refine Or.inl ⟨by rfl, ?_⟩; intro w' hSw; (try dsimp only at hSw); go_simp; try with_reducible rfl)
  (try simp only [Act.put, List.setIfInBounds_toArray, List.set_cons_zero, List.set_cons_succ])
  refine' wpAnyT_take (i := 9) (oi := ?oia9) (v := ?va9) ?hia9 (by kernel_rfl) (by kernel_rfl) ?hqa9 ?hya9 hHeld ?resta9
  case hia9 => (simp only [List.getElem?_toArray, List.getElem?_cons_zero, List.getElem?_cons_succ]; rfl)
  case hqa9 => exact fun _ _ _ h => h
  case hya9 => (refine Or.inl ⟨by rfl, ?_⟩; intro w' hSw; (try dsimp only at hSw); go_simp; try with_reducible rfl)
  (try simp only [Act.put, List.setIfInBounds_toArray, List.set_cons_zero, List.set_cons_succ])
  have hal := al1 W (.cells #[.int .u8 (z : Int)] 5)
  have HB2 := hid ((hal.block g (box_lt HB.out)).trans HB.out)
  have HBX2 := hid ((hal.block mb hmb).trans HBX.out)
  have HO2 := hid (own_keep HO.out (keep_below hal))
  have HCH2 := hid (HCH.out.trans (Chg.below hal))
  have HZB := hid (byt_one W z hz8)
  obtain ⟨W2, hW2⟩ : ∃ W2, W.alloc (.cells #[.int .u8 (z : Int)] 5) = W2 := ⟨_, rfl⟩
  have hz2 : base ≤ W2.heap.size := by rw [← hW2]; simp; omega
  have hmb2 : mb < W2.heap.size := by rw [← hW2]; simp; omega
  rw [hW2] at HB2 HBX2 HO2 HCH2 HZB
  have HW2 := hid hW2
  clear hHeld hw8 hal hW2 HB HBX HO HCH hz
  have hHeld : W2.drew.cell? ⟨g, 0, none⟩ = some (.slice A L c) ∧ W2.drew.cell? ⟨mb, 1, none⟩ = some (.int .i64 (n : Int)) := ⟨cell_of_row _ _ 0 _ _ _ HB2.out, cell_of_row _ _ 1 _ _ _ HBX2.out⟩
  refine' wpAnyT_one (i := 10) (o := ?oib10) (by kernel_rfl) ?hib10 (fun K hK => ?stb10)
  case hib10 => (simp only [List.getElem?_toArray, List.getElem?_cons_zero, List.getElem?_cons_succ]; rfl)
  go_simp
  rw [HW2.out]
  refine hK.out _ _ (fun _ => hHeld) ?_
  clear hK K
  (try simp only [Act.put, List.setIfInBounds_toArray, List.set_cons_zero, List.set_cons_succ])
  refine' wpAnyT_one (i := 11) (o := ?oib11) (by kernel_rfl) ?hib11 (fun K hK => ?stb11)
  case hib11 => (simp only [List.getElem?_toArray, List.getElem?_cons_zero, List.getElem?_cons_succ]; rfl)
  refine step_append_byt_at rfl (.tmp 8) (.tmp 14) rfl base (.slice A L c) L _ (by simp [Act.eval]) (show W2.drew.ownsRow base 5 1 (.slice A L c) L (l.map byteV) from HO2.out) [z] ⟨W.heap.size, 0, none⟩ 1 1 (by simp [Act.eval]) (show Byt W2.drew _ _ from HZB.out) (by simp; omega) (show base ≤ W2.heap.size from hz2) ?_
  intro v3 W3 ho3 hg3 hat3
  have HC3 := hid (HCH2.out.trans ((Chg.below (below_drew (Below.refl W2.heap.size W2))).trans (Chg.grown hg3 hat3)))
  have hb3 := enc_grown (show W2.drew.heap[g]? = some _ from HB2.out) (show W2.drew.ownsRow base 5 1 (.slice A L c) L (l.map byteV) from HO2.out) hg3
  have hx3 := keep_grown (T := 68) (show W2.drew.ownsRow base 5 1 (.slice A L c) L (l.map byteV) from HO2.out) (by decide) hg3 mb _ HBX2.out
  obtain ⟨a3, c3, rfl⟩ := own_form ho3
  have HN3 := hid (enc_not hb3 ho3)
  have HB3 := hid hb3
  have HX3 := hid hx3
  have HO3 := hid ho3
  have hz3 : base ≤ W3.heap.size := Nat.le_trans hz2 hg3.size
  clear hHeld hg3 hb3 hx3 ho3 hat3 HB2 HBX2 HO2 HCH2 HZB
  have hHeld : W3.cell? ⟨g, 0, none⟩ = some (.slice A L c) ∧ W3.cell? ⟨mb, 1, none⟩ = some (.int .i64 (n : Int)) := ⟨cell_of_row _ _ 0 _ _ _ HB3.out, cell_of_row _ _ 1 _ _ _ HX3.out⟩
  have f0 := box_fr HB3.out 0
  refine hK.out _ _ (fun _ => hHeld) ?_
  clear hK K
  (try simp only [Act.put, List.setIfInBounds_toArray, List.set_cons_zero, List.set_cons_succ])
  refine' wpAnyT_one (i := 12) (o := ?oib12) (by kernel_rfl) ?hib12 (fun K hK => ?stb12)
  case hib12 => (simp only [List.getElem?_toArray, List.getElem?_cons_zero, List.getElem?_cons_succ]; rfl)
  go_simp
  refine hK.out _ _ (fun _ => hHeld) ?_
  clear hK K
  (try simp only [Act.put, List.setIfInBounds_toArray, List.set_cons_zero, List.set_cons_succ])
  refine' wpAnyT_one (i := 13) (o := ?oib13) (by kernel_rfl) ?hib13 (fun K hK => ?stb13)
  case hib13 => (simp only [List.getElem?_toArray, List.getElem?_cons_zero, List.getElem?_cons_succ]; rfl)
  go_simp
  refine hK.out _ _ (fun _ => hHeld) ?_
  clear hK K
  (try simp only [Act.put, List.setIfInBounds_toArray, List.set_cons_zero, List.set_cons_succ])
  refine' wpAnyT_one (i := 14) (o := ?oib14) (by kernel_rfl) ?hib14 (fun K hK => ?stb14)
  case hib14 => (simp only [List.getElem?_toArray, List.getElem?_cons_zero, List.getElem?_cons_succ]; rfl)
  go_simp
  refine hK.out _ _ (fun h => absurd h (by decide)) ?_
  clear hK K
  (try simp only [Act.put, List.setIfInBounds_toArray, List.set_cons_zero, List.set_cons_succ])
  refine wpAnyT_done (by kernel_rfl) ?_ _
  have HO3' : Hid (W3.ownsRow base 5 1 (.slice a3 (L + 1) c3) (L + 1) ((l ++ [z]).map byteV)) := hid (by rw [List.map_append]; exact HO3.out)
  have HC3' : Hid (Chg g (.slice A L c) (.slice a3 (L + 1) c3) w W3) := HC3
  have HN3' : Hid ((Value.slice a3 (L + 1) c3).ownBlock ≠ some g) := HN3
  have HB4 := hid (bx_0 HB3.out (.slice a3 (L + 1) c3))
  have HX4 := hid ((Below.heap_setCell W3 ⟨g, 0, none⟩ (.slice a3 (L + 1) c3) mb (show mb ≠ g by omega)).trans HX3.out)
  have HO4 := hid (show (W3.setCell ⟨g, 0, none⟩ (.slice a3 (L + 1) c3)).ownsRow base 5 1 (.slice a3 (L + 1) c3) (L + 1) ((l ++ [z]).map byteV) from ownsRow_setCell_other HO3'.out HN3'.out _)
  have HC4 := hid (HC3'.out.set 0 (.slice a3 (L + 1) c3))
  clear hHeld f0 HO3 HO3' HC3 HC3' HN3 HN3' HB3 HX3 HW
  obtain ⟨W4, hW4⟩ : ∃ W4, W3.setCell ⟨g, 0, none⟩ (.slice a3 (L + 1) c3) = W4 := ⟨_, rfl⟩
  have hz4 : base ≤ W4.heap.size := by rw [← hW4]; simpa using hz3
  rw [hW4] at HB4 HX4 HO4 HC4 ⊢
  clear hW4 hz3
  have HPI := hid (putInt_any (D : Int) [] (.slice none 0 0) W4.drew (byt_nil _) nilOk_nil (by simp))
  rw [show cl (D : Int) = D by rw [cl_in (by omega) (by omega)]; rfl, List.nil_append] at HPI
  have HE8 := hid (enc_le8 (n := D) (by unfold top; omega))
  have HEP := hid (enc_pos D)
  have hHeld : W4.drew.cell? ⟨g, 0, none⟩ = some (.slice a3 (L + 1) c3) ∧ W4.drew.cell? ⟨mb, 0, none⟩ = some (.int .i64 (D : Int)) := ⟨cell_of_row _ _ 0 _ _ _ HB4.out, cell_of_row _ _ 0 _ _ _ HX4.out⟩
  have hgl4 := box_lt HB4.out
  have hml4 := box_lt HX4.out
  go_wp2_with fail
  refine region_tail 11 (fun X : World => X.cell? ⟨g, 0, none⟩ = some (.slice a3 (L + 1) c3) ∧ X.cell? ⟨mb, 0, none⟩ = some (.int .i64 (D : Int))) (by kernel_rfl) ?_
  refine' wpAnyT_take (i := 0) (oi := ?oid0) (v := ?vd0) ?hid0 (by kernel_rfl) (by kernel_rfl) ?hqd0 ?hyd0 hHeld ?restd0
  case hid0 => (simp only [List.getElem?_toArray, List.getElem?_cons_zero]; rfl)
  case hqd0 => exact fun _ _ _ h => h
  case hyd0 => (refine Or.inl ⟨by rfl, ?_⟩; intro w' hSw; (try dsimp only at hSw); go_simp; try with_reducible rfl)
  (try simp only [Act.put, List.setIfInBounds_toArray, List.set_cons_zero, List.set_cons_succ])
  refine' wpAnyT_take (i := 1) (oi := ?oid1) (v := ?vd1) ?hid1 (by kernel_rfl) (by kernel_rfl) ?hqd1 ?hyd1 hHeld ?restd1
  case hid1 => (simp only [List.getElem?_toArray, List.getElem?_cons_zero, List.getElem?_cons_succ]; rfl)
  case hqd1 => exact fun _ _ _ h => h
  case hyd1 => (refine Or.inl ⟨by rfl, ?_⟩; intro w' hSw; (try dsimp only at hSw); go_simp; try with_reducible rfl)
  (try simp only [Act.put, List.setIfInBounds_toArray, List.set_cons_zero, List.set_cons_succ])
  refine' wpAnyT_take (i := 2) (oi := ?oid2) (v := ?vd2) ?hid2 (by kernel_rfl) (by kernel_rfl) ?hqd2 ?hyd2 hHeld ?restd2
  case hid2 => (simp only [List.getElem?_toArray, List.getElem?_cons_zero, List.getElem?_cons_succ]; rfl)
  case hqd2 => exact fun _ _ _ h => h
  case hyd2 => (refine Or.inl ⟨by rfl, ?_⟩; intro w' hSw; (try dsimp only at hSw); go_simp; try with_reducible rfl)
  (try simp only [Act.put, List.setIfInBounds_toArray, List.set_cons_zero, List.set_cons_succ])
  refine' wpAnyT_take (i := 3) (oi := ?oid3) (v := ?vd3) ?hid3 (by kernel_rfl) (by kernel_rfl) ?hqd3 ?hyd3 hHeld ?restd3
  case hid3 => (simp only [List.getElem?_toArray, List.getElem?_cons_zero, List.getElem?_cons_succ]; rfl)
  case hqd3 => exact fun _ _ _ h => h
  case hyd3 => (refine Or.inl ⟨by rfl, ?_⟩; intro w' hSw; (try dsimp only at hSw); go_simp; try with_reducible rfl)
  (try simp only [Act.put, List.setIfInBounds_toArray, List.set_cons_zero, List.set_cons_succ])
  refine' wpAnyT_take (i := 4) (oi := ?oid4) (v := ?vd4) ?hid4 (by kernel_rfl) (by kernel_rfl) ?hqd4 ?hyd4 hHeld ?restd4
  case hid4 => (simp only [List.getElem?_toArray, List.getElem?_cons_zero, List.getElem?_cons_succ]; rfl)
  case hqd4 => exact fun _ _ _ h => h
  case hyd4 => (refine Or.inl ⟨by rfl, ?_⟩; intro w' hSw; (try dsimp only at hSw); go_simp; try with_reducible rfl)
  (try simp only [Act.put, List.setIfInBounds_toArray, List.set_cons_zero, List.set_cons_succ])
  refine' wpAnyT_take (i := 5) (oi := ?oid5) (v := ?vd5) ?hid5 (by kernel_rfl) (by kernel_rfl) ?hqd5 ?hyd5 hHeld ?restd5
  case hid5 => (simp only [List.getElem?_toArray, List.getElem?_cons_zero, List.getElem?_cons_succ]; rfl)
  case hqd5 => exact fun _ _ _ h => h
  case hyd5 => (refine Or.inl ⟨by rfl, ?_⟩; intro w' hSw; (try dsimp only at hSw); go_simp; try with_reducible rfl)
  (try simp only [Act.put, List.setIfInBounds_toArray, List.set_cons_zero, List.set_cons_succ])
  refine' wpAnyT_take (i := 6) (oi := ?oid6) (v := ?vd6) ?hid6 (by kernel_rfl) (by kernel_rfl) ?hqd6 ?hyd6 hHeld ?restd6
  case hid6 => (simp only [List.getElem?_toArray, List.getElem?_cons_zero, List.getElem?_cons_succ]; rfl)
  case hqd6 => exact fun _ _ _ h => h
  case hyd6 => (refine Or.inl ⟨by rfl, ?_⟩; intro w' hSw; (try dsimp only at hSw); go_simp; try with_reducible rfl)
  (try simp only [Act.put, List.setIfInBounds_toArray, List.set_cons_zero, List.set_cons_succ])
  refine' wpAnyT_one (i := 7) (o := ?oie7) (by kernel_rfl) ?hie7 (fun K hK => ?ste7)
  case hie7 => (simp only [List.getElem?_toArray, List.getElem?_cons_zero, List.getElem?_cons_succ]; rfl)
  go_simp
  refine HPI.out.mono ?_
  rintro e W5 ⟨v5, rfl, hv5, hn5, hb5⟩
  obtain ⟨a5, c5, rfl⟩ := byt_form hv5
  obtain ⟨ad5, rfl⟩ := byt_some hv5 HEP.out
  have HV5 := hid hv5
  have HB5 := hid ((hb5.block g hgl4).trans HB4.out)
  have HX5 := hid ((hb5.block mb hml4).trans HX4.out)
  have HO5 := hid (own_keep (show W4.drew.ownsRow base 5 1 (.slice a3 (L + 1) c3) (L + 1) ((l ++ [z]).map byteV) from HO4.out) (keep_below hb5))
  have HC5 := hid (HC4.out.trans ((Chg.below (below_drew (Below.refl W4.heap.size W4))).trans (Chg.below hb5)))
  have hz5 : base ≤ W5.heap.size := Nat.le_trans hz4 hb5.size
  clear hHeld hv5 hb5 HB4 HX4 HO4 HC4 HPI
  have hHeld : W5.cell? ⟨g, 0, none⟩ = some (.slice a3 (L + 1) c3) ∧ W5.cell? ⟨mb, 0, none⟩ = some (.int .i64 (D : Int)) := ⟨cell_of_row _ _ 0 _ _ _ HB5.out, cell_of_row _ _ 0 _ _ _ HX5.out⟩
  refine hK.out _ _ (fun _ => hHeld) ?_
  clear hK K
  (try simp only [Act.put, List.setIfInBounds_toArray, List.set_cons_zero, List.set_cons_succ])
  refine' wpAnyT_one (i := 8) (o := ?oie8) (by kernel_rfl) ?hie8 (fun K hK => ?ste8)
  case hie8 => (simp only [List.getElem?_toArray, List.getElem?_cons_zero, List.getElem?_cons_succ]; rfl)
  refine step_append_byt_at rfl (.tmp 22) (.tmp 25) rfl base (.slice a3 (L + 1) c3) (L + 1) _ (by simp [Act.eval]) HO5.out (enc D) ad5 _ c5 (by simp [Act.eval]) HV5.out (by have := HE8.out; omega) hz5 ?_
  intro v6 W6 ho6 hg6 hat6
  have HC6 := hid (HC5.out.trans (Chg.grown hg6 hat6))
  have hb6 := enc_grown HB5.out HO5.out hg6
  have hx6 := keep_grown (T := 68) HO5.out (by decide) hg6 mb _ HX5.out
  obtain ⟨a6, c6, rfl⟩ := own_form ho6
  have HN6 := hid (enc_not hb6 ho6)
  have HB6 := hid hb6
  have HX6 := hid hx6
  have HO6 := hid ho6
  have hz6 : base ≤ W6.heap.size := Nat.le_trans hz5 hg6.size
  clear hHeld hg6 hb6 hx6 ho6 hat6 HB5 HX5 HO5 HC5 HV5
  have hHeld : W6.cell? ⟨g, 0, none⟩ = some (.slice a3 (L + 1) c3) ∧ W6.cell? ⟨mb, 0, none⟩ = some (.int .i64 (D : Int)) := ⟨cell_of_row _ _ 0 _ _ _ HB6.out, cell_of_row _ _ 0 _ _ _ HX6.out⟩
  have f0 := box_fr HB6.out 0
  refine hK.out _ _ (fun _ => hHeld) ?_
  clear hK K
  (try simp only [Act.put, List.setIfInBounds_toArray, List.set_cons_zero, List.set_cons_succ])
  refine' wpAnyT_one (i := 9) (o := ?oie9) (by kernel_rfl) ?hie9 (fun K hK => ?ste9)
  case hie9 => (simp only [List.getElem?_toArray, List.getElem?_cons_zero, List.getElem?_cons_succ]; rfl)
  go_simp
  refine hK.out _ _ (fun _ => hHeld) ?_
  clear hK K
  (try simp only [Act.put, List.setIfInBounds_toArray, List.set_cons_zero, List.set_cons_succ])
  refine' wpAnyT_one (i := 10) (o := ?oie10) (by kernel_rfl) ?hie10 (fun K hK => ?ste10)
  case hie10 => (simp only [List.getElem?_toArray, List.getElem?_cons_zero, List.getElem?_cons_succ]; rfl)
  go_simp
  refine hK.out _ _ (fun _ => hHeld) ?_
  clear hK K
  (try simp only [Act.put, List.setIfInBounds_toArray, List.set_cons_zero, List.set_cons_succ])
  refine' wpAnyT_one (i := 11) (o := ?oie11) (by kernel_rfl) ?hie11 (fun K hK => ?ste11)
  case hie11 => (simp only [List.getElem?_toArray, List.getElem?_cons_zero, List.getElem?_cons_succ]; rfl)
  go_simp
  refine hK.out _ _ (fun h => absurd h (by decide)) ?_
  clear hK K
  (try simp only [Act.put, List.setIfInBounds_toArray, List.set_cons_zero, List.set_cons_succ])
  refine wpAnyT_done (by kernel_rfl) ?_ _
  have HB7 := hid (bx_0 HB6.out (.slice a6 (L + 1 + (enc D).length) c6))
  have HO7 := hid (show (W6.setCell ⟨g, 0, none⟩ (.slice a6 (L + 1 + (enc D).length) c6)).ownsRow base 5 1 (.slice a6 (L + 1 + (enc D).length) c6) (L + 1 + (enc D).length) ((l ++ [z]).map byteV ++ (enc D).map byteV) from ownsRow_setCell_other HO6.out HN6.out _)
  have HC7 := hid (HC6.out.set 0 (.slice a6 (L + 1 + (enc D).length) c6))
  clear hHeld f0 HO6 HN6 HC6 HB6 HX6
  obtain ⟨W7, hW7⟩ : ∃ W7, W6.setCell ⟨g, 0, none⟩ (.slice a6 (L + 1 + (enc D).length) c6) = W7 := ⟨_, rfl⟩
  have hz7 : base ≤ W7.heap.size := by rw [← hW7]; simpa using hz6
  rw [hW7] at HB7 HO7 HC7 ⊢
  clear hW7 hz6
  have hlen : (l ++ [z] ++ enc D).length = L + 1 + (enc D).length := by rw [List.length_append, List.length_append, HLL.out]; rfl
  go_wp2
  go_end0
  exact ⟨⟨_, rfl⟩, _, ⟨HB7.out, by rw [hlen, List.map_append]; exact HO7.out, hz7⟩, HC7.out⟩
end Go.Proofs.Ytldlddoealpomaa
