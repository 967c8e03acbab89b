/- Superblock: Pack 43 of 32 bytes. -/
import Derived.Test.YtnocgfhcamnjdaaAl
namespace Go.Proofs.Ytnocgfhcamnjdaa
open Go.RowKit Go.Lib

/-- 64 cells, of which the first have been filled. -/
def rowZ (X : List Nat) : List Value := X.map byteV ++ List.replicate (64 - X.length) (.int .u8 0)
theorem rowZ_len {X : List Nat} (h : X.length ≤ 64) : (rowZ X).length = 64 := by
  unfold rowZ
  rw [List.length_append, List.length_map, List.length_replicate]
  omega
theorem rowZ_set {X : List Nat} (x : Nat) (h : X.length < 64) : (rowZ X).set X.length (byteV x) = rowZ (X ++ [x]) := by
  unfold rowZ
  obtain ⟨n, hn⟩ : ∃ n, 64 - X.length = n + 1 := ⟨63 - X.length, by omega⟩
  rw [hn, List.replicate_succ]
  have h1 := set_mid (X.map byteV) (List.replicate n (.int .u8 0)) (.int .u8 0) (byteV x)
  rw [List.length_map] at h1
  rw [h1, List.length_append, List.length_singleton, show 64 - (X.length + 1) = n by omega, List.map_append, List.append_assoc]
  rfl
theorem rowZ_splice {X : List Nat} (xs : List Nat) (h : X.length + xs.length ≤ 64) : splice (rowZ X) X.length (xs.map byteV) = rowZ (X ++ xs) := by
  unfold splice rowZ
  have e1 : ((X.map byteV) ++ List.replicate (64 - X.length) (Value.int .u8 0)).take X.length = X.map byteV := List.take_left' (by rw [List.length_map])
  have e2 : ((X.map byteV) ++ List.replicate (64 - X.length) (Value.int .u8 0)).drop (X.length + xs.length) = List.replicate (64 - (X.length + xs.length)) (Value.int .u8 0) := by
    rw [List.drop_append, List.length_map, List.drop_of_length_le (by rw [List.length_map]; omega), List.nil_append, List.drop_replicate]
    congr 1
    omega
  rw [e1, List.length_map, e2, List.map_append, List.append_assoc, List.length_append]
theorem rowZ_full {X : List Nat} (h : X.length = 64) : rowZ X = X.map byteV := by
  unfold rowZ
  rw [h, Nat.sub_self, List.replicate_zero, List.append_nil]
theorem secsN_snoc (g : Nat) : ∀ (n : Nat) (c : List Nat), secsN g (n + 1) c = secsN g n c ++ [le4 g ++ (c.drop (4 * n)).take 4]
  | 0, c => by rw [secsN, secsN, secsN]; rfl
  | n + 1, c => by
    rw [secsN, secsN_snoc g n, secsN, List.cons_append, List.drop_drop, show 4 + 4 * n = 4 * (n + 1) by omega]
def fl (g : Nat) (p : List Nat) (i : Nat) : List Nat := (secsN g i p).flatten
theorem fl_next (g : Nat) (p : List Nat) (i : Nat) : fl g p (i + 1) = (fl g p i ++ le4 g) ++ (p.drop (4 * i)).take 4 := by
  unfold fl
  rw [secsN_snoc, List.flatten_append, List.flatten_cons, List.flatten_nil, List.append_nil, List.append_assoc]
theorem fl_len {g : Nat} {p : List Nat} (h : p.length = 32) : ∀ i, i ≤ 8 → (fl g p i).length = i * 8
  | 0, _ => rfl
  | i + 1, hi => by
    rw [fl_next, List.length_append, List.length_append, fl_len h i (by omega), le4_len, List.length_take, List.length_drop]
    omega
theorem fl_cells (g : Nat) (p : List Nat) (i : Nat) : (fl g p i).map byteV = ((secsN g i p).map cSec).flatten := by
  unfold fl cSec
  rw [List.map_flatten]
theorem stepZ {X0 : World} {gl n : Nat} {X : List Nat} {u : Value} (x : Nat) (h : X0.heap[gl]? = some (.cells (rowZ X).toArray 57)) (hl : X.length = n) (hn : n < 64) (hu : u = byteV x) : (X0.setCell ⟨gl, n, none⟩ u).heap[gl]? = some (.cells (rowZ (X ++ [x])).toArray 57) := by
  have h1 := box_set h n u
  rw [← hl, hu, rowZ_set x (by omega)] at h1
  rw [← hl, hu]
  exact h1
theorem cellZ {X0 : World} {gl n : Nat} {X : List Nat} (h : X0.heap[gl]? = some (.cells (rowZ X).toArray 57)) (hl : X.length = n) (hn : n < 64) : ∃ u, X0.cell? ⟨gl, n, none⟩ = some u := by
  refine ⟨(rowZ X)[n]'(by rw [rowZ_len (by omega)]; exact hn), ?_⟩
  rw [cell_of_row _ _ _ _ _ _ h, List.getElem?_toArray]
  exact List.getElem?_eq_getElem _
theorem laid_rowZ : laid [] 8 = rowZ [] := by kernel_rfl
theorem run_sliceAt57 (g o : Nat) (W : World) : (Instr.sliceAt 57 (.pointer (some ⟨g, o, none⟩)) (some (.int .i64 4)) none none).run Try.prog W = .ok (.slice (some ⟨g, o + 4, none⟩) 4 4) W := by
  simp [Instr.sliceAt, Instr.sureAddr, run_underlying Try.underlying57, Instr.sliceBounds, Sem.run_bind, run_sliceBound_if]
  rw [add_at]
theorem run_slice22t (b off c i : Nat) (x : Int) (hx : x = ((4 * i : Nat) : Int)) (hi : i < 8) (hc : 32 ≤ c) (W : World) : (Instr.slice 22 (.slice (some ⟨b, off, none⟩) 32 c) (some (.int .i64 x)) none none).run Try.prog W = .ok (.slice (some ⟨b, off + 4 * i, none⟩) (32 - 4 * i) (c - 4 * i)) W := by
  subst hx
  simp [Instr.slice, run_underlying Try.underlying22, Instr.sliceBounds, Sem.run_bind, run_sliceBound_if]
  rw [if_pos ⟨by omega, by omega⟩, if_neg (by omega), show (4 * (i : Int)).toNat = 4 * i by omega, add_at]
set_option maxHeartbeats 4000000 in
set_option maxRecDepth 100000 in
theorem pack_any (g : Nat) (_hg : g < 4294967296) (p : List Nat) (v : Value) (w : World) (hv : Byt w v p) (hl : p.length = 32) :
    Calls Try.prog 43 #[.int .u32 (g : Int), v] w (MadeS w (secsN g 8 p)) := by
  obtain ⟨A, c, rfl⟩ := byt_form hv
  obtain ⟨b, off, rfl, hbw, hcell⟩ := byt_cells hv (by omega)
  have hcc := (arr_cap hv.2.2).2
  rw [hl] at hv hcc ⊢
  have HSRC0 : Hid (∀ X, Below w.heap.size w X → ∀ i x, p[i]? = some x → X.cell? ⟨b, off + i, none⟩ = some (byteV x)) := hid (fun X hX i x hx => by
    have h := hcell i x hx
    unfold World.cell? at h ⊢
    rw [hX.block b hbw]
    exact h)
  have HP := hid hl
  clear hv hcell hl
  obtain ⟨gl, hgl⟩ : ∃ q, w.heap.size = q := ⟨_, rfl⟩
  obtain ⟨W1, hW1⟩ : ∃ X, w.alloc (.cells (laid [] 8).toArray 57) = X := ⟨_, rfl⟩
  have hb1 : Below w.heap.size w W1 := by rw [← hW1]; exact al1 _ _
  have hx1 : W1.heap[gl]? = some (.cells (rowZ (fl g p 0)).toArray 57) := by rw [← hW1, ← hgl, show fl g p 0 = [] from rfl, ← laid_rowZ]; exact heap_alloc_new _ _
  have hmk : ∀ W, (Instr.makeSlice 32 (.int .i64 8) (.int .i64 8)).run Try.prog W = .ok (.slice (some ⟨W.heap.size, 0, none⟩) 8 8) (W.alloc (.cells (laid [] 8).toArray 57)) := fun W => make22 W 8 (by omega)
  have HB1 := hid hb1
  have HX1 := hid hx1
  have HW1 := hid hW1
  have HGL := hid hgl
  have HGW : Hid (w.heap.size ≤ gl) := hid (Nat.le_of_eq hgl)
  clear hb1 hx1 hW1 hgl
  go_enter Try.func43, Try.ntmps43
  go_upto_region 2 with fail
  rw [HW1.out, HGL.out]
  clear hmk
  go_upto_region 3 with fail
  go_loopw [16] (fun iv wr => ∃ i : Nat, i ≤ 8 ∧ iv = .int .i64 (i : Int) ∧ Hid (wr.heap[gl]? = some (.cells (rowZ (fl g p i)).toArray 57)) ∧ Hid (Below w.heap.size w wr)) (fun iv _ => 8 - (Go.RowKit.intOf iv).toNat)
  case atStart => exact ⟨0, Nat.zero_le _, rfl, HX1, HB1⟩
  case round =>
    obtain ⟨i, hi, rfl, HH, HB⟩ := hrel
    by_cases hin : i < 8
    · have d0 : decide ((i : Int) < 8) = true := decide_eq_true (by omega)
      have hin' : (i : Int) < 8 := by omega
      go_upto_region 6 with fail
      clear d0
      go_loopw [19] (fun kv wk => ∃ k : Nat, k ≤ 4 ∧ kv = .int .i64 (k : Int) ∧ Hid (wk.heap[gl]? = some (.cells (rowZ (fl g p i ++ (le4 g).take k)).toArray 57)) ∧ Hid (Below w.heap.size w wk)) (fun kv _ => 4 - (Go.RowKit.intOf kv).toNat)
      case atStart => exact ⟨0, Nat.zero_le _, rfl, hid (by rw [List.take_zero, List.append_nil]; exact HH.out), HB⟩
      case round =>
        obtain ⟨k, hk, rfl, HHk, HBk⟩ := hrel
        by_cases hk4 : k < 4
        · have d0 : decide ((k : Int) < 4) = true := decide_eq_true (by omega)
          have hk4' : (k : Int) < 4 := by omega
          have HXL := hid (show (fl g p i ++ (le4 g).take k).length = i * 8 + k from by rw [List.length_append, fl_len HP.out i (by omega), List.length_take, le4_len]; omega)
          go_upto_region 8 with fail
          have hHeld : True := trivial
          have q0 : IntKind.i64.wrap 0 = 0 := by decide
          have q8 : IntKind.i64.wrap 8 = 8 := by decide
          have q16 : IntKind.i64.wrap 16 = 16 := by decide
          have q24 : IntKind.i64.wrap 24 = 24 := by decide
          refine region_tail 10 (fun _ => True) (by kernel_rfl) ?_
          obtain ⟨X0, hX0⟩ : ∃ X, wr.drew = X := ⟨_, rfl⟩
          have hBX0 : Below wr.heap.size wr X0 := by rw [← hX0]; exact (Below.refl wr.heap.size wr).drew
          have HX0 : Hid (X0.heap[gl]? = some (.cells (rowZ (fl g p i ++ (le4 g).take k)).toArray 57)) := hid (by rw [← hX0]; exact HHk.out)
          rw [hX0]
          clear hX0
          have hcz := cellZ HX0.out HXL.out (by omega)
          have hfz := box_fr HX0.out (i * 8 + k)
          obtain ⟨cv, hcz⟩ := hcz
          have HBX := hid (HBk.out.trans (hBX0.mono HBk.out.size))
          clear hBX0
          obtain rfl | rfl | rfl | rfl : k = 0 ∨ k = 1 ∨ k = 2 ∨ k = 3 := by omega
          · rw [Nat.add_zero] at hcz hfz
            refine' wpAnyT_take (i := 0) (oi := ?oia0) (v := ?va0) ?hia0 (by kernel_rfl) (by kernel_rfl) ?hqa0 ?hya0 hHeld ?resta0
            case hia0 => (simp only [List.getElem?_toArray, List.getElem?_cons_zero]; rfl)
            case hqa0 => exact fun _ _ _ h => h
            case hya0 => (refine Or.inl ⟨by rfl, ?_⟩; intro w' hSw; (try dsimp only at hSw); go_simp; try with_reducible rfl)
            (try simp only [Act.put, List.setIfInBounds_toArray, List.set_cons_zero, List.set_cons_succ])
            refine' wpAnyT_take (i := 1) (oi := ?oia1) (v := ?va1) ?hia1 (by kernel_rfl) (by kernel_rfl) ?hqa1 ?hya1 hHeld ?resta1
            case hia1 => (simp only [List.getElem?_toArray, List.getElem?_cons_zero, List.getElem?_cons_succ]; rfl)
            case hqa1 => exact fun _ _ _ h => h
            case hya1 => (refine Or.inl ⟨by rfl, ?_⟩; intro w' hSw; (try dsimp only at hSw); go_simp; try with_reducible rfl)
            (try simp only [Act.put, List.setIfInBounds_toArray, List.set_cons_zero, List.set_cons_succ])
            refine' wpAnyT_take (i := 2) (oi := ?oia2) (v := ?va2) ?hia2 (by kernel_rfl) (by kernel_rfl) ?hqa2 ?hya2 hHeld ?resta2
            case hia2 => (simp only [List.getElem?_toArray, List.getElem?_cons_zero, List.getElem?_cons_succ]; rfl)
            case hqa2 => exact fun _ _ _ h => h
            case hya2 => (refine Or.inl ⟨by rfl, ?_⟩; intro w' hSw; (try dsimp only at hSw); go_simp; try with_reducible rfl)
            (try simp only [Act.put, List.setIfInBounds_toArray, List.set_cons_zero, List.set_cons_succ])
            refine' wpAnyT_take (i := 3) (oi := ?oia3) (v := ?va3) ?hia3 (by kernel_rfl) (by kernel_rfl) ?hqa3 ?hya3 hHeld ?resta3
            case hia3 => (simp only [List.getElem?_toArray, List.getElem?_cons_zero, List.getElem?_cons_succ]; rfl)
            case hqa3 => exact fun _ _ _ h => h
            case hya3 => (refine Or.inl ⟨by rfl, ?_⟩; intro w' hSw; (try dsimp only at hSw); go_simp; try with_reducible rfl)
            (try simp only [Act.put, List.setIfInBounds_toArray, List.set_cons_zero, List.set_cons_succ])
            refine' wpAnyT_take (i := 4) (oi := ?oia4) (v := ?va4) ?hia4 (by kernel_rfl) (by kernel_rfl) ?hqa4 ?hya4 hHeld ?resta4
            case hia4 => (simp only [List.getElem?_toArray, List.getElem?_cons_zero, List.getElem?_cons_succ]; rfl)
            case hqa4 => exact fun _ _ _ h => h
            case hya4 => (refine Or.inl ⟨by rfl, ?_⟩; intro w' hSw; (try dsimp only at hSw); go_simp; try with_reducible rfl)
            (try simp only [Act.put, List.setIfInBounds_toArray, List.set_cons_zero, List.set_cons_succ])
            refine' wpAnyT_take (i := 5) (oi := ?oia5) (v := ?va5) ?hia5 (by kernel_rfl) (by kernel_rfl) ?hqa5 ?hya5 hHeld ?resta5
            case hia5 => (simp only [List.getElem?_toArray, List.getElem?_cons_zero, List.getElem?_cons_succ]; rfl)
            case hqa5 => exact fun _ _ _ h => h
            case hya5 => (refine Or.inl ⟨by rfl, ?_⟩; intro w' hSw; (try dsimp only at hSw); go_simp; try with_reducible rfl)
            (try simp only [Act.put, List.setIfInBounds_toArray, List.set_cons_zero, List.set_cons_succ])
            refine' wpAnyT_take (i := 6) (oi := ?oia6) (v := ?va6) ?hia6 (by kernel_rfl) (by kernel_rfl) ?hqa6 ?hya6 hHeld ?resta6
            case hia6 => (simp only [List.getElem?_toArray, List.getElem?_cons_zero, List.getElem?_cons_succ]; rfl)
            case hqa6 => exact fun _ _ _ h => h
            case hya6 => (refine Or.inl ⟨by rfl, ?_⟩; intro w' hSw; (try dsimp only at hSw); go_simp; try with_reducible rfl)
            (try simp only [Act.put, List.setIfInBounds_toArray, List.set_cons_zero, List.set_cons_succ])
            refine' wpAnyT_take (i := 7) (oi := ?oia7) (v := ?va7) ?hia7 (by kernel_rfl) (by kernel_rfl) ?hqa7 ?hya7 hHeld ?resta7
            case hia7 => (simp only [List.getElem?_toArray, List.getElem?_cons_zero, List.getElem?_cons_succ]; rfl)
            case hqa7 => exact fun _ _ _ h => h
            case hya7 => (refine Or.inl ⟨by rfl, ?_⟩; intro w' hSw; (try dsimp only at hSw); go_simp; try with_reducible rfl)
            (try simp only [Act.put, List.setIfInBounds_toArray, List.set_cons_zero, List.set_cons_succ])
            refine' wpAnyT_take (i := 8) (oi := ?oia8) (v := ?va8) ?hia8 (by kernel_rfl) (by kernel_rfl) ?hqa8 ?hya8 hHeld ?resta8
            case hia8 => (simp only [List.getElem?_toArray, List.getElem?_cons_zero, List.getElem?_cons_succ]; rfl)
            case hqa8 => exact fun _ _ _ h => h
            case hya8 => (refine Or.inl ⟨by rfl, ?_⟩; intro w' hSw; (try dsimp only at hSw); go_simp; try with_reducible rfl)
            (try simp only [Act.put, List.setIfInBounds_toArray, List.set_cons_zero, List.set_cons_succ])
            refine' wpAnyT_take (i := 9) (oi := ?oia9) (v := ?va9) ?hia9 (by kernel_rfl) (by kernel_rfl) ?hqa9 ?hya9 hHeld ?resta9
            case hia9 => (simp only [List.getElem?_toArray, List.getElem?_cons_zero, List.getElem?_cons_succ]; rfl)
            case hqa9 => exact fun _ _ _ h => h
            case hya9 => (refine Or.inl ⟨by rfl, ?_⟩; intro w' hSw; (try dsimp only at hSw); go_simp; try with_reducible rfl)
            (try simp only [Act.put, List.setIfInBounds_toArray, List.set_cons_zero, List.set_cons_succ])
            refine' wpAnyT_one (i := 10) (o := ?oia10) (by kernel_rfl) ?hia10 (fun K hK => ?sta10)
            case hia10 => (simp only [List.getElem?_toArray, List.getElem?_cons_zero, List.getElem?_cons_succ]; rfl)
            go_simp
            refine hK.out _ _ (fun h => absurd h (by decide)) ?_
            clear hK K
            (try simp only [Act.put, List.setIfInBounds_toArray, List.set_cons_zero, List.set_cons_succ])
            refine wpAnyT_done (by kernel_rfl) ?_ _
            obtain ⟨X1, hX1⟩ : ∃ X, X0.setCell ⟨gl, i * 8, none⟩ (.int .u8 (IntKind.u8.wrap (g : Int))) = X := ⟨_, rfl⟩
            have HH1 : Hid (X1.heap[gl]? = some (.cells (rowZ (fl g p i ++ (le4 g).take (0 + 1))).toArray 57)) := hid (by
              have h := stepZ (g % 256) HX0.out HXL.out (by omega) (u := .int .u8 (IntKind.u8.wrap (g : Int))) (by unfold byteV; rw [IntKind.wrap_u8]; congr 1)
              rw [List.append_assoc] at h
              rw [← hX1]
              exact h)
            have HB1 : Hid (Below w.heap.size w X1) := hid (by rw [← hX1]; exact HBX.out.setCell (p := ⟨gl, _, none⟩) HGW.out _)
            rw [hX1]
            clear hX1 hcz hfz
            go_wp2_with fail
            go_roundw
            case rel => exact ⟨0 + 1, by omega, by go_num, HH1, HB1⟩
            case measure => simp [Go.RowKit.intOf]
          · refine' wpAnyT_take (i := 0) (oi := ?oib0) (v := ?vb0) ?hib0 (by kernel_rfl) (by kernel_rfl) ?hqb0 ?hyb0 hHeld ?restb0
            case hib0 => (simp only [List.getElem?_toArray, List.getElem?_cons_zero]; rfl)
            case hqb0 => exact fun _ _ _ h => h
            case hyb0 => (refine Or.inl ⟨by rfl, ?_⟩; intro w' hSw; (try dsimp only at hSw); go_simp; try with_reducible rfl)
            (try simp only [Act.put, List.setIfInBounds_toArray, List.set_cons_zero, List.set_cons_succ])
            refine' wpAnyT_take (i := 1) (oi := ?oib1) (v := ?vb1) ?hib1 (by kernel_rfl) (by kernel_rfl) ?hqb1 ?hyb1 hHeld ?restb1
            case hib1 => (simp only [List.getElem?_toArray, List.getElem?_cons_zero, List.getElem?_cons_succ]; rfl)
            case hqb1 => exact fun _ _ _ h => h
            case hyb1 => (refine Or.inl ⟨by rfl, ?_⟩; intro w' hSw; (try dsimp only at hSw); go_simp; try with_reducible rfl)
            (try simp only [Act.put, List.setIfInBounds_toArray, List.set_cons_zero, List.set_cons_succ])
            refine' wpAnyT_take (i := 2) (oi := ?oib2) (v := ?vb2) ?hib2 (by kernel_rfl) (by kernel_rfl) ?hqb2 ?hyb2 hHeld ?restb2
            case hib2 => (simp only [List.getElem?_toArray, List.getElem?_cons_zero, List.getElem?_cons_succ]; rfl)
            case hqb2 => exact fun _ _ _ h => h
            case hyb2 => (refine Or.inl ⟨by rfl, ?_⟩; intro w' hSw; (try dsimp only at hSw); go_simp; try with_reducible rfl)
            (try simp only [Act.put, List.setIfInBounds_toArray, List.set_cons_zero, List.set_cons_succ])
            refine' wpAnyT_take (i := 3) (oi := ?oib3) (v := ?vb3) ?hib3 (by kernel_rfl) (by kernel_rfl) ?hqb3 ?hyb3 hHeld ?restb3
            case hib3 => (simp only [List.getElem?_toArray, List.getElem?_cons_zero, List.getElem?_cons_succ]; rfl)
            case hqb3 => exact fun _ _ _ h => h
            case hyb3 => (refine Or.inl ⟨by rfl, ?_⟩; intro w' hSw; (try dsimp only at hSw); go_simp; try with_reducible rfl)
            (try simp only [Act.put, List.setIfInBounds_toArray, List.set_cons_zero, List.set_cons_succ])
            refine' wpAnyT_take (i := 4) (oi := ?oib4) (v := ?vb4) ?hib4 (by kernel_rfl) (by kernel_rfl) ?hqb4 ?hyb4 hHeld ?restb4
            case hib4 => (simp only [List.getElem?_toArray, List.getElem?_cons_zero, List.getElem?_cons_succ]; rfl)
            case hqb4 => exact fun _ _ _ h => h
            case hyb4 => (refine Or.inl ⟨by rfl, ?_⟩; intro w' hSw; (try dsimp only at hSw); go_simp; try with_reducible rfl)
            (try simp only [Act.put, List.setIfInBounds_toArray, List.set_cons_zero, List.set_cons_succ])
            refine' wpAnyT_take (i := 5) (oi := ?oib5) (v := ?vb5) ?hib5 (by kernel_rfl) (by kernel_rfl) ?hqb5 ?hyb5 hHeld ?restb5
            case hib5 => (simp only [List.getElem?_toArray, List.getElem?_cons_zero, List.getElem?_cons_succ]; rfl)
            case hqb5 => exact fun _ _ _ h => h
            case hyb5 => (refine Or.inl ⟨by rfl, ?_⟩; intro w' hSw; (try dsimp only at hSw); go_simp; try with_reducible rfl)
            (try simp only [Act.put, List.setIfInBounds_toArray, List.set_cons_zero, List.set_cons_succ])
            refine' wpAnyT_take (i := 6) (oi := ?oib6) (v := ?vb6) ?hib6 (by kernel_rfl) (by kernel_rfl) ?hqb6 ?hyb6 hHeld ?restb6
            case hib6 => (simp only [List.getElem?_toArray, List.getElem?_cons_zero, List.getElem?_cons_succ]; rfl)
            case hqb6 => exact fun _ _ _ h => h
            case hyb6 => (refine Or.inl ⟨by rfl, ?_⟩; intro w' hSw; (try dsimp only at hSw); go_simp; try with_reducible rfl)
            (try simp only [Act.put, List.setIfInBounds_toArray, List.set_cons_zero, List.set_cons_succ])
            refine' wpAnyT_take (i := 7) (oi := ?oib7) (v := ?vb7) ?hib7 (by kernel_rfl) (by kernel_rfl) ?hqb7 ?hyb7 hHeld ?restb7
            case hib7 => (simp only [List.getElem?_toArray, List.getElem?_cons_zero, List.getElem?_cons_succ]; rfl)
            case hqb7 => exact fun _ _ _ h => h
            case hyb7 => (refine Or.inl ⟨by rfl, ?_⟩; intro w' hSw; (try dsimp only at hSw); go_simp; try with_reducible rfl)
            (try simp only [Act.put, List.setIfInBounds_toArray, List.set_cons_zero, List.set_cons_succ])
            refine' wpAnyT_take (i := 8) (oi := ?oib8) (v := ?vb8) ?hib8 (by kernel_rfl) (by kernel_rfl) ?hqb8 ?hyb8 hHeld ?restb8
            case hib8 => (simp only [List.getElem?_toArray, List.getElem?_cons_zero, List.getElem?_cons_succ]; rfl)
            case hqb8 => exact fun _ _ _ h => h
            case hyb8 => (refine Or.inl ⟨by rfl, ?_⟩; intro w' hSw; (try dsimp only at hSw); go_simp; try with_reducible rfl)
            (try simp only [Act.put, List.setIfInBounds_toArray, List.set_cons_zero, List.set_cons_succ])
            refine' wpAnyT_take (i := 9) (oi := ?oib9) (v := ?vb9) ?hib9 (by kernel_rfl) (by kernel_rfl) ?hqb9 ?hyb9 hHeld ?restb9
            case hib9 => (simp only [List.getElem?_toArray, List.getElem?_cons_zero, List.getElem?_cons_succ]; rfl)
            case hqb9 => exact fun _ _ _ h => h
            case hyb9 => (refine Or.inl ⟨by rfl, ?_⟩; intro w' hSw; (try dsimp only at hSw); go_simp; try with_reducible rfl)
            (try simp only [Act.put, List.setIfInBounds_toArray, List.set_cons_zero, List.set_cons_succ])
            refine' wpAnyT_one (i := 10) (o := ?oib10) (by kernel_rfl) ?hib10 (fun K hK => ?stb10)
            case hib10 => (simp only [List.getElem?_toArray, List.getElem?_cons_zero, List.getElem?_cons_succ]; rfl)
            go_simp
            refine hK.out _ _ (fun h => absurd h (by decide)) ?_
            clear hK K
            (try simp only [Act.put, List.setIfInBounds_toArray, List.set_cons_zero, List.set_cons_succ])
            refine wpAnyT_done (by kernel_rfl) ?_ _
            obtain ⟨X1, hX1⟩ : ∃ X, X0.setCell ⟨gl, i * 8 + 1, none⟩ (.int .u8 (IntKind.u8.wrap ((g : Int) / 256))) = X := ⟨_, rfl⟩
            have HH1 : Hid (X1.heap[gl]? = some (.cells (rowZ (fl g p i ++ (le4 g).take (1 + 1))).toArray 57)) := hid (by
              have h := stepZ (g / 256 % 256) HX0.out HXL.out (by omega) (u := .int .u8 (IntKind.u8.wrap ((g : Int) / 256))) (by unfold byteV; rw [IntKind.wrap_u8]; congr 1)
              rw [List.append_assoc] at h
              rw [← hX1]
              exact h)
            have HB1 : Hid (Below w.heap.size w X1) := hid (by rw [← hX1]; exact HBX.out.setCell (p := ⟨gl, _, none⟩) HGW.out _)
            rw [hX1]
            clear hX1 hcz hfz
            go_wp2_with fail
            go_roundw
            case rel => exact ⟨1 + 1, by omega, by go_num, HH1, HB1⟩
            case measure => simp [Go.RowKit.intOf]
          · refine' wpAnyT_take (i := 0) (oi := ?oic0) (v := ?vc0) ?hic0 (by kernel_rfl) (by kernel_rfl) ?hqc0 ?hyc0 hHeld ?restc0
            case hic0 => (simp only [List.getElem?_toArray, List.getElem?_cons_zero]; rfl)
            case hqc0 => exact fun _ _ _ h => h
            case hyc0 => (refine Or.inl ⟨by rfl, ?_⟩; intro w' hSw; (try dsimp only at hSw); go_simp; try with_reducible rfl)
            (try simp only [Act.put, List.setIfInBounds_toArray, List.set_cons_zero, List.set_cons_succ])
            refine' wpAnyT_take (i := 1) (oi := ?oic1) (v := ?vc1) ?hic1 (by kernel_rfl) (by kernel_rfl) ?hqc1 ?hyc1 hHeld ?restc1
            case hic1 => (simp only [List.getElem?_toArray, List.getElem?_cons_zero, List.getElem?_cons_succ]; rfl)
            case hqc1 => exact fun _ _ _ h => h
            case hyc1 => (refine Or.inl ⟨by rfl, ?_⟩; intro w' hSw; (try dsimp only at hSw); go_simp; try with_reducible rfl)
            (try simp only [Act.put, List.setIfInBounds_toArray, List.set_cons_zero, List.set_cons_succ])
            refine' wpAnyT_take (i := 2) (oi := ?oic2) (v := ?vc2) ?hic2 (by kernel_rfl) (by kernel_rfl) ?hqc2 ?hyc2 hHeld ?restc2
            case hic2 => (simp only [List.getElem?_toArray, List.getElem?_cons_zero, List.getElem?_cons_succ]; rfl)
            case hqc2 => exact fun _ _ _ h => h
            case hyc2 => (refine Or.inl ⟨by rfl, ?_⟩; intro w' hSw; (try dsimp only at hSw); go_simp; try with_reducible rfl)
            (try simp only [Act.put, List.setIfInBounds_toArray, List.set_cons_zero, List.set_cons_succ])
            refine' wpAnyT_take (i := 3) (oi := ?oic3) (v := ?vc3) ?hic3 (by kernel_rfl) (by kernel_rfl) ?hqc3 ?hyc3 hHeld ?restc3
            case hic3 => (simp only [List.getElem?_toArray, List.getElem?_cons_zero, List.getElem?_cons_succ]; rfl)
            case hqc3 => exact fun _ _ _ h => h
            case hyc3 => (refine Or.inl ⟨by rfl, ?_⟩; intro w' hSw; (try dsimp only at hSw); go_simp; try with_reducible rfl)
            (try simp only [Act.put, List.setIfInBounds_toArray, List.set_cons_zero, List.set_cons_succ])
            refine' wpAnyT_take (i := 4) (oi := ?oic4) (v := ?vc4) ?hic4 (by kernel_rfl) (by kernel_rfl) ?hqc4 ?hyc4 hHeld ?restc4
            case hic4 => (simp only [List.getElem?_toArray, List.getElem?_cons_zero, List.getElem?_cons_succ]; rfl)
            case hqc4 => exact fun _ _ _ h => h
            case hyc4 => (refine Or.inl ⟨by rfl, ?_⟩; intro w' hSw; (try dsimp only at hSw); go_simp; try with_reducible rfl)
            (try simp only [Act.put, List.setIfInBounds_toArray, List.set_cons_zero, List.set_cons_succ])
            refine' wpAnyT_take (i := 5) (oi := ?oic5) (v := ?vc5) ?hic5 (by kernel_rfl) (by kernel_rfl) ?hqc5 ?hyc5 hHeld ?restc5
            case hic5 => (simp only [List.getElem?_toArray, List.getElem?_cons_zero, List.getElem?_cons_succ]; rfl)
            case hqc5 => exact fun _ _ _ h => h
            case hyc5 => (refine Or.inl ⟨by rfl, ?_⟩; intro w' hSw; (try dsimp only at hSw); go_simp; try with_reducible rfl)
            (try simp only [Act.put, List.setIfInBounds_toArray, List.set_cons_zero, List.set_cons_succ])
            refine' wpAnyT_take (i := 6) (oi := ?oic6) (v := ?vc6) ?hic6 (by kernel_rfl) (by kernel_rfl) ?hqc6 ?hyc6 hHeld ?restc6
            case hic6 => (simp only [List.getElem?_toArray, List.getElem?_cons_zero, List.getElem?_cons_succ]; rfl)
            case hqc6 => exact fun _ _ _ h => h
            case hyc6 => (refine Or.inl ⟨by rfl, ?_⟩; intro w' hSw; (try dsimp only at hSw); go_simp; try with_reducible rfl)
            (try simp only [Act.put, List.setIfInBounds_toArray, List.set_cons_zero, List.set_cons_succ])
            refine' wpAnyT_take (i := 7) (oi := ?oic7) (v := ?vc7) ?hic7 (by kernel_rfl) (by kernel_rfl) ?hqc7 ?hyc7 hHeld ?restc7
            case hic7 => (simp only [List.getElem?_toArray, List.getElem?_cons_zero, List.getElem?_cons_succ]; rfl)
            case hqc7 => exact fun _ _ _ h => h
            case hyc7 => (refine Or.inl ⟨by rfl, ?_⟩; intro w' hSw; (try dsimp only at hSw); go_simp; try with_reducible rfl)
            (try simp only [Act.put, List.setIfInBounds_toArray, List.set_cons_zero, List.set_cons_succ])
            refine' wpAnyT_take (i := 8) (oi := ?oic8) (v := ?vc8) ?hic8 (by kernel_rfl) (by kernel_rfl) ?hqc8 ?hyc8 hHeld ?restc8
            case hic8 => (simp only [List.getElem?_toArray, List.getElem?_cons_zero, List.getElem?_cons_succ]; rfl)
            case hqc8 => exact fun _ _ _ h => h
            case hyc8 => (refine Or.inl ⟨by rfl, ?_⟩; intro w' hSw; (try dsimp only at hSw); go_simp; try with_reducible rfl)
            (try simp only [Act.put, List.setIfInBounds_toArray, List.set_cons_zero, List.set_cons_succ])
            refine' wpAnyT_take (i := 9) (oi := ?oic9) (v := ?vc9) ?hic9 (by kernel_rfl) (by kernel_rfl) ?hqc9 ?hyc9 hHeld ?restc9
            case hic9 => (simp only [List.getElem?_toArray, List.getElem?_cons_zero, List.getElem?_cons_succ]; rfl)
            case hqc9 => exact fun _ _ _ h => h
            case hyc9 => (refine Or.inl ⟨by rfl, ?_⟩; intro w' hSw; (try dsimp only at hSw); go_simp; try with_reducible rfl)
            (try simp only [Act.put, List.setIfInBounds_toArray, List.set_cons_zero, List.set_cons_succ])
            refine' wpAnyT_one (i := 10) (o := ?oic10) (by kernel_rfl) ?hic10 (fun K hK => ?stc10)
            case hic10 => (simp only [List.getElem?_toArray, List.getElem?_cons_zero, List.getElem?_cons_succ]; rfl)
            go_simp
            refine hK.out _ _ (fun h => absurd h (by decide)) ?_
            clear hK K
            (try simp only [Act.put, List.setIfInBounds_toArray, List.set_cons_zero, List.set_cons_succ])
            refine wpAnyT_done (by kernel_rfl) ?_ _
            obtain ⟨X1, hX1⟩ : ∃ X, X0.setCell ⟨gl, i * 8 + 2, none⟩ (.int .u8 (IntKind.u8.wrap ((g : Int) / 65536))) = X := ⟨_, rfl⟩
            have HH1 : Hid (X1.heap[gl]? = some (.cells (rowZ (fl g p i ++ (le4 g).take (2 + 1))).toArray 57)) := hid (by
              have h := stepZ (g / 65536 % 256) HX0.out HXL.out (by omega) (u := .int .u8 (IntKind.u8.wrap ((g : Int) / 65536))) (by unfold byteV; rw [IntKind.wrap_u8]; congr 1)
              rw [List.append_assoc] at h
              rw [← hX1]
              exact h)
            have HB1 : Hid (Below w.heap.size w X1) := hid (by rw [← hX1]; exact HBX.out.setCell (p := ⟨gl, _, none⟩) HGW.out _)
            rw [hX1]
            clear hX1 hcz hfz
            go_wp2_with fail
            go_roundw
            case rel => exact ⟨2 + 1, by omega, by go_num, HH1, HB1⟩
            case measure => simp [Go.RowKit.intOf]
          · refine' wpAnyT_take (i := 0) (oi := ?oid0) (v := ?vd0) ?hid0 (by kernel_rfl) (by kernel_rfl) ?hqd0 ?hyd0 hHeld ?restd0
            case hid0 => (simp only [List.getElem?_toArray, List.getElem?_cons_zero]; rfl)
            case hqd0 => exact fun _ _ _ h => h
            case hyd0 => (refine Or.inl ⟨by rfl, ?_⟩; intro w' hSw; (try dsimp only at hSw); go_simp; try with_reducible rfl)
            (try simp only [Act.put, List.setIfInBounds_toArray, List.set_cons_zero, List.set_cons_succ])
            refine' wpAnyT_take (i := 1) (oi := ?oid1) (v := ?vd1) ?hid1 (by kernel_rfl) (by kernel_rfl) ?hqd1 ?hyd1 hHeld ?restd1
            case hid1 => (simp only [List.getElem?_toArray, List.getElem?_cons_zero, List.getElem?_cons_succ]; rfl)
            case hqd1 => exact fun _ _ _ h => h
            case hyd1 => (refine Or.inl ⟨by rfl, ?_⟩; intro w' hSw; (try dsimp only at hSw); go_simp; try with_reducible rfl)
            (try simp only [Act.put, List.setIfInBounds_toArray, List.set_cons_zero, List.set_cons_succ])
            refine' wpAnyT_take (i := 2) (oi := ?oid2) (v := ?vd2) ?hid2 (by kernel_rfl) (by kernel_rfl) ?hqd2 ?hyd2 hHeld ?restd2
            case hid2 => (simp only [List.getElem?_toArray, List.getElem?_cons_zero, List.getElem?_cons_succ]; rfl)
            case hqd2 => exact fun _ _ _ h => h
            case hyd2 => (refine Or.inl ⟨by rfl, ?_⟩; intro w' hSw; (try dsimp only at hSw); go_simp; try with_reducible rfl)
            (try simp only [Act.put, List.setIfInBounds_toArray, List.set_cons_zero, List.set_cons_succ])
            refine' wpAnyT_take (i := 3) (oi := ?oid3) (v := ?vd3) ?hid3 (by kernel_rfl) (by kernel_rfl) ?hqd3 ?hyd3 hHeld ?restd3
            case hid3 => (simp only [List.getElem?_toArray, List.getElem?_cons_zero, List.getElem?_cons_succ]; rfl)
            case hqd3 => exact fun _ _ _ h => h
            case hyd3 => (refine Or.inl ⟨by rfl, ?_⟩; intro w' hSw; (try dsimp only at hSw); go_simp; try with_reducible rfl)
            (try simp only [Act.put, List.setIfInBounds_toArray, List.set_cons_zero, List.set_cons_succ])
            refine' wpAnyT_take (i := 4) (oi := ?oid4) (v := ?vd4) ?hid4 (by kernel_rfl) (by kernel_rfl) ?hqd4 ?hyd4 hHeld ?restd4
            case hid4 => (simp only [List.getElem?_toArray, List.getElem?_cons_zero, List.getElem?_cons_succ]; rfl)
            case hqd4 => exact fun _ _ _ h => h
            case hyd4 => (refine Or.inl ⟨by rfl, ?_⟩; intro w' hSw; (try dsimp only at hSw); go_simp; try with_reducible rfl)
            (try simp only [Act.put, List.setIfInBounds_toArray, List.set_cons_zero, List.set_cons_succ])
            refine' wpAnyT_take (i := 5) (oi := ?oid5) (v := ?vd5) ?hid5 (by kernel_rfl) (by kernel_rfl) ?hqd5 ?hyd5 hHeld ?restd5
            case hid5 => (simp only [List.getElem?_toArray, List.getElem?_cons_zero, List.getElem?_cons_succ]; rfl)
            case hqd5 => exact fun _ _ _ h => h
            case hyd5 => (refine Or.inl ⟨by rfl, ?_⟩; intro w' hSw; (try dsimp only at hSw); go_simp; try with_reducible rfl)
            (try simp only [Act.put, List.setIfInBounds_toArray, List.set_cons_zero, List.set_cons_succ])
            refine' wpAnyT_take (i := 6) (oi := ?oid6) (v := ?vd6) ?hid6 (by kernel_rfl) (by kernel_rfl) ?hqd6 ?hyd6 hHeld ?restd6
            case hid6 => (simp only [List.getElem?_toArray, List.getElem?_cons_zero, List.getElem?_cons_succ]; rfl)
            case hqd6 => exact fun _ _ _ h => h
            case hyd6 => (refine Or.inl ⟨by rfl, ?_⟩; intro w' hSw; (try dsimp only at hSw); go_simp; try with_reducible rfl)
            (try simp only [Act.put, List.setIfInBounds_toArray, List.set_cons_zero, List.set_cons_succ])
            refine' wpAnyT_take (i := 7) (oi := ?oid7) (v := ?vd7) ?hid7 (by kernel_rfl) (by kernel_rfl) ?hqd7 ?hyd7 hHeld ?restd7
            case hid7 => (simp only [List.getElem?_toArray, List.getElem?_cons_zero, List.getElem?_cons_succ]; rfl)
            case hqd7 => exact fun _ _ _ h => h
            case hyd7 => (refine Or.inl ⟨by rfl, ?_⟩; intro w' hSw; (try dsimp only at hSw); go_simp; try with_reducible rfl)
            (try simp only [Act.put, List.setIfInBounds_toArray, List.set_cons_zero, List.set_cons_succ])
            refine' wpAnyT_take (i := 8) (oi := ?oid8) (v := ?vd8) ?hid8 (by kernel_rfl) (by kernel_rfl) ?hqd8 ?hyd8 hHeld ?restd8
            case hid8 => (simp only [List.getElem?_toArray, List.getElem?_cons_zero, List.getElem?_cons_succ]; rfl)
            case hqd8 => exact fun _ _ _ h => h
            case hyd8 => (refine Or.inl ⟨by rfl, ?_⟩; intro w' hSw; (try dsimp only at hSw); go_simp; try with_reducible rfl)
            (try simp only [Act.put, List.setIfInBounds_toArray, List.set_cons_zero, List.set_cons_succ])
            refine' wpAnyT_take (i := 9) (oi := ?oid9) (v := ?vd9) ?hid9 (by kernel_rfl) (by kernel_rfl) ?hqd9 ?hyd9 hHeld ?restd9
            case hid9 => (simp only [List.getElem?_toArray, List.getElem?_cons_zero, List.getElem?_cons_succ]; rfl)
            case hqd9 => exact fun _ _ _ h => h
            case hyd9 => (refine Or.inl ⟨by rfl, ?_⟩; intro w' hSw; (try dsimp only at hSw); go_simp; try with_reducible rfl)
            (try simp only [Act.put, List.setIfInBounds_toArray, List.set_cons_zero, List.set_cons_succ])
            refine' wpAnyT_one (i := 10) (o := ?oid10) (by kernel_rfl) ?hid10 (fun K hK => ?std10)
            case hid10 => (simp only [List.getElem?_toArray, List.getElem?_cons_zero, List.getElem?_cons_succ]; rfl)
            go_simp
            refine hK.out _ _ (fun h => absurd h (by decide)) ?_
            clear hK K
            (try simp only [Act.put, List.setIfInBounds_toArray, List.set_cons_zero, List.set_cons_succ])
            refine wpAnyT_done (by kernel_rfl) ?_ _
            obtain ⟨X1, hX1⟩ : ∃ X, X0.setCell ⟨gl, i * 8 + 3, none⟩ (.int .u8 (IntKind.u8.wrap ((g : Int) / 16777216))) = X := ⟨_, rfl⟩
            have HH1 : Hid (X1.heap[gl]? = some (.cells (rowZ (fl g p i ++ (le4 g).take (3 + 1))).toArray 57)) := hid (by
              have h := stepZ (g / 16777216 % 256) HX0.out HXL.out (by omega) (u := .int .u8 (IntKind.u8.wrap ((g : Int) / 16777216))) (by unfold byteV; rw [IntKind.wrap_u8]; congr 1)
              rw [List.append_assoc] at h
              rw [← hX1]
              exact h)
            have HB1 : Hid (Below w.heap.size w X1) := hid (by rw [← hX1]; exact HBX.out.setCell (p := ⟨gl, _, none⟩) HGW.out _)
            rw [hX1]
            clear hX1 hcz hfz
            go_wp2_with fail
            go_roundw
            case rel => exact ⟨3 + 1, by omega, by go_num, HH1, HB1⟩
            case measure => simp [Go.RowKit.intOf]
        · obtain rfl : k = 4 := by omega
          have d0 : decide ((4 : Int) < 4) = false := by decide
          have hmw : IntKind.i64.wrap ((i : Int) * 4) = (i : Int) * 4 := by rw [IntKind.wrap_i64]; omega
          have hsl := fun W => run_slice22t b off c i ((i : Int) * 4) (by omega) hin hcc.1 W
          have hsa := fun W => run_sliceAt57 gl (i * 8) W
          have HH2 : Hid (wr.heap[gl]? = some (.cells (rowZ (fl g p i ++ le4 g)).toArray 57)) := hid (by
            have h := HHk.out
            rw [List.take_of_length_le (by rw [le4_len]; omega)] at h
            exact h)
          have HXL := hid (show (fl g p i ++ le4 g).length = i * 8 + 4 from by rw [List.length_append, fl_len HP.out i (by omega), le4_len])
          have HCL := hid (show ((p.drop (4 * i)).take 4).length = 4 from by rw [List.length_take, List.length_drop, HP.out]; omega)
          have HCN := hid (show 4 = Nat.min (32 - 4 * i) 4 from (Nat.min_eq_right (by omega)).symm)
          have HFN := hid (show (fl g p i ++ le4 g) ++ (p.drop (4 * i)).take 4 = fl g p (i + 1) from (fl_next g p i).symm)
          have HSRC : Hid (∀ X, Below w.heap.size w X → ∀ j v, (((p.drop (4 * i)).take 4).map byteV)[j]? = some v → X.cell? ((⟨b, off + 4 * i, none⟩ : Addr).add j) = some v) := hid (fun X hX j v hv => by
            rw [List.getElem?_map, List.getElem?_take] at hv
            split at hv
            · rw [List.getElem?_drop] at hv
              cases hq : p[4 * i + j]? with
              | none => rw [hq] at hv; cases hv
              | some x =>
                rw [hq] at hv
                injection hv with hv
                subst hv
                rw [add_at, Nat.add_assoc]
                exact HSRC0.out X hX _ x hq
            · cases hv)
          go_upto_region 10 with fail
          have hHeld : True := trivial
          refine region_tail 8 (fun _ => True) (by kernel_rfl) ?_
          obtain ⟨X0, hX0⟩ : ∃ X, wr.drew = X := ⟨_, rfl⟩
          have hBX0 : Below wr.heap.size wr X0 := by rw [← hX0]; exact (Below.refl wr.heap.size wr).drew
          have HX0 : Hid (X0.heap[gl]? = some (.cells (rowZ (fl g p i ++ le4 g)).toArray 57)) := hid (by rw [← hX0]; exact HH2.out)
          have HBX := hid (HBk.out.trans (hBX0.mono HBk.out.size))
          rw [hX0]
          clear hX0 hBX0
          refine' wpAnyT_take (i := 0) (oi := ?oiz0) (v := ?vz0) ?hiz0 (by kernel_rfl) (by kernel_rfl) ?hqz0 ?hyz0 hHeld ?restz0
          case hiz0 => (simp only [List.getElem?_toArray, List.getElem?_cons_zero]; rfl)
          case hqz0 => exact fun _ _ _ h => h
          case hyz0 => (refine Or.inl ⟨by rfl, ?_⟩; intro w' hSw; (try dsimp only at hSw); go_simp; try with_reducible rfl)
          (try simp only [Act.put, List.setIfInBounds_toArray, List.set_cons_zero, List.set_cons_succ])
          refine' wpAnyT_take (i := 1) (oi := ?oiz1) (v := ?vz1) ?hiz1 (by kernel_rfl) (by kernel_rfl) ?hqz1 ?hyz1 hHeld ?restz1
          case hiz1 => (simp only [List.getElem?_toArray, List.getElem?_cons_zero, List.getElem?_cons_succ]; rfl)
          case hqz1 => exact fun _ _ _ h => h
          case hyz1 => (refine Or.inl ⟨by rfl, ?_⟩; intro w' hSw; (try dsimp only at hSw); go_simp; try with_reducible rfl)
          (try simp only [Act.put, List.setIfInBounds_toArray, List.set_cons_zero, List.set_cons_succ])
          refine' wpAnyT_take (i := 2) (oi := ?oiz2) (v := ?vz2) ?hiz2 (by kernel_rfl) (by kernel_rfl) ?hqz2 ?hyz2 hHeld ?restz2
          case hiz2 => (simp only [List.getElem?_toArray, List.getElem?_cons_zero, List.getElem?_cons_succ]; rfl)
          case hqz2 => exact fun _ _ _ h => h
          case hyz2 => (refine Or.inl ⟨by rfl, ?_⟩; intro w' hSw; (try dsimp only at hSw); go_simp; try with_reducible rfl)
          (try simp only [Act.put, List.setIfInBounds_toArray, List.set_cons_zero, List.set_cons_succ])
          refine' wpAnyT_take (i := 3) (oi := ?oiz3) (v := ?vz3) ?hiz3 (by kernel_rfl) (by kernel_rfl) ?hqz3 ?hyz3 hHeld ?restz3
          case hiz3 => (simp only [List.getElem?_toArray, List.getElem?_cons_zero, List.getElem?_cons_succ]; rfl)
          case hqz3 => exact fun _ _ _ h => h
          case hyz3 => (refine Or.inl ⟨by rfl, ?_⟩; intro w' hSw; (try dsimp only at hSw); go_simp; try with_reducible rfl)
          (try simp only [Act.put, List.setIfInBounds_toArray, List.set_cons_zero, List.set_cons_succ])
          refine' wpAnyT_take (i := 4) (oi := ?oiz4) (v := ?vz4) ?hiz4 (by kernel_rfl) (by kernel_rfl) ?hqz4 ?hyz4 hHeld ?restz4
          case hiz4 => (simp only [List.getElem?_toArray, List.getElem?_cons_zero, List.getElem?_cons_succ]; rfl)
          case hqz4 => exact fun _ _ _ h => h
          case hyz4 => (refine Or.inl ⟨by rfl, ?_⟩; intro w' hSw; (try dsimp only at hSw); go_simp; try with_reducible rfl)
          (try simp only [Act.put, List.setIfInBounds_toArray, List.set_cons_zero, List.set_cons_succ])
          refine' wpAnyT_take (i := 5) (oi := ?oiz5) (v := ?vz5) ?hiz5 (by kernel_rfl) (by kernel_rfl) ?hqz5 ?hyz5 hHeld ?restz5
          case hiz5 => (simp only [List.getElem?_toArray, List.getElem?_cons_zero, List.getElem?_cons_succ]; rfl)
          case hqz5 => exact fun _ _ _ h => h
          case hyz5 => (refine Or.inl ⟨by rfl, ?_⟩; intro w' hSw; (try dsimp only at hSw); go_simp; try with_reducible rfl)
          (try simp only [Act.put, List.setIfInBounds_toArray, List.set_cons_zero, List.set_cons_succ])
          refine' wpAnyT_take (i := 6) (oi := ?oiz6) (v := ?vz6) ?hiz6 (by kernel_rfl) (by kernel_rfl) ?hqz6 ?hyz6 hHeld ?restz6
          case hiz6 => (simp only [List.getElem?_toArray, List.getElem?_cons_zero, List.getElem?_cons_succ]; rfl)
          case hqz6 => exact fun _ _ _ h => h
          case hyz6 => (refine Or.inl ⟨by rfl, ?_⟩; intro w' hSw; (try dsimp only at hSw); go_simp; try with_reducible rfl)
          (try simp only [Act.put, List.setIfInBounds_toArray, List.set_cons_zero, List.set_cons_succ])
          refine' wpAnyT_take (i := 7) (oi := ?oiz7) (v := ?vz7) ?hiz7 (by kernel_rfl) (by kernel_rfl) ?hqz7 ?hyz7 hHeld ?restz7
          case hiz7 => (simp only [List.getElem?_toArray, List.getElem?_cons_zero, List.getElem?_cons_succ]; rfl)
          case hqz7 => exact fun _ _ _ h => h
          case hyz7 => (refine Or.inl ⟨by rfl, ?_⟩; intro w' hSw; (try dsimp only at hSw); go_simp; try with_reducible rfl)
          (try simp only [Act.put, List.setIfInBounds_toArray, List.set_cons_zero, List.set_cons_succ])
          refine' wpAnyT_one (i := 8) (o := ?oiz8) (by kernel_rfl) ?hiz8 (fun K hK => ?stz8)
          case hiz8 => (simp only [List.getElem?_toArray, List.getElem?_cons_zero, List.getElem?_cons_succ]; rfl)
          refine step_copy_splice rfl (.tmp 36) (.tmp 40) 22 22 rfl 5 Try.underlying22 size5o (some ⟨gl, i * 8 + 4, none⟩) (some ⟨b, off + 4 * i, none⟩) 4 4 (32 - 4 * i) (c - 4 * i) rfl rfl gl (i * 8 + 4) (rowZ (fl g p i ++ le4 g)) 57 HX0.out (((p.drop (4 * i)).take 4).map byteV) (by rw [List.length_map, HCL.out]; exact HCN.out) (fun _ => ⟨rfl, _, rfl, HSRC.out X0 HBX.out⟩) (by rw [rowZ_len (by rw [HXL.out]; omega), List.length_map, HCL.out]; omega) (byteV_one _) w.heap.size w HBX.out HGW.out ?_
          intro X1 hx1 hb1
          refine hK.out _ _ (fun h => absurd h (by decide)) ?_
          clear hK K
          (try simp only [Act.put, List.setIfInBounds_toArray, List.set_cons_zero, List.set_cons_succ])
          refine wpAnyT_done (by kernel_rfl) ?_ _
          have HH1 : Hid (X1.heap[gl]? = some (.cells (rowZ (fl g p (i + 1))).toArray 57)) := hid (by
            have h := hx1.out
            rw [← HXL.out, rowZ_splice _ (by rw [HXL.out, HCL.out]; omega), HFN.out] at h
            exact h)
          have HB1 := hid hb1
          clear hx1 hb1
          go_wp2_with fail
          go_roundw
          case rel => exact ⟨i + 1, by omega, by go_num, HH1, HB1⟩
          case measure => simp [Go.RowKit.intOf]; omega
    · obtain rfl : i = 8 := by omega
      have d0 : decide ((8 : Int) < 8) = false := by decide
      go_wp2_with fail
      go_ret
      have hfl := fl_len (g := g) HP.out 8 (by omega)
      refine ⟨_, rfl, ?_, HB.out⟩
      have hx := HH.out
      rw [rowZ_full hfl, fl_cells] at hx
      rw [secsN_len]
      have hlen : ((secsN g 8 p).map cSec).flatten.length = 64 := by rw [← fl_cells, List.length_map, hfl]
      exact ⟨by rw [hlen], .inr ⟨gl, 8, _, rfl, HGW.out, hx, Nat.le_refl _, by unfold maxLen; omega, by rw [List.size_toArray, hlen], by rw [List.take_of_length_le (by rw [hlen]; omega)]⟩⟩
end Go.Proofs.Ytnocgfhcamnjdaa
