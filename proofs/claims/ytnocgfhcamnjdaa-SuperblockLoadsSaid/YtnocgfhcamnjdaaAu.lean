/- Superblock: the reference's copyOf 31. -/
import Derived.Test.YtnocgfhcamnjdaaAt
namespace Go.Proofs.Ytnocgfhcamnjdaa
open Go.RowKit Go.Lib

theorem make22c (W : World) : (Instr.makeSlice 22 (.int .i64 32) (.int .i64 32)).run Try.prog W = .ok (.slice (some ⟨W.heap.size, 0, none⟩) 32 32) (W.alloc (.cells ((List.replicate 32 0).map byteV).toArray 5)) := by
  obtain ⟨i0, hi, hz0, hz1, hz2⟩ := info_parts info5
  have h := run_make (P := Try.prog) W 22 5 i0 (.int .u8 0) Try.underlying22 hi hz0 .i64 .i64 32 32 (by omega) (by omega) (by rw [hz2]; omega) (by omega)
  rw [hz1] at h
  exact h.trans (by kernel_rfl)
/-- Bytes in a block: one is stored. -/
theorem bytes_put {w : World} {g : Nat} {X : List Nat} (h : w.heap[g]? = some (.cells (X.map byteV).toArray 5)) (j x : Nat) : (w.setCell ⟨g, j, none⟩ (byteV x)).heap[g]? = some (.cells ((X.set j x).map byteV).toArray 5) := by
  rw [box_set h, List.map_set]
theorem bytes_get {w : World} {g : Nat} {T : TypeId} {X : List Nat} (h : w.heap[g]? = some (.cells (X.map byteV).toArray T)) {j x : Nat} (hx : X[j]? = some x) : w.cell? ⟨g, j, none⟩ = some (.int .u8 (x : Int)) := by
  rw [cell_of_row _ _ _ _ _ _ h, List.getElem?_toArray, List.getElem?_map, hx]
  rfl
/-- The content of a payload of which the first bytes have been laid. -/
def conI (p : List Nat) (i : Nat) : List Nat := (p.length :: p.take i) ++ List.replicate (31 - i) 0
theorem conI_full {p : List Nat} : conI p p.length = conL p := by unfold conI conL; rw [List.take_of_length_le (Nat.le_refl _)]
theorem conI_zero {p : List Nat} : (List.replicate 32 0).set 0 p.length = conI p 0 := rfl
theorem conI_len {p : List Nat} {i : Nat} (h : i ≤ p.length) (h2 : p.length ≤ 31) : (conI p i).length = 32 := by
  unfold conI
  rw [List.length_append, List.length_cons, List.length_take, List.length_replicate]
  omega
theorem conI_set {p : List Nat} {i x : Nat} (hx : p[i]? = some x) (h2 : p.length ≤ 31) : (conI p i).set (i + 1) x = conI p (i + 1) := by
  have hi := (List.getElem?_eq_some_iff.1 hx).1
  unfold conI
  obtain ⟨n, hn⟩ : ∃ n, 31 - i = n + 1 := ⟨30 - i, by omega⟩
  rw [hn, List.replicate_succ, show 31 - (i + 1) = n by omega]
  have h := set_mid (p.length :: p.take i) (List.replicate n 0) 0 x
  rw [List.length_cons, List.length_take, Nat.min_eq_left (by omega)] at h
  rw [h, take_succ'' hx]
  simp
/-- A sector of which the first bytes of either half have been laid. -/
def row4 (x d : List Nat) (k : Nat) : List Nat := (x.take k ++ List.replicate (4 - k) 0) ++ (d.take k ++ List.replicate (4 - k) 0)
theorem list4 {α : Type} {s : List α} (h : s.length = 4) : ∃ x0 x1 x2 x3, s = [x0, x1, x2, x3] := by
  match s, h with
  | [x0, x1, x2, x3], _ => exact ⟨x0, x1, x2, x3, rfl⟩
theorem secsN_take (g : Nat) : ∀ (n i : Nat) (c : List Nat), i ≤ n → (secsN g n c).take i = secsN g i c
  | 0, 0, _, _ => rfl
  | n + 1, 0, _, _ => by rw [List.take_zero]; rfl
  | n + 1, i + 1, c, h => by rw [secsN, List.take_succ_cons, secsN_take g n i _ (by omega)]; rfl
theorem run_loadAt8 (w : World) (g : Nat) (x0 x1 x2 x3 y0 y1 y2 y3 : Nat) (hg : w.heap[g]? = some (.cells ((row4 [x0, x1, x2, x3] [y0, y1, y2, y3] 4).map byteV).toArray 57)) : (Instr.loadAt 57 (.pointer (some ⟨g, 0, none⟩))).run Try.prog w = .ok (.agg #[.int .u8 (x0 : Int), .int .u8 (x1 : Int), .int .u8 (x2 : Int), .int .u8 (x3 : Int), .int .u8 (y0 : Int), .int .u8 (y1 : Int), .int .u8 (y2 : Int), .int .u8 (y3 : Int)]) w := by
  have hc := run_loadCells_list (P := Try.prog) w ⟨g, 0, none⟩ ([x0, x1, x2, x3, y0, y1, y2, y3].map byteV) (fun j v hv => by rw [add_at', cell_of_row _ _ _ _ _ _ hg, List.getElem?_toArray]; exact hv)
  have ha : (isAgg 57).run Try.prog w = .ok true w := by kernel_rfl
  simp only [List.map_cons, List.map_nil, List.length_cons, List.length_nil] at hc
  simp [Instr.loadAt, Instr.sureAddr, loadVar, Sem.run_bind, ha, hc, byteV]
set_option maxHeartbeats 4000000 in
set_option maxRecDepth 100000 in
theorem refCopy_any (g : Nat) (p : List Nat) (v : Value) (w : World) (hv : Byt w v p) (hl : p.length ≤ 31) (_hg : g < 4294967296) :
    Calls Try.prog 31 #[.int .u32 (g : Int), v] w (MadeS w (secsN g 8 (conL p))) := by
  obtain ⟨i0, hi0, hz0, hz1, hz2⟩ := info_parts info73
  obtain ⟨A, c, rfl⟩ := byt_form hv
  obtain ⟨m, hm⟩ : ∃ m, p.length = m := ⟨_, rfl⟩
  have hwm : IntKind.u8.wrap (m : Int) = (m : Int) := by rw [IntKind.wrap_u8]; omega
  obtain ⟨Z, hZ⟩ : ∃ Z, (List.replicate 32 0).map byteV = Z := ⟨_, rfl⟩
  have hmk := make22c
  rw [hZ] at hmk
  have HV := hid hv
  rw [hm] at HV hl ⊢
  have HM := hid hm
  have hcl : (conL p).length = 32 := conL_len (by omega)
  have hc8 : B8 (conL p) := conL_b8 (by omega) hv.1
  have HCL := hid hcl
  have HC8c := hid hc8
  obtain ⟨gd, hgd⟩ : ∃ q, w.heap.size = q := ⟨_, rfl⟩
  obtain ⟨W1, hW1⟩ : ∃ X, w.alloc (.cells Z.toArray 5) = X := ⟨_, rfl⟩
  have hb1 : Below w.heap.size w W1 := by rw [← hW1]; exact al1 _ _
  have hx1 : W1.heap[gd]? = some (.cells ((List.replicate 32 0).map byteV).toArray 5) := by rw [← hW1, ← hgd, hZ]; exact heap_alloc_new _ _
  obtain ⟨W2, hW2⟩ : ∃ X, W1.setCell ⟨gd, 0, none⟩ (.int .u8 (m : Int)) = X := ⟨_, rfl⟩
  have HX2 : Hid (W2.heap[gd]? = some (.cells ((conI p 0).map byteV).toArray 5)) := hid (by
    rw [← hW2, ← conI_zero, hm]
    exact bytes_put hx1 0 m)
  have hgdw : w.heap.size ≤ gd := Nat.le_of_eq hgd
  have HB2 : Hid (Below w.heap.size w W2) := hid (by rw [← hW2]; exact hb1.setCell (p := ⟨gd, 0, none⟩) hgdw _)
  have HGD := hid hgdw
  have hc0 : W1.cell? ⟨gd, 0, none⟩ = some (.int .u8 ((0 : Nat) : Int)) := bytes_get hx1 rfl
  have hf0 := box_fr hx1 0
  have HW1 := hid hW1
  have HGG := hid hgd
  have HW2 := hid hW2
  clear hb1 hx1 hgd hW1 hW2 hgdw hv hm hcl hc8 hZ
  go_enter Try.func31, Try.ntmps31
  go_upto_region 2 with fail
  rw [HW1.out, HGG.out]
  go_upto_region 3 with fail
  rw [HW2.out]
  clear hc0 hf0 hmk hwm
  go_upto_region 4 with fail
  go_loopw [6] (fun iv wr => ∃ i : Nat, i ≤ m ∧ iv = .int .i64 (i : Int) ∧ Hid (wr.heap[gd]? = some (.cells ((conI p i).map byteV).toArray 5)) ∧ Hid (Below w.heap.size w wr)) (fun iv _ => m - (Go.RowKit.intOf iv).toNat)
  case atStart => exact ⟨0, Nat.zero_le _, rfl, HX2, HB2⟩
  case round =>
    obtain ⟨i, hi, rfl, HX, HB⟩ := hrel
    by_cases him : i < m
    · have d0 : decide ((i : Int) < (m : Int)) = true := decide_eq_true (by omega)
      have him' : (i : Int) < (m : Int) := by omega
      have hi32 : (i : Int) + 1 < 32 := by omega
      have hi32n : i + 1 < 32 := by omega
      obtain ⟨b, off, rfl, hbl, hcell⟩ := byt_cells (HV.out.below HB.out) (by rw [HM.out]; omega)
      obtain ⟨x, hx⟩ : ∃ x, p[i]? = some x := ⟨p[i]'(by rw [HM.out]; exact him), List.getElem?_eq_getElem _⟩
      have hsrc := hcell i x hx
      obtain ⟨z, hz⟩ : ∃ z, (conI p i)[i + 1]? = some z := ⟨(conI p i)[i + 1]'(by rw [conI_len (by rw [HM.out]; omega) (by rw [HM.out]; exact hl)]; omega), List.getElem?_eq_getElem _⟩
      have hdst := bytes_get HX.out hz
      have hfr := box_fr HX.out (i + 1)
      have HXP : Hid ((wr.setCell ⟨gd, i + 1, none⟩ (.int .u8 (x : Int))).heap[gd]? = some (.cells ((conI p (i + 1)).map byteV).toArray 5)) := hid (by
        rw [← conI_set hx (by rw [HM.out]; exact hl)]
        exact bytes_put HX.out (i + 1) x)
      have HBP : Hid (Below w.heap.size w (wr.setCell ⟨gd, i + 1, none⟩ (.int .u8 (x : Int)))) := hid (HB.out.setCell (p := ⟨gd, i + 1, none⟩) HGD.out _)
      clear hx hz hcell
      go_wp2_with fail
      go_roundw
      case rel => exact ⟨i + 1, by omega, by go_num, HXP, HBP⟩
      case measure => simp [Go.RowKit.intOf]; omega
    · obtain rfl : i = m := by omega
      have d0 : decide ((i : Int) < (i : Int)) = false := decide_eq_false (by omega)
      obtain ⟨D, hD⟩ : ∃ D, conL p = D := ⟨_, rfl⟩
      have HXD : Hid (wr.heap[gd]? = some (.cells (D.map byteV).toArray 5)) := hid (by
        have h := HX.out
        rw [← HM.out, conI_full, hD] at h
        exact h)
      have HDL := HCL
      have HC8 := HC8c
      rw [hD] at HDL HC8 ⊢
      have HDD := hid hD
      clear HX hD
      obtain ⟨wq, hwq⟩ : ∃ x, wr = x := ⟨_, rfl⟩
      have HXQ : Hid (∀ X, Below wr.heap.size wr X → X.heap[gd]? = some (.cells (D.map byteV).toArray 5)) := hid (fun X hX => (hX.block _ (box_lt HXD.out)).trans HXD.out)
      rw [hwq] at HXQ HB HXD ⊢
      clear hwq
      go_upto_region 9 with fail
      clear d0
      go_loopw [8, 7] (fun iv ov wr => ∃ (j : Nat) (O : Value), j ≤ 8 ∧ iv = .int .i64 (4 * (j : Int)) ∧ O = ov ∧ Hid (wr.ownsRow wq.heap.size 57 8 O j ((secsN g j D).map cSec).flatten) ∧ Hid (Below wq.heap.size wq wr)) (fun iv _ _ => 32 - (Go.RowKit.intOf iv).toNat)
      case atStart => exact ⟨0, _, Nat.zero_le _, rfl, rfl, hid (World.ownsRow_nil _ _ _ _), hid (Below.refl _ _)⟩
      case round =>
        obtain ⟨j, O, hj, rfl, rfl, HO, HBJ⟩ := hrel
        by_cases hj8 : j < 8
        · have d0 : decide (4 * (j : Int) < 32) = true := decide_eq_true (by omega)
          obtain ⟨x0, x1, x2, x3, hle⟩ := list4 (le4_len g)
          obtain ⟨y0, y1, y2, y3, hdd⟩ := list4 (s := (D.drop (4 * j)).take 4) (by rw [List.length_take, List.length_drop, HDL.out]; omega)
          have HG : ∀ t < 4, ∃ y, D[4 * j + t]? = some y ∧ [y0, y1, y2, y3][t]? = some y := fun t ht => by
            refine ⟨D[4 * j + t]'(by rw [HDL.out]; omega), List.getElem?_eq_getElem _, ?_⟩
            rw [← hdd, List.getElem?_take, if_pos ht, List.getElem?_drop, List.getElem?_eq_getElem]
          have gy : ∀ t y, [y0, y1, y2, y3][t]? = some y → D[4 * j + t]? = some y := fun t y hy => by
            have ht : t < 4 := (List.getElem?_eq_some_iff.1 hy).1
            obtain ⟨z, h1, h2⟩ := HG t ht
            rw [h1, ← h2, hy]
          have HSEC : Hid (secsN g (j + 1) D = secsN g j D ++ [[x0, x1, x2, x3, y0, y1, y2, y3]]) := hid (by
            rw [secsN_snoc, hle, hdd]
            rfl)
          have e0 : g % 256 = x0 := by unfold le4 at hle; injection hle
          have e1 : g / 256 % 256 = x1 := by unfold le4 at hle; injection hle with _ h; injection h
          have e2 : g / 65536 % 256 = x2 := by unfold le4 at hle; injection hle with _ h; injection h with _ h; injection h
          have e3 : g / 16777216 % 256 = x3 := by unfold le4 at hle; injection hle with _ h; injection h with _ h; injection h with _ h; injection h
          have HE := hid (And.intro e0 (And.intro e1 (And.intro e2 e3)))
          have HY := hid (And.intro (gy 0 y0 rfl) (And.intro (gy 1 y1 rfl) (And.intro (gy 2 y2 rfl) (gy 3 y3 rfl))))
          clear hle hdd HG gy e0 e1 e2 e3
          go_upto_region 12 with fail
          obtain ⟨wj, hwj⟩ : ∃ x, wr = x := ⟨_, rfl⟩
          rw [hwj] at HO HBJ ⊢
          clear hwj
          obtain ⟨p9, hp9⟩ : ∃ p, wj.heap.size = p := ⟨_, rfl⟩
          obtain ⟨W9, hW9⟩ : ∃ X, wj.alloc (.cells #[.int .u8 0, .int .u8 0, .int .u8 0, .int .u8 0, .int .u8 0, .int .u8 0, .int .u8 0, .int .u8 0] 57) = X := ⟨_, rfl⟩
          have HB9 : Hid (Below wj.heap.size wj W9) := hid (by rw [← hW9]; exact al1 _ _)
          have HX9 : Hid (W9.heap[p9]? = some (.cells ((row4 [x0, x1, x2, x3] [y0, y1, y2, y3] 0).map byteV).toArray 57)) := hid (by rw [← hW9, ← hp9]; exact heap_alloc_new _ _)
          have HP9 : Hid (wj.heap.size ≤ p9) := hid (Nat.le_of_eq hp9)
          have hgp : gd ≠ p9 := by
            have := box_lt (HXQ.out wj HBJ.out)
            omega
          have hpg := hgp.symm
          rw [hW9, hp9]
          clear hp9 hW9
          go_upto_region 13 with fail
          clear d0
          go_loopw [10] (fun kv wk => ∃ k : Nat, k ≤ 4 ∧ kv = .int .i64 (k : Int) ∧ Hid (wk.heap[p9]? = some (.cells ((row4 [x0, x1, x2, x3] [y0, y1, y2, y3] k).map byteV).toArray 57)) ∧ Hid (Below wj.heap.size wj wk)) (fun kv _ => 4 - (Go.RowKit.intOf kv).toNat)
          case atStart => exact ⟨0, Nat.zero_le _, rfl, HX9, HB9⟩
          case round =>
            obtain ⟨k, hk, rfl, HHk, HBk⟩ := hrel
            by_cases hk4 : k < 4
            · have d0 : decide ((k : Int) < 4) = true := decide_eq_true (by omega)
              have HBq : Hid (Below wq.heap.size wq wr) := hid (HBJ.out.trans (HBk.out.mono HBJ.out.size))
              have q0 : IntKind.i64.wrap 0 = 0 := by decide
              have q8 : IntKind.i64.wrap 8 = 8 := by decide
              have q16 : IntKind.i64.wrap 16 = 16 := by decide
              have q24 : IntKind.i64.wrap 24 = 24 := by decide
              have hj8' : (j : Int) < 8 := by omega
              obtain rfl | rfl | rfl | rfl : k = 0 ∨ k = 1 ∨ k = 2 ∨ k = 3 := by omega
              · rw [show ((0 : Nat) : Int) = 0 from rfl] at d0 ⊢
                have hdat := bytes_get (HXQ.out wr HBq.out) HY.out.1
                rw [Nat.add_zero] at hdat
                have hpz := bytes_get HHk.out (j := 0) (x := 0) rfl
                have hpz4 := bytes_get HHk.out (j := 0+4) (x := 0) rfl
                have fpz := box_fr HHk.out 0
                have fpz4 := box_fr HHk.out (0+4)
                have hwv : IntKind.u8.wrap (g : Int) = (x0 : Int) := by rw [IntKind.wrap_u8, ← HE.out.1]; omega
                have HHN : Hid (((wr.setCell ⟨p9, 0, none⟩ (.int .u8 (x0 : Int))).setCell ⟨p9, 0 + 4, none⟩ (.int .u8 (y0 : Int))).heap[p9]? = some (.cells ((row4 [x0, x1, x2, x3] [y0, y1, y2, y3] (0 + 1)).map byteV).toArray 57)) := hid (box_set (box_set HHk.out _ _) _ _)
                have HBN : Hid (Below wj.heap.size wj ((wr.setCell ⟨p9, 0, none⟩ (.int .u8 (x0 : Int))).setCell ⟨p9, 0 + 4, none⟩ (.int .u8 (y0 : Int)))) := hid ((HBk.out.setCell (p := ⟨p9, _, none⟩) HP9.out _).setCell (p := ⟨p9, _, none⟩) HP9.out _)
                go_wp2_with fail
                go_roundw
                case rel => exact ⟨0 + 1, by omega, by go_num, HHN, HBN⟩
                case measure => simp [Go.RowKit.intOf]
              · rw [show ((1 : Nat) : Int) = 1 from rfl] at d0 ⊢
                have hdat := bytes_get (HXQ.out wr HBq.out) HY.out.2.1

                have hpz := bytes_get HHk.out (j := 1) (x := 0) rfl
                have hpz4 := bytes_get HHk.out (j := 1+4) (x := 0) rfl
                have fpz := box_fr HHk.out 1
                have fpz4 := box_fr HHk.out (1+4)
                have hwv : IntKind.u8.wrap ((g : Int) / 256) = (x1 : Int) := by rw [IntKind.wrap_u8, ← HE.out.2.1]; omega
                have HHN : Hid (((wr.setCell ⟨p9, 1, none⟩ (.int .u8 (x1 : Int))).setCell ⟨p9, 1 + 4, none⟩ (.int .u8 (y1 : Int))).heap[p9]? = some (.cells ((row4 [x0, x1, x2, x3] [y0, y1, y2, y3] (1 + 1)).map byteV).toArray 57)) := hid (box_set (box_set HHk.out _ _) _ _)
                have HBN : Hid (Below wj.heap.size wj ((wr.setCell ⟨p9, 1, none⟩ (.int .u8 (x1 : Int))).setCell ⟨p9, 1 + 4, none⟩ (.int .u8 (y1 : Int)))) := hid ((HBk.out.setCell (p := ⟨p9, _, none⟩) HP9.out _).setCell (p := ⟨p9, _, none⟩) HP9.out _)
                go_wp2_with fail
                go_roundw
                case rel => exact ⟨1 + 1, by omega, by go_num, HHN, HBN⟩
                case measure => simp [Go.RowKit.intOf]
              · rw [show ((2 : Nat) : Int) = 2 from rfl] at d0 ⊢
                have hdat := bytes_get (HXQ.out wr HBq.out) HY.out.2.2.1

                have hpz := bytes_get HHk.out (j := 2) (x := 0) rfl
                have hpz4 := bytes_get HHk.out (j := 2+4) (x := 0) rfl
                have fpz := box_fr HHk.out 2
                have fpz4 := box_fr HHk.out (2+4)
                have hwv : IntKind.u8.wrap ((g : Int) / 65536) = (x2 : Int) := by rw [IntKind.wrap_u8, ← HE.out.2.2.1]; omega
                have HHN : Hid (((wr.setCell ⟨p9, 2, none⟩ (.int .u8 (x2 : Int))).setCell ⟨p9, 2 + 4, none⟩ (.int .u8 (y2 : Int))).heap[p9]? = some (.cells ((row4 [x0, x1, x2, x3] [y0, y1, y2, y3] (2 + 1)).map byteV).toArray 57)) := hid (box_set (box_set HHk.out _ _) _ _)
                have HBN : Hid (Below wj.heap.size wj ((wr.setCell ⟨p9, 2, none⟩ (.int .u8 (x2 : Int))).setCell ⟨p9, 2 + 4, none⟩ (.int .u8 (y2 : Int)))) := hid ((HBk.out.setCell (p := ⟨p9, _, none⟩) HP9.out _).setCell (p := ⟨p9, _, none⟩) HP9.out _)
                go_wp2_with fail
                go_roundw
                case rel => exact ⟨2 + 1, by omega, by go_num, HHN, HBN⟩
                case measure => simp [Go.RowKit.intOf]
              · rw [show ((3 : Nat) : Int) = 3 from rfl] at d0 ⊢
                have hdat := bytes_get (HXQ.out wr HBq.out) HY.out.2.2.2

                have hpz := bytes_get HHk.out (j := 3) (x := 0) rfl
                have hpz4 := bytes_get HHk.out (j := 3+4) (x := 0) rfl
                have fpz := box_fr HHk.out 3
                have fpz4 := box_fr HHk.out (3+4)
                have hwv : IntKind.u8.wrap ((g : Int) / 16777216) = (x3 : Int) := by rw [IntKind.wrap_u8, ← HE.out.2.2.2]; omega
                have HHN : Hid (((wr.setCell ⟨p9, 3, none⟩ (.int .u8 (x3 : Int))).setCell ⟨p9, 3 + 4, none⟩ (.int .u8 (y3 : Int))).heap[p9]? = some (.cells ((row4 [x0, x1, x2, x3] [y0, y1, y2, y3] (3 + 1)).map byteV).toArray 57)) := hid (box_set (box_set HHk.out _ _) _ _)
                have HBN : Hid (Below wj.heap.size wj ((wr.setCell ⟨p9, 3, none⟩ (.int .u8 (x3 : Int))).setCell ⟨p9, 3 + 4, none⟩ (.int .u8 (y3 : Int)))) := hid ((HBk.out.setCell (p := ⟨p9, _, none⟩) HP9.out _).setCell (p := ⟨p9, _, none⟩) HP9.out _)
                go_wp2_with fail
                go_roundw
                case rel => exact ⟨3 + 1, by omega, by go_num, HHN, HBN⟩
                case measure => simp [Go.RowKit.intOf]
            · obtain rfl : k = 4 := by omega
              have d0 : decide ((4 : Int) < 4) = false := by decide
              obtain ⟨W8, hW8⟩ : ∃ X, wr.alloc (.cells #[.int .u8 (x0 : Int), .int .u8 (x1 : Int), .int .u8 (x2 : Int), .int .u8 (x3 : Int), .int .u8 (y0 : Int), .int .u8 (y1 : Int), .int .u8 (y2 : Int), .int .u8 (y3 : Int)] 57) = X := ⟨_, rfl⟩
              have hb8 : Below wr.heap.size wr W8 := by rw [← hW8]; exact al1 _ _
              have hsec : Secs [[x0, x1, x2, x3, y0, y1, y2, y3]] := fun s hs => by
                have h := (secsN_secs g 8 D HC8.out (by rw [HDL.out])) s
                refine h ?_
                have h2 : s ∈ secsN g (j + 1) D := by rw [HSEC.out]; exact List.mem_append.2 (.inr hs)
                rw [← secsN_take g 8 (j + 1) D (by omega)] at h2
                exact List.mem_of_mem_take h2
              have HSC : Hid (Sec W8 (.slice (some ⟨wr.heap.size, 0, none⟩) 1 1) [[x0, x1, x2, x3, y0, y1, y2, y3]]) := hid (by
                rw [← hW8]
                exact ⟨hsec, arr_new wr 57 8 1 [cSec [x0, x1, x2, x3, y0, y1, y2, y3]] _ (fun r hr => by rw [List.mem_singleton.1 hr]; rfl) rfl (by unfold maxLen; omega) (by rfl)⟩)
              have HB8q : Hid (Below wq.heap.size wq W8) := hid ((HBJ.out.trans (HBk.out.mono HBJ.out.size)).trans (hb8.mono (HBJ.out.trans (HBk.out.mono HBJ.out.size)).size))
              have HO8 : Hid (W8.ownsRow wq.heap.size 57 8 O j ((secsN g j D).map cSec).flatten) := hid (own_keep HO.out (keep_below (HBk.out.trans (hb8.mono HBk.out.size))))
              have HL := hid (run_loadAt8 wr p9 _ _ _ _ _ _ _ _ HHk.out)
              have HW8 := hid hW8
              clear hb8 hsec hW8
              go_wp2_with (first
                | (refine wpl_load rfl 57 (.tmp 9) rfl _ _ rfl HL.out ?_)
                | (at_builtin; rw [HW8.out]; refine append_sec rfl (.tmp 56) (.tmp 58) rfl wq.heap.size O j _ rfl HO8.out [[x0, x1, x2, x3, y0, y1, y2, y3]] (.slice (some ⟨wr.heap.size, 0, none⟩) 1 1) rfl HSC.out (nilOk_some _ _ _) (by rw [List.length_singleton]; omega) HB8q.out.size ?_; intro v' w2 ho2 hg2; have HO2 := hid ho2; have HB2 : Hid (Below wq.heap.size wq w2) := hid (below_ownE HB8q.out HO8.out hg2 HB8q.out.size (Nat.le_refl _)); clear ho2 hg2)
                | fail)
              go_roundw
              case rel =>
                refine ⟨j + 1, v', by omega, by go_num, rfl, hid ?_, HB2⟩
                have h := HO2.out
                rw [HSEC.out, List.map_append, List.flatten_append]
                exact h
              case measure => simp [Go.RowKit.intOf]; omega
        · obtain rfl : j = 8 := by omega
          have d0 : decide (4 * ((8 : Nat) : Int) < 32) = false := by decide
          go_wp2_with fail
          go_ret
          refine ⟨O, rfl, ?_, HB.out.trans (HBJ.out.mono HB.out.size)⟩
          rw [secsN_len, HDD.out]
          exact own_base HO.out HB.out.size
end Go.Proofs.Ytnocgfhcamnjdaa
