/- sizesOf, Check, Fits. -/
import Derived.Test.YtbcnikmhodkbfaaC
namespace Go.Proofs.Ytbcnikmhodkbfaa
open Go.RowKit Go.Lib

theorem row_set {w : World} {g i : Nat} {cs : List Value} {T : TypeId} {fr : Nat × Nat} (h : w.heap[g]? = some (.cells cs.toArray T fr)) (v : Value) : (w.setCell ⟨g, i, none⟩ v).heap[g]? = some (.cells (cs.set i v).toArray T fr) := by
  show (w.heap.modify g _)[g]? = _
  obtain ⟨hlt, hk⟩ := Array.getElem?_eq_some_iff.1 h
  rw [Array.getElem?_eq_getElem (by rw [Array.size_modify]; exact hlt), Array.getElem_modify_self, hk]
  simp
theorem make22 (W : World) (n : Nat) (hn : n ≤ 1000000) : (Instr.makeSlice 22 (.int .i64 n) (.int .i64 n)).run Try.prog W = .ok (.slice (some ⟨W.heap.size, 0, none⟩) n n) (W.alloc (.cells (madeCells #[.int .i64 0] n) 3)) := by
  obtain ⟨i0, hi, hz0, hz1, hz2⟩ := info_parts info3
  have h := run_make (P := Try.prog) W 22 3 i0 (.int .i64 0) Try.underlying22 hi hz0 .i64 .i64 n n (by omega) (by omega) (by rw [hz2]; omega) (by omega)
  rw [hz1] at h
  simp only [Int.toNat_natCast, Nat.mul_one] at h
  exact h
theorem made_one (z : Value) (n : Nat) : madeCells #[z] n = (List.replicate n z).toArray := by
  apply Array.toList_inj.1
  rw [toList_madeCells_one]
/-- A row whose first places have been filled. -/
def fld (cs : List Value) (n : Nat) (z : Value) : List Value := cs ++ List.replicate n z
theorem fld_set (cs : List Value) (n : Nat) (z v : Value) : (fld cs (n + 1) z).set cs.length v = fld (cs ++ [v]) n z := by
  unfold fld
  rw [List.set_append_right _ _ (Nat.le_refl _), Nat.sub_self, List.replicate_succ, List.set_cons_zero, List.append_assoc]
  rfl
theorem fld_at (cs : List Value) (n : Nat) (z : Value) : (fld cs (n + 1) z)[cs.length]? = some z := by
  unfold fld
  rw [List.getElem?_append_right (Nat.le_refl _), Nat.sub_self, List.replicate_succ]
  rfl
theorem fld_zero (cs : List Value) (z : Value) : fld cs 0 z = cs := by unfold fld; simp
theorem take_snoc {α : Type} {l : List α} {k : Nat} {x : α} (h : l[k]? = some x) : l.take (k + 1) = l.take k ++ [x] := by
  obtain ⟨hlt, rfl⟩ := List.getElem?_eq_some_iff.1 h
  exact List.take_succ_eq_append_getElem hlt
theorem flat_one {α : Type} (f : α → Value) (l : List α) : (l.map fun x => [f x]).flatten = l.map f := by
  induction l with
  | nil => rfl
  | cons a l ih => rw [List.map_cons, List.flatten_cons, ih]; rfl
/-- A row that was made and filled reads as an argument would. -/
theorem arr_row {w : World} {g n : Nat} {T : TypeId} {fr : Nat × Nat} {cs : List Value} (h : w.heap[g]? = some (.cells cs.toArray T fr)) (hn : cs.length = n) (hm : n ≤ maxLen) : Arr w (.slice (some ⟨g, 0, none⟩) n n) 1 (cs.map fun x => [x]) :=
  arr_at (fun r hr => by obtain ⟨x, _, rfl⟩ := List.mem_map.1 hr; rfl) (by rw [List.length_map, hn]) (Nat.le_refl _) hm h (fun k u hu => by
    rw [flat_one (fun x => x), List.map_id'] at hu
    simpa using hu)
/-- A list of numbers that a call has made. -/
def MadeI (w : World) (l : List Int) (e : Ending) (w' : World) : Prop := ∃ g, e = .returned (.slice (some ⟨g, 0, none⟩) l.length l.length) ∧ w.heap.size ≤ g ∧ Arr w' (.slice (some ⟨g, 0, none⟩) l.length l.length) 1 (l.map cInt) ∧ Below w.heap.size w w'

set_option maxHeartbeats 2000000 in
set_option maxRecDepth 100000 in
theorem mapped69_any (xs : List Vol) (v : Value) (w : World) (hv : Img w v xs) (hl : xs.length ≤ 1000) :
    Calls Try.prog 69 #[v, .func (.func 70) #[] #[]] w (MadeI w (siz (con xs))) := by
  obtain ⟨A, c, rfl⟩ := img_form hv
  obtain ⟨_, hc1, hc2⟩ := arr_cap hv.2
  have hlen : (siz (con xs)).length = xs.length := by unfold siz con; simp
  have HV := hid hv
  unfold MadeI
  rw [hlen]
  obtain ⟨n, hn⟩ : ∃ n, xs.length = n := ⟨_, rfl⟩
  have HN := hid hn
  have HLEN := hid hlen
  rw [hn] at HV hc1 hl ⊢
  clear hv hn hlen
  have hmk := fun W => make22 W n (by omega)
  obtain ⟨W1, hW1⟩ : ∃ W1, w.alloc (.cells (madeCells #[.int .i64 0] n) 3) = W1 := ⟨_, rfl⟩
  have HB1 : Hid (Below w.heap.size w W1) := hid (by rw [← hW1]; exact al1 _ _)
  have HG1 : Hid (W1.heap[w.heap.size]? = some (.cells (fld [] n (.int .i64 0)).toArray 3)) := hid (by rw [← hW1, made_one]; exact heap_alloc_new w _)
  go_enter Try.func69, Try.ntmps69
  go_wp2_with fail
  clear hW1 hmk
  go_loopw [13] (fun i wr => ∃ k : Nat, k ≤ n ∧ i = .int .i64 (k : Int) ∧ Hid (wr.heap[w.heap.size]? = some (.cells (fld (((siz (con xs)).take k).map (Value.int .i64)) (n - k) (.int .i64 0)).toArray 3)) ∧ Hid (Below w.heap.size w wr)) (fun i _ => n - (Go.RowKit.intOf i).toNat)
  case atStart => exact ⟨0, Nat.zero_le _, rfl, HG1, HB1⟩
  case round =>
    clear HG1 HB1
    obtain ⟨k, hk, rfl, HG, HB⟩ := hrel
    by_cases hkn : k < n
    · obtain ⟨x, hx⟩ : ∃ x, xs[k]? = some x := ⟨xs[k]'(by rw [HN.out]; exact hkn), List.getElem?_eq_getElem _⟩
      have hsx : (siz (con xs))[k]? = some (x.l.length : Int) := by unfold siz con; rw [List.getElem?_map, List.getElem?_map, hx]; rfl
      obtain ⟨b, off, hbA, hb, hcell⟩ := arr_at1 HV.out.2 (by rw [List.length_map, HN.out]; omega)
      subst hbA
      obtain ⟨dA, dc, hd⟩ := sec_form (HV.out.1 x (List.mem_of_getElem? hx)).1
      have hcx : wr.cell? ⟨b, off + k, none⟩ = some (.slice dA x.l.length dc) := by
        have h := hcell k _ (by rw [List.getElem?_map, hx]; rfl) 0 _ rfl
        rw [Nat.mul_one, Nat.add_zero, hd] at h
        exact (HB.out.cell (p := ⟨b, off + k, none⟩) hb).trans h
      have hkc : (k : Int) < (n : Int) := by omega
      obtain ⟨m, hm⟩ : ∃ m, n - k = m + 1 := ⟨n - k - 1, by omega⟩
      have hkl : (((siz (con xs)).take k).map (Value.int .i64)).length = k := by rw [List.length_map, List.length_take, HLEN.out, HN.out]; omega
      have HGm := HG.out
      rw [hm] at HGm
      have hzc : wr.cell? ⟨w.heap.size, k, none⟩ = some (.int .i64 0) := by
        rw [cell_of_row _ _ k _ _ _ HGm]
        have h := fld_at (((siz (con xs)).take k).map (Value.int .i64)) m (.int .i64 0)
        rw [hkl] at h
        simpa using h
      have hfr : wr.frozen? ⟨w.heap.size, k, none⟩ = false := box_fr HGm k
      have HG2 := hid (row_set HGm (i := k) (.int .i64 (x.l.length : Int)))
      have HST : Hid ((fld (((siz (con xs)).take k).map (Value.int .i64)) (m + 1) (.int .i64 0)).set k (.int .i64 (x.l.length : Int)) = fld (((siz (con xs)).take (k + 1)).map (Value.int .i64)) (n - (k + 1)) (.int .i64 0)) := hid (by
        have h := fld_set (((siz (con xs)).take k).map (Value.int .i64)) m (.int .i64 0) (.int .i64 (x.l.length : Int))
        rw [hkl] at h
        rw [h, take_snoc hsx, List.map_append, show n - (k + 1) = m by omega]
        rfl)
      rw [HST.out] at HG2
      have HB2 := hid (HB.out.setCell (p := ⟨w.heap.size, k, none⟩) (Nat.le_refl _) (.int .i64 (x.l.length : Int)))
      clear HGm hm hkl hsx hcell hd hx HST
      go_wp2_with fail
      refine (szOf_any dA x.l.length dc _).mono ?_
      rintro e w2 ⟨rfl, rfl⟩
      go_wp2_with fail
      go_roundw
      case rel => exact ⟨k + 1, by omega, by go_num, HG2, HB2⟩
      case measure => simp [Go.RowKit.intOf]; omega
    · obtain rfl : k = n := by omega
      go_wp2
      go_ret
      refine ⟨w.heap.size, rfl, Nat.le_refl _, ?_, HB.out⟩
      have h := HG.out
      rw [Nat.sub_self, fld_zero, List.take_of_length_le (by rw [HLEN.out, HN.out]; exact Nat.le_refl _)] at h
      have h2 := arr_row h (n := k) (by rw [List.length_map, HLEN.out, HN.out]) (by unfold maxLen; omega)
      rw [List.map_map] at h2
      exact h2
set_option maxHeartbeats 2000000 in
theorem sizesOf_any (xs : List Vol) (v : Value) (w : World) (hv : Img w v xs) (hl : xs.length ≤ 1000) :
    Calls Try.prog 48 #[v] w (MadeI w (siz (con xs))) := by
  have HC := hid (mapped69_any xs v w hv hl)
  obtain ⟨A, c, rfl⟩ := img_form hv
  clear hv
  go_enter Try.func48, Try.ntmps48
  go_wp2_with fail
  refine HC.out.mono ?_
  rintro e w1 ⟨g, rfl, hg, ha, hb⟩
  have HA := hid ha
  have HB := hid hb
  clear ha hb
  go_wp2
  go_ret
  exact ⟨g, rfl, hg, HA.out, HB.out⟩
set_option maxHeartbeats 2000000 in
theorem check_any (xs : List Vol) (v : Value) (w : World) (hv : Img w v xs) (hl : xs.length ≤ 1000) :
    Calls Try.prog 18 #[v] w fun e w' => e = .returned (.int .i64 (chkS (siz (con xs)))) ∧ Below w.heap.size w w' := by
  have HC := hid (sizesOf_any xs v w hv hl)
  obtain ⟨A, c, rfl⟩ := img_form hv
  clear hv
  go_enter Try.func18, Try.ntmps18
  go_wp2_with fail
  refine HC.out.mono ?_
  rintro e w1 ⟨g, rfl, hg, ha, hb⟩
  have HC2 := hid (checkSizes_any _ _ w1 ha)
  have HB := hid hb
  clear ha hb HC
  go_wp2_with fail
  refine HC2.out.mono ?_
  rintro e w2 ⟨rfl, rfl⟩
  go_wp2
  go_ret
  exact ⟨rfl, HB.out⟩
end Go.Proofs.Ytbcnikmhodkbfaa
