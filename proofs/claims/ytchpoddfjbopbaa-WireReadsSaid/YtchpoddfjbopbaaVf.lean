/- Values that are put are read again: the lists; the closures; the walk of the law WireBack. -/
import Derived.Test.YtchpoddfjbopbaaVe
import Derived.Test.YtchpoddfjbopbaaVa
import Derived.Deep.DeepCutAuto
namespace Go.Proofs.Ytchpoddfjbopbaa
open Go.RowKit Go.Lib

set_option maxHeartbeats 2000000 in
theorem out43 (n : Int) (w : World) : Calls Try.prog 43 #[.int .i64 n] w (SaysB (!inR n) w) := by
  have HI := hid (inRange_any n w)
  obtain ⟨q, hq⟩ : ∃ q, inR n = q := ⟨_, rfl⟩
  rw [hq] at HI ⊢
  clear hq
  go_enter Try.func43, Try.ntmps43
  go_wp2_with fail
  refine HI.out.mono ?_
  rintro e w' ⟨rfl, rfl⟩
  go_wp2
  go_ret
  exact ⟨rfl, Below.refl _ _⟩
theorem equal_eq (a : List Nat) (v u : Value) (w : World) (hv : Byt w v a) (hu : Byt w u a) : Calls Try.prog 12 #[v, u] w (Says true w) := by
  have h := equal_any a a v u w hv hu
  rwa [decide_eq_true rfl] at h
def outE (x : Int × Int) : Bool := !inR x.1 || !inR x.2
def outW (x : Wri) : Bool := !inR x.v || !inR x.s

set_option maxHeartbeats 2000000 in
set_option maxRecDepth 100000 in
theorem out46 (a b : Int) (w : World) : Calls Try.prog 46 #[.agg #[.int .i64 a, .int .i64 b]] w (SaysB (!inR a || !inR b) w) := by
  have h0 := cell_of_row _ _ 0 _ _ _ (heap_alloc_new w (.cells #[.int .i64 a, .int .i64 b] 66))
  have h1 := cell_of_row _ _ 1 _ _ _ (heap_alloc_new w (.cells #[.int .i64 a, .int .i64 b] 66))
  have HB := hid (al1 w (.cells #[.int .i64 a, .int .i64 b] 66))
  obtain ⟨W, hW⟩ : ∃ W, w.alloc (.cells #[.int .i64 a, .int .i64 b] 66) = W := ⟨_, rfl⟩
  rw [hW] at h0 h1 HB
  have h0 : W.cell? ⟨w.heap.size, 0, none⟩ = some (.int .i64 a) := h0
  have h1 : W.cell? ⟨w.heap.size, 1, none⟩ = some (.int .i64 b) := h1
  have HI := hid (inRange_any a W)
  have HJ := hid (inRange_any b W)
  obtain ⟨p, hp⟩ : ∃ p, inR a = p := ⟨_, rfl⟩
  obtain ⟨q, hq⟩ : ∃ q, inR b = q := ⟨_, rfl⟩
  rw [hp] at HI ⊢
  rw [hq] at HJ ⊢
  clear hp hq
  rcases p with _ | _
  · go_enter Try.func46, Try.ntmps46
    go_wp2_with fail
    refine HI.out.mono ?_
    rintro e w' ⟨rfl, rfl⟩
    go_wp2
    go_ret
    exact ⟨rfl, HB.out⟩
  · go_enter Try.func46, Try.ntmps46
    go_wp2_with fail
    refine HI.out.mono ?_
    rintro e w' ⟨rfl, rfl⟩
    go_wp2_with fail
    refine HJ.out.mono ?_
    rintro e w' ⟨rfl, rfl⟩
    go_wp2
    go_ret
    exact ⟨rfl, HB.out⟩

set_option maxHeartbeats 2000000 in
set_option maxRecDepth 100000 in
theorem out48 (a b : Int) (A : Option Addr) (n c : Nat) (w : World) : Calls Try.prog 48 #[.agg #[.int .i64 a, .int .i64 b, .slice A n c]] w (SaysB (!inR a || !inR b) w) := by
  have h0 := cell_of_row _ _ 0 _ _ _ (heap_alloc_new w (.cells #[.int .i64 a, .int .i64 b, .slice A n c] 79))
  have h1 := cell_of_row _ _ 1 _ _ _ (heap_alloc_new w (.cells #[.int .i64 a, .int .i64 b, .slice A n c] 79))
  have HB := hid (al1 w (.cells #[.int .i64 a, .int .i64 b, .slice A n c] 79))
  obtain ⟨W, hW⟩ : ∃ W, w.alloc (.cells #[.int .i64 a, .int .i64 b, .slice A n c] 79) = W := ⟨_, rfl⟩
  rw [hW] at h0 h1 HB
  have h0 : W.cell? ⟨w.heap.size, 0, none⟩ = some (.int .i64 a) := h0
  have h1 : W.cell? ⟨w.heap.size, 1, none⟩ = some (.int .i64 b) := h1
  have HI := hid (inRange_any a W)
  have HJ := hid (inRange_any b W)
  obtain ⟨p, hp⟩ : ∃ p, inR a = p := ⟨_, rfl⟩
  obtain ⟨q, hq⟩ : ∃ q, inR b = q := ⟨_, rfl⟩
  rw [hp] at HI ⊢
  rw [hq] at HJ ⊢
  clear hp hq
  rcases p with _ | _
  · go_enter Try.func48, Try.ntmps48
    go_wp2_with fail
    refine HI.out.mono ?_
    rintro e w' ⟨rfl, rfl⟩
    go_wp2
    go_ret
    exact ⟨rfl, HB.out⟩
  · go_enter Try.func48, Try.ntmps48
    go_wp2_with fail
    refine HI.out.mono ?_
    rintro e w' ⟨rfl, rfl⟩
    go_wp2_with fail
    refine HJ.out.mono ?_
    rintro e w' ⟨rfl, rfl⟩
    go_wp2
    go_ret
    exact ⟨rfl, HB.out⟩

theorem inR_top {n : Int} (h : inR n = true) : n.toNat ≤ top ∧ ((n.toNat : Nat) : Int) = n := by
  have := inR_true h
  exact ⟨by unfold top; omega, by omega⟩
/-- What reading b and the rest r answers, when b was put. -/
theorem back_bytes (r : List Nat) (hl : r.length ≤ 65536) (h8 : B8 r) (t : List Nat) : dBytes (eBytes r ++ t) = .ok (r, t) := bytes_code.back r t ⟨hl, rfl, h8⟩
theorem back_secs (ls : List (List Nat)) (hl : ls.length ≤ 65536) (h : Secs ls) (t : List Nat) : dList dSec (eList eSec ls ++ t) = .ok (ls, t) := (list_code sec_code).back ls t ⟨hl, rfl, h⟩
theorem back_ints (li : List Int) (hl : li.length ≤ 65536) (h : li.any (fun n => !inR n) = false) (t : List Nat) : dList dNum (eList eNum li ++ t) = .ok (li.map Int.toNat, t) := by
  have hr : ∀ n ∈ li, inR n = true := fun n hn => by have := List.any_eq_false.1 h n hn; simpa using this
  have e : eList eNum li = eList Ytchpoddfjbopbaa.enc (li.map Int.toNat) := (eList_congr (E := eNum) (F := Ytchpoddfjbopbaa.enc) (f := Int.toNat) (fun n hn => by
    have h1 := inR_top (hr n hn)
    rw [← eNum_cast h1.1, h1.2])).symm
  rw [e]
  exact (list_code num_code).back _ t ⟨by rw [List.length_map]; exact hl, rfl, fun x hx => by obtain ⟨n, hn, rfl⟩ := List.mem_map.1 hx; exact (inR_top (hr n hn)).1⟩
theorem back_ints_cast (li : List Int) (h : li.any (fun n => !inR n) = false) : (li.map Int.toNat).map (fun (x : Nat) => (x : Int)) = li := by
  have hr : ∀ n ∈ li, inR n = true := fun n hn => by have := List.any_eq_false.1 h n hn; simpa using this
  rw [List.map_map]
  conv => rhs; rw [← List.map_id li]
  exact List.map_congr_left (fun n hn => (inR_top (hr n hn)).2)
def natE (x : Int × Int) : Nat × Nat := (x.1.toNat, x.2.toNat)
theorem outE_false {x : Int × Int} (h : outE x = false) : inR x.1 = true ∧ inR x.2 = true := by unfold outE at h; simpa using h
theorem back_exts (le : List (Int × Int)) (hl : le.length ≤ 65536) (h : le.any outE = false) (t : List Nat) : dList dExt (eList eExtI le ++ t) = .ok (le.map natE, t) := by
  have hr : ∀ x ∈ le, inR x.1 = true ∧ inR x.2 = true := fun x hx => outE_false (by have := List.any_eq_false.1 h x hx; simpa using this)
  have e : eList eExtI le = eList eExt (le.map natE) := (eList_congr (E := eExtI) (F := eExt) (f := natE) (fun x hx => by
    have h1 := inR_top (hr x hx).1
    have h2 := inR_top (hr x hx).2
    unfold eExtI eExt natE
    dsimp only
    rw [← eNum_cast h1.1, ← eNum_cast h2.1, h1.2, h2.2])).symm
  rw [e]
  exact (list_code ext_code).back _ t ⟨by rw [List.length_map]; exact hl, rfl, fun x hx => by obtain ⟨n, hn, rfl⟩ := List.mem_map.1 hx; exact ⟨(inR_top (hr n hn).1).1, (inR_top (hr n hn).2).1⟩⟩
theorem back_exts_cast (le : List (Int × Int)) (h : le.any outE = false) : (le.map natE).map castE = le := by
  have hr : ∀ x ∈ le, inR x.1 = true ∧ inR x.2 = true := fun x hx => outE_false (by have := List.any_eq_false.1 h x hx; simpa using this)
  rw [List.map_map]
  conv => rhs; rw [← List.map_id le]
  exact List.map_congr_left (fun x hx => Prod.ext (inR_top (hr x hx).1).2 (inR_top (hr x hx).2).2)
def natWr (x : Wri) : (Nat × Nat) × List (List Nat) := ((x.v.toNat, x.s.toNat), x.l)
theorem outW_false {x : Wri} (h : outW x = false) : inR x.v = true ∧ inR x.s = true := by unfold outW at h; simpa using h
theorem back_wris (lw : List Wri) (hl : lw.length ≤ 65536) (h : lw.any outW = false) (hs : ∀ x ∈ lw, x.l.length ≤ 65536 ∧ Secs x.l) (t : List Nat) : dList dWr (eList eWri lw ++ t) = .ok (lw.map natWr, t) := by
  have hr : ∀ x ∈ lw, inR x.v = true ∧ inR x.s = true := fun x hx => outW_false (by have := List.any_eq_false.1 h x hx; simpa using this)
  have e : eList eWri lw = eList eWr (lw.map natWr) := (eList_congr (E := eWri) (F := eWr) (f := natWr) (fun x hx => by
    have h1 := inR_top (hr x hx).1
    have h2 := inR_top (hr x hx).2
    unfold eWri eWr eExt natWr
    dsimp only
    rw [← eNum_cast h1.1, ← eNum_cast h2.1, h1.2, h2.2]
    rfl)).symm
  rw [e]
  exact (list_code wr_code).back _ t ⟨by rw [List.length_map]; exact hl, rfl, fun x hx => by obtain ⟨n, hn, rfl⟩ := List.mem_map.1 hx; exact ⟨⟨(inR_top (hr n hn).1).1, (inR_top (hr n hn).2).1⟩, (hs n hn).1, rfl, (hs n hn).2⟩⟩
theorem back_wris_same (lw : List Wri) (ds : List Value) (h : lw.any outW = false) (hd : ds.length = (lw.map natWr).length) : sameL (((lw.map natWr).zip ds).map fun p => (⟨(p.1.1.1 : Int), (p.1.1.2 : Int), p.2, p.1.2⟩ : Wri)) lw := by
  have hr : ∀ x ∈ lw, inR x.v = true ∧ inR x.s = true := fun x hx => outW_false (by have := List.any_eq_false.1 h x hx; simpa using this)
  refine ⟨by rw [List.length_map, List.length_zip, hd]; simp, fun i x y hx hy => ?_⟩
  rw [List.getElem?_map] at hx
  obtain ⟨p, hp, rfl⟩ := Option.map_eq_some_iff.1 hx
  rw [List.getElem?_zip_eq_some, List.getElem?_map, hy] at hp
  have h1 := hp.1
  simp at h1
  have hy' := hr y (List.mem_of_getElem? hy)
  unfold sameW
  rw [← h1]
  have a1 := (inR_top hy'.1).2
  have a2 := (inR_top hy'.2).2
  simp [natWr, a1, a2]
end Go.Proofs.Ytchpoddfjbopbaa
