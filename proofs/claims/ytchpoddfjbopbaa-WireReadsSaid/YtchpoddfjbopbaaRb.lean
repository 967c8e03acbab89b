/- The reader's sector. -/
import Derived.Test.YtchpoddfjbopbaaRa
import Derived.Laws.CopyOwn
import Derived.Deep.RegionLawGrows
namespace Go.Proofs.Ytchpoddfjbopbaa
open Go.RowKit Go.Lib

theorem took_one {w0 w w' : World} {g n : Nat} {s : List Nat} {er : Int} {e : Ending} (h : Took w0 w g s er n e w') (he : er ≠ 0 → s = []) :
    ∃ v l s1 er1, e = .returned v ∧ NilOk v ∧ Upd g w w' ∧ Byt w0 v l ∧ l.length ≤ n ∧ Rd w0 w' g s1 er1 ∧ (er1 ≠ 0 → s1 = []) ∧ s1.length ≤ s.length ∧ ((er1 = er ∧ n ≤ s.length ∧ l = s.take n ∧ s1 = s.drop n) ∨ (s.length < n ∧ l = [] ∧ s1 = [] ∧ er1 = if er = 0 then 10 else er)) := by
  obtain ⟨v, rfl, hn, hu, h⟩ := h
  rcases h with ⟨h1, h2, h3⟩ | ⟨h1, rfl, h3⟩
  · exact ⟨v, _, _, er, rfl, hn, hu, h2, by rw [List.length_take]; omega, h3, fun h => by rw [he h]; simp, by rw [List.length_drop]; omega, .inl ⟨rfl, h1, rfl, rfl⟩⟩
  · exact ⟨_, [], [], _, rfl, hn, hu, byt_nil _, by simp, h3, fun _ => rfl, by simp, .inr ⟨h1, rfl, rfl, rfl⟩⟩

theorem byt_some {w : World} {A : Option Addr} {n c : Nat} {l : List Nat} (h : Byt w (.slice A n c) l) (hp : 0 < l.length) : ∃ a, A = some a := by
  obtain ⟨_, A', cap, e, h1, h2, b, off, hA, _⟩ := h
  injection e with e1
  subst e1
  exact ⟨_, (hA hp).1⟩
theorem byt_cells_at {w0 w : World} {A : Option Addr} {n c : Nat} {l : List Nat} {a : Addr} (h : Byt w0 (.slice A n c) l) (hb : Below w0.heap.size w0 w) (ha : A = some a) {j : Nat} {u : Value} (hu : (l.map byteV)[j]? = some u) : w.cell? (a.add j) = some u := by
  obtain ⟨_, A', cap, e, h1, h2, b, off, hA, hc⟩ := h
  injection e with e1
  subst e1
  rw [List.getElem?_map] at hu
  obtain ⟨z, hz, rfl⟩ := Option.map_eq_some_iff.1 hu
  have hj := (List.getElem?_eq_some_iff.1 hz).1
  obtain ⟨hA1, hA2⟩ := hA (by omega)
  rw [ha] at hA1
  injection hA1 with hA1
  subst hA1
  have e : (⟨b, off, none⟩ : Addr).add j = ⟨b, off + j, none⟩ := by unfold Addr.add; split <;> simp_all
  rw [e]
  exact (hb.cell (p := ⟨b, _, none⟩) hA2).trans (hc j z hz)
def pad8 (l : List Nat) : List Nat := l ++ List.replicate (8 - l.length) 0
theorem pad8_length {l : List Nat} (h : l.length ≤ 8) : (pad8 l).length = 8 := by unfold pad8; simp; omega
theorem pad8_B8 {l : List Nat} (h : B8 l) : B8 (pad8 l) := h.append (fun x hx => by have := List.eq_of_mem_replicate hx; omega)
theorem pad8_full {l : List Nat} (h : l.length = 8) : pad8 l = l := by unfold pad8; simp [h]
def zero8 : List Value := List.replicate 8 (.int .u8 0)
theorem splice_sec (l : List Nat) : splice zero8 0 (l.map byteV) = cSec (pad8 l) := by
  unfold splice zero8 cSec pad8
  rw [List.take_zero, List.nil_append, List.length_map, Nat.zero_add, List.drop_replicate, List.map_append, List.map_replicate]
  rfl
theorem und59 : Try.prog.underlying 59 = some (.array 8 5) := by kernel_rfl
theorem size59 : (Try.prog.info? 59).map (·.size) = some 8 := by kernel_rfl
theorem box_set {w : World} {g : Nat} {cs : Array Value} {t : TypeId} (h : w.heap[g]? = some (.cells cs t)) (i : Nat) (v : Value) : (w.setCell ⟨g, i, none⟩ v).heap[g]? = some (.cells (cs.setIfInBounds i v) t) := by
  show (w.heap.modify g _)[g]? = _
  obtain ⟨hlt, hk⟩ := Array.getElem?_eq_some_iff.1 h
  rw [Array.getElem?_eq_getElem (by rw [Array.size_modify]; exact hlt), Array.getElem_modify_self, hk]
  rfl
def VSec (_ : World) (v : Value) (x : List Nat) : Prop := v = .agg (cSec x).toArray ∧ x.length = 8 ∧ B8 x
def ShSec (v : Value) : Prop := ∃ x : List Nat, x.length = 8 ∧ v = .agg (cSec x).toArray

/-- Stores into block c. -/
def setAll (w : World) (c : Nat) (l : List (Nat × Value)) : World := l.foldl (fun w p => w.setCell ⟨c, p.1, none⟩ p.2) w
theorem setAll_rd {w0 w : World} {g c : Nat} {s : List Nat} {er : Int} (hc : g ≠ c) (l : List (Nat × Value)) (h : Rd w0 w g s er) : Rd w0 (setAll w c l) g s er := by
  induction l generalizing w with
  | nil => exact h
  | cons p l ih => exact ih (h.set hc p.2)
theorem setAll_upd {g c : Nat} {a b : World} (hc : a.heap.size ≤ c) (l : List (Nat × Value)) (h : Upd g a b) : Upd g a (setAll b c l) := by
  induction l generalizing b with
  | nil => exact h
  | cons p l ih => exact ih (h.new hc p.2)
theorem sec_rd {w0 w1 w2 : World} {g c : Nat} {s : List Nat} {er : Int} (h : Rd w0 w1 g s er) (hb : Below (c + 1) w1 w2) (hg : g < c + 1) (hc : g ≠ c) (l : List (Nat × Value)) : Rd w0 (setAll w2 c l) g s er := by
  refine setAll_rd hc l ?_
  obtain ⟨v, hv, h2⟩ := h
  exact ⟨v, (hb.block g hg).trans hv, h2⟩
theorem sec_upd {g c : Nat} {a w1 w2 : World} (h : Upd g a w1) (hb : Below (c + 1) w1 w2) (hc : a.heap.size ≤ c) (l : List (Nat × Value)) : Upd g a (setAll w2 c l) :=
  setAll_upd hc l ⟨h.low.trans (hb.mono (Nat.zero_le _)), fun k hk hg => (hb.block k (by omega)).trans (h.block k hk hg)⟩

set_option maxHeartbeats 2000000 in
set_option maxRecDepth 100000 in
theorem rsec_any (s : List Nat) (er : Int) (g : Nat) (w0 w : World) (hb0 : Below w0.heap.size w0 w) (hbg : w0.heap.size ≤ g) (hr : Rd w0 w g s er) (he : er ≠ 0 → s = []) (hl : s.length ≤ 90000) :
    Calls Try.prog 72 #[.pointer (some ⟨g, 0, none⟩)] w (Got dSec VSec ShSec w0 w g s er) := by
  have hb0s := hb0.size
  have hgl := hr.lt
  obtain ⟨o, ho⟩ : ∃ o, o = (Obj.cells #[.int .u8 0, .int .u8 0, .int .u8 0, .int .u8 0, .int .u8 0, .int .u8 0, .int .u8 0, .int .u8 0] 59) := ⟨_, rfl⟩
  have hU0 : Upd g w ((w.alloc o).alloc o) := ((Upd.refl g w).alloc o).alloc o
  have hR0 : Rd w0 ((w.alloc o).alloc o).drew g s er := (hr.alloc o).alloc o
  have hX0 : ((w.alloc o).alloc o).drew.heap[w.heap.size]? = some (.cells zero8.toArray 59) := (Below.heap_alloc _ _ _ (by simp)).trans (by rw [heap_alloc_new, ho]; rfl)
  have hY0 : ((w.alloc o).alloc o).drew.heap[w.heap.size + 1]? = some (.cells zero8.toArray 59) := by
    have h := heap_alloc_new (w.alloc o) o
    rw [show (w.alloc o).heap.size = w.heap.size + 1 by simp] at h
    exact h.trans (by rw [ho]; rfl)
  have hz0 : ((w.alloc o).alloc o).drew.heap.size = w.heap.size + 2 := by show ((w.alloc o).alloc o).heap.size = _; simp
  have hTK := take_any s er 8 g w0 _ hR0 (by omega) hl
  have HU0 := hid hU0.drew
  have HHE := hid he
  subst ho
  obtain ⟨W, hW⟩ : ∃ W, ((w.alloc (Obj.cells #[.int .u8 0, .int .u8 0, .int .u8 0, .int .u8 0, .int .u8 0, .int .u8 0, .int .u8 0, .int .u8 0] 59)).alloc (Obj.cells #[.int .u8 0, .int .u8 0, .int .u8 0, .int .u8 0, .int .u8 0, .int .u8 0, .int .u8 0, .int .u8 0] 59)).drew = W := ⟨_, rfl⟩
  rw [hW] at hX0 hY0 hz0 hTK HU0
  have HT := hid hTK
  have HX := hid hX0
  have HY := hid hY0
  have HB0 := hid hb0
  have hWz : w.heap.size + 2 ≤ W.heap.size := by omega
  have hwl := hl
  clear hR0 hX0 hY0 hz0 hTK hU0 he hb0 hr hl
  go_enter Try.func72, Try.ntmps72
  go_wp2_with fail
  go_region_law (first
    | (go_simp; go_at_call 94; refine HT.out.mono ?_; rintro e w1 ht; obtain ⟨v1, l, s1, er1, rfl, hn1, hu1, hv1, hl1, hr1, hs1, hsl, hd1⟩ := took_one ht HHE.out; obtain ⟨A1, c1, rfl⟩ := byt_form hv1; have HN1 := hid hn1; have HU1 := hid hu1; have HV1 := hid hv1; have HR1 := hid hr1; have HD1 := hid hd1; have HS1 := hid hs1; clear ht hn1 hu1 hv1 hr1 hd1 hs1)
    | (refine step_copy_splice rfl (.tmp 4) (.tmp 6) 22 22 rfl 5 Try.underlying22 (by kernel_rfl) (some ⟨w.heap.size + 1, 0, none⟩) A1 8 8 l.length c1 (by simp [Act.eval]) (by simp [Act.eval]) (w.heap.size + 1) 0 zero8 59 ((HU1.out.block _ (by omega) (by omega)).trans HY.out) (l.map byteV) (by rw [List.length_map]; exact (Nat.min_eq_left hl1).symm) ?_ ?_ (byteV_one l) (w.heap.size + 1) w1 (Below.refl _ _) (Nat.le_refl _) ?_
       · intro hp
         rw [List.length_map] at hp
         obtain ⟨a, ha⟩ := byt_some HV1.out hp
         exact ⟨rfl, a, ha, fun j u hu => byt_cells_at HV1.out (HB0.out.trans ((HU0.out.trans HU1.out).below hbg hb0s)) ha hu⟩
       · rw [List.length_map]; show 0 + l.length ≤ 8; omega
       intro w2 hg2 hb2
       have HX2 := hid (((hb2.block _ (by omega)).trans (HU1.out.block _ (by omega) (by omega))).trans HX.out)))
  all_goals
    rw [splice_sec l] at hg2
    have hp8 := pad8_length hl1
    have HV8 : Hid (er1 = er → 8 ≤ s.length → l = s.take 8 → pad8 l = s.take 8) := hid (fun _ h1 h2 => by rw [pad8_full (by rw [h2, List.length_take]; omega), h2])
    obtain ⟨p8, hp⟩ : ∃ p8, pad8 l = p8 := ⟨_, rfl⟩
    rw [hp] at hg2 hp8 HV8
    obtain ⟨x0, x1, x2, x3, x4, x5, x6, x7, rfl⟩ := list8 hp8
    have y0 : w2.cell? ⟨w.heap.size + 1, 0, none⟩ = some (.int .u8 (x0 : Int)) := cell_of_row _ _ 0 _ _ _ hg2.out
    have y1 : w2.cell? ⟨w.heap.size + 1, 1, none⟩ = some (.int .u8 (x1 : Int)) := cell_of_row _ _ 1 _ _ _ hg2.out
    have y2 : w2.cell? ⟨w.heap.size + 1, 2, none⟩ = some (.int .u8 (x2 : Int)) := cell_of_row _ _ 2 _ _ _ hg2.out
    have y3 : w2.cell? ⟨w.heap.size + 1, 3, none⟩ = some (.int .u8 (x3 : Int)) := cell_of_row _ _ 3 _ _ _ hg2.out
    have y4 : w2.cell? ⟨w.heap.size + 1, 4, none⟩ = some (.int .u8 (x4 : Int)) := cell_of_row _ _ 4 _ _ _ hg2.out
    have y5 : w2.cell? ⟨w.heap.size + 1, 5, none⟩ = some (.int .u8 (x5 : Int)) := cell_of_row _ _ 5 _ _ _ hg2.out
    have y6 : w2.cell? ⟨w.heap.size + 1, 6, none⟩ = some (.int .u8 (x6 : Int)) := cell_of_row _ _ 6 _ _ _ hg2.out
    have y7 : w2.cell? ⟨w.heap.size + 1, 7, none⟩ = some (.int .u8 (x7 : Int)) := cell_of_row _ _ 7 _ _ _ hg2.out
    have z0 : w2.cell? ⟨w.heap.size, 0, none⟩ = some (.int .u8 0) := cell_of_row _ _ 0 _ _ _ HX2.out
    have z1 : w2.cell? ⟨w.heap.size, 1, none⟩ = some (.int .u8 0) := cell_of_row _ _ 1 _ _ _ HX2.out
    have z2 : w2.cell? ⟨w.heap.size, 2, none⟩ = some (.int .u8 0) := cell_of_row _ _ 2 _ _ _ HX2.out
    have z3 : w2.cell? ⟨w.heap.size, 3, none⟩ = some (.int .u8 0) := cell_of_row _ _ 3 _ _ _ HX2.out
    have z4 : w2.cell? ⟨w.heap.size, 4, none⟩ = some (.int .u8 0) := cell_of_row _ _ 4 _ _ _ HX2.out
    have z5 : w2.cell? ⟨w.heap.size, 5, none⟩ = some (.int .u8 0) := cell_of_row _ _ 5 _ _ _ HX2.out
    have z6 : w2.cell? ⟨w.heap.size, 6, none⟩ = some (.int .u8 0) := cell_of_row _ _ 6 _ _ _ HX2.out
    have z7 : w2.cell? ⟨w.heap.size, 7, none⟩ = some (.int .u8 0) := cell_of_row _ _ 7 _ _ _ HX2.out
    have f0 := box_fr HX2.out 0
    have f1 := box_fr HX2.out 1
    have f2 := box_fr HX2.out 2
    have f3 := box_fr HX2.out 3
    have f4 := box_fr HX2.out 4
    have f5 := box_fr HX2.out 5
    have f6 := box_fr HX2.out 6
    have f7 := box_fr HX2.out 7
    have HB2 := hid hb2
    have HHP := hid hp
    have hw1 := HU1.out.low.size
    clear hb2 hp hg2 hp8 hW
    go_wp2
    refine bodyPost_ret (results_cell_row rfl _ _ w.heap.size 59 #[.int .u8 (x0 : Int), .int .u8 (x1 : Int), .int .u8 (x2 : Int), .int .u8 (x3 : Int), .int .u8 (x4 : Int), .int .u8 (x5 : Int), .int .u8 (x6 : Int), .int .u8 (x7 : Int)] (0, 0) _ rfl (box_set (box_set (box_set (box_set (box_set (box_set (box_set (box_set HX2.out 0 _) 1 _) 2 _) 3 _) 4 _) 5 _) 6 _) 7 _) und59 rfl size59) rfl ?_
    have hR2 := sec_rd HR1.out HB2.out (by omega) (by omega) [(0, .int .u8 (x0 : Int)), (1, .int .u8 (x1 : Int)), (2, .int .u8 (x2 : Int)), (3, .int .u8 (x3 : Int)), (4, .int .u8 (x4 : Int)), (5, .int .u8 (x5 : Int)), (6, .int .u8 (x6 : Int)), (7, .int .u8 (x7 : Int))]
    have hU2 := sec_upd (HU0.out.trans HU1.out) HB2.out (by omega) [(0, .int .u8 (x0 : Int)), (1, .int .u8 (x1 : Int)), (2, .int .u8 (x2 : Int)), (3, .int .u8 (x3 : Int)), (4, .int .u8 (x4 : Int)), (5, .int .u8 (x5 : Int)), (6, .int .u8 (x6 : Int)), (7, .int .u8 (x7 : Int))]
    refine ⟨_, rfl, ⟨[x0, x1, x2, x3, x4, x5, x6, x7], rfl, rfl⟩, hU2, ?_⟩
    rcases HD1.out with ⟨h1, h2, h3, h4⟩ | ⟨h1, h2, h3, h4⟩
    · by_cases he : er = 0
      · refine .inl ⟨[x0, x1, x2, x3, x4, x5, x6, x7], s1, he, ?_, ⟨rfl, rfl, by rw [← HHP.out]; exact pad8_B8 HV1.out.1⟩, by rw [he] at h1; rw [← h1]; exact hR2⟩
        unfold dSec dTake
        rw [if_neg (by omega), HV8.out h1 h2 h3, h4]
      · have := HHE.out he
        rw [this] at h2
        simp at h2
    · refine .inr ⟨er1, ?_, fun he => ?_, fun he => ?_, by rw [h3] at hR2; exact hR2⟩
      · rw [h4]; split
        · decide
        · assumption
      · rw [h4, if_pos he]
        unfold dSec dTake
        rw [if_pos h1]
      · rw [h4, if_neg he]
end Go.Proofs.Ytchpoddfjbopbaa
