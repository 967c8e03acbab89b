/- The input's sectors. -/
import Derived.Test.YtielamoaghibgaaRh
namespace Go.Proofs.Ytielamoaghibgaa
open Go.RowKit Go.Lib

theorem set_mid {α : Type} (p r : List α) (z x : α) : (p ++ z :: r).set p.length x = p ++ x :: r := by simp
theorem set8 {α : Type} (p r : List α) (z0 z1 z2 z3 z4 z5 z6 z7 x0 x1 x2 x3 x4 x5 x6 x7 : α) (n : Nat) (hn : n = p.length) :
    ((((((((p ++ z0 :: z1 :: z2 :: z3 :: z4 :: z5 :: z6 :: z7 :: r).set n x0).set (n + 1) x1).set (n + 2) x2).set (n + 3) x3).set (n + 4) x4).set (n + 5) x5).set (n + 6) x6).set (n + 7) x7 = p ++ x0 :: x1 :: x2 :: x3 :: x4 :: x5 :: x6 :: x7 :: r := by
  subst hn
  simp
theorem box_set {w : World} {g : Nat} {cs : List Value} {t : TypeId} (h : w.heap[g]? = some (.cells cs.toArray t)) (i : Nat) (v : Value) : (w.setCell ⟨g, i, none⟩ v).heap[g]? = some (.cells (cs.set i v).toArray t) := by
  show (w.heap.modify g _)[g]? = _
  obtain ⟨hlt, hk⟩ := Array.getElem?_eq_some_iff.1 h
  rw [Array.getElem?_eq_getElem (by rw [Array.size_modify]; exact hlt), Array.getElem_modify_self, hk]
  simp
def zv : Value := .int .u8 0
def zv8 : List Value := [.int .u8 0, .int .u8 0, .int .u8 0, .int .u8 0, .int .u8 0, .int .u8 0, .int .u8 0, .int .u8 0]
/-- n sectors, of which the first have been laid. -/
def laid (l : List Sect) (m : Nat) : List Value := (l.map cSec).flatten ++ (List.replicate m zv8).flatten
theorem chk_snoc (k : Nat) : ∀ s : List Nat, chk (k + 1) s = chk k s ++ [(s.drop (8 * k)).take 8] := by
  induction k with
  | zero => intro s; rfl
  | succ k ih =>
    intro s
    rw [chk, ih, chk, List.cons_append]
    rw [List.drop_drop, show 8 + 8 * k = 8 * (k + 1) by omega]
theorem chk_secs : ∀ (n : Nat) (s : List Nat), B8 s → 8 * n ≤ s.length → Secs (chk n s) := by
  intro n
  induction n with
  | zero => intro s _ _ x hx; cases hx
  | succ n ih =>
    intro s h8 hl x hx
    rw [chk] at hx
    rcases List.mem_cons.1 hx with rfl | hx
    · exact ⟨by rw [List.length_take]; omega, fun y hy => h8 y (List.mem_of_mem_take hy)⟩
    · exact ih (s.drop 8) (fun y hy => h8 y (List.mem_of_mem_drop hy)) (by rw [List.length_drop]; omega) x hx
theorem flat_cells {l : List Sect} (h : Secs l) : (l.map cSec).flatten.length = 8 * l.length := by
  induction l with
  | nil => rfl
  | cons a l ih =>
    rw [List.map_cons, List.flatten_cons, List.length_append, ih (fun s hs => h s (List.mem_cons_of_mem _ hs)), List.length_cons]
    have := (h a (List.mem_cons_self ..)).1
    unfold cSec
    rw [List.length_map]
    omega
set_option maxRecDepth 100000 in
theorem made_secs (n : Nat) : madeCells (Value.agg #[.int .u8 0, .int .u8 0, .int .u8 0, .int .u8 0, .int .u8 0, .int .u8 0, .int .u8 0, .int .u8 0]).cells (n * 8) = (laid [] n).toArray := by
  have hz : ∀ i : Nat, (#[.int .u8 0, .int .u8 0, .int .u8 0, .int .u8 0, .int .u8 0, .int .u8 0, .int .u8 0, .int .u8 0] : Array Value)[i % 8]! = .int .u8 0 := fun i => by
    have h : i % 8 = 0 ∨ i % 8 = 1 ∨ i % 8 = 2 ∨ i % 8 = 3 ∨ i % 8 = 4 ∨ i % 8 = 5 ∨ i % 8 = 6 ∨ i % 8 = 7 := by omega
    rcases h with h | h | h | h | h | h | h | h <;> rw [h] <;> rfl
  have hf : ∀ n : Nat, (List.replicate n zv8).flatten = List.replicate (n * 8) (.int .u8 0) := fun n => by
    induction n with
    | zero => rfl
    | succ n ih =>
      rw [List.replicate_succ, List.flatten_cons, ih, show (n + 1) * 8 = 8 + n * 8 by omega, ← List.replicate_append_replicate]
      rfl
  apply Array.ext'
  unfold madeCells
  rw [Array.toList_map, Array.toList_range]
  unfold laid
  rw [hf]
  apply List.ext_getElem?
  intro i
  rw [List.getElem?_map]
  simp only [List.map_nil, List.flatten_nil, List.nil_append]
  rcases Nat.lt_or_ge i (n * 8) with h | h
  · rw [List.getElem?_range h, List.getElem?_replicate, if_pos h]
    exact congrArg some (hz i)
  · rw [List.getElem?_eq_none (by rw [List.length_range]; exact h), List.getElem?_eq_none (by rw [List.length_replicate]; exact h)]
    rfl
theorem byt_cap' {w : World} {A : Option Addr} {n c : Nat} {l : List Nat} (h : Byt w (.slice A n c) l) : n ≤ c := by
  obtain ⟨_, A', c', e, h1, _⟩ := h
  injection e with _ e2 e3
  omega
theorem byt_at {w : World} {A : Option Addr} {n c : Nat} {l : List Nat} (h : Byt w (.slice A n c) l) (hp : 0 < l.length) : ∃ b off, A = some ⟨b, off, none⟩ ∧ b < w.heap.size ∧ ∀ (i x : Nat), l[i]? = some x → w.cell? ⟨b, off + i, none⟩ = some (.int .u8 (x : Int)) := by
  obtain ⟨_, A', c', e, _, _, b, off, hA, hc⟩ := h
  injection e with e1
  subst e1
  exact ⟨b, off, (hA hp).1, (hA hp).2, hc⟩
set_option maxRecDepth 100000 in
theorem run_arrayAt (p : Addr) (c : Nat) (W : World) : (Instr.arrayAt 41 (.slice (some p) 8 c)).run Try.prog W = .ok (.pointer (some p)) W := by
  have hu := Try.underlying41
  simp [Instr.arrayAt, run_underlying hu, Sem.run_bind]
theorem laid_succ (l : List Sect) (m : Nat) : laid l (m + 1) = (l.map cSec).flatten ++ zv :: zv :: zv :: zv :: zv :: zv :: zv :: zv :: (List.replicate m zv8).flatten := by
  unfold laid
  rw [List.replicate_succ]
  rfl
theorem laid_snoc (l : List Sect) (m : Nat) (x0 x1 x2 x3 x4 x5 x6 x7 : Nat) : laid (l ++ [[x0, x1, x2, x3, x4, x5, x6, x7]]) m = (l.map cSec).flatten ++ byteV x0 :: byteV x1 :: byteV x2 :: byteV x3 :: byteV x4 :: byteV x5 :: byteV x6 :: byteV x7 :: (List.replicate m zv8).flatten := by
  unfold laid
  simp [cSec]
theorem laid_cell {w : World} {g : Nat} {l : List Sect} {m k : Nat} (h : w.heap[g]? = some (.cells (laid l (m + 1)).toArray 41)) (hl : (l.map cSec).flatten.length = 8 * k) (j : Nat) (hj : j < 8) : w.cell? ⟨g, k * 8 + j, none⟩ = some (.int .u8 0) := by
  rw [cell_of_row _ _ _ _ _ _ h, laid_succ]
  have e : k * 8 + j = (l.map cSec).flatten.length + j := by omega
  rw [e]
  simp only [List.getElem?_toArray]
  rw [List.getElem?_append_right (by omega)]
  rw [show (l.map cSec).flatten.length + j - (l.map cSec).flatten.length = j by omega]
  rcases j with _ | _ | _ | _ | _ | _ | _ | _ | j
  all_goals first | rfl | omega
theorem laid_store {w : World} {g : Nat} {l : List Sect} {m k : Nat} (h : w.heap[g]? = some (.cells (laid l (m + 1)).toArray 41)) (hl : (l.map cSec).flatten.length = 8 * k) (x0 x1 x2 x3 x4 x5 x6 x7 : Nat) :
    ((((((((w.setCell ⟨g, k * 8, none⟩ (byteV x0)).setCell ⟨g, k * 8 + 1, none⟩ (byteV x1)).setCell ⟨g, k * 8 + 2, none⟩ (byteV x2)).setCell ⟨g, k * 8 + 3, none⟩ (byteV x3)).setCell ⟨g, k * 8 + 4, none⟩ (byteV x4)).setCell ⟨g, k * 8 + 5, none⟩ (byteV x5)).setCell ⟨g, k * 8 + 6, none⟩ (byteV x6)).setCell ⟨g, k * 8 + 7, none⟩ (byteV x7)).heap[g]? = some (.cells (laid (l ++ [[x0, x1, x2, x3, x4, x5, x6, x7]]) m).toArray 41) := by
  rw [laid_succ] at h
  rw [laid_snoc, box_set (box_set (box_set (box_set (box_set (box_set (box_set (box_set h _ _) _ _) _ _) _ _) _ _) _ _) _ _) _ _, set8 _ _ _ _ _ _ _ _ _ _ _ _ _ _ _ _ _ _ _ (by omega)]
theorem Upd.new {g : Nat} {a b : World} (h : Upd g a b) {c i : Nat} (hc : a.heap.size ≤ c) (u : Value) : Upd g a (b.setCell ⟨c, i, none⟩ u) :=
  ⟨h.low.setCell (Nat.zero_le _) u, fun k hk hg => (Below.heap_setCell _ _ _ _ (show k ≠ c by omega)).trans (h.block k hk hg)⟩
def st8 (w : World) (g o x0 x1 x2 x3 x4 x5 x6 x7 : Nat) : World := ((((((((w.setCell ⟨g, o, none⟩ (byteV x0)).setCell ⟨g, o + 1, none⟩ (byteV x1)).setCell ⟨g, o + 2, none⟩ (byteV x2)).setCell ⟨g, o + 3, none⟩ (byteV x3)).setCell ⟨g, o + 4, none⟩ (byteV x4)).setCell ⟨g, o + 5, none⟩ (byteV x5)).setCell ⟨g, o + 6, none⟩ (byteV x6)).setCell ⟨g, o + 7, none⟩ (byteV x7))
theorem st8_upd {g c o x0 x1 x2 x3 x4 x5 x6 x7 : Nat} {a b : World} (h : Upd g a b) (hc : a.heap.size ≤ c) : Upd g a (st8 b c o x0 x1 x2 x3 x4 x5 x6 x7) :=
  (((((((h.new hc _).new hc _).new hc _).new hc _).new hc _).new hc _).new hc _).new hc _
theorem st8_other {w : World} {g k o x0 x1 x2 x3 x4 x5 x6 x7 : Nat} (hk : k ≠ g) : (st8 w g o x0 x1 x2 x3 x4 x5 x6 x7).heap[k]? = w.heap[k]? := by
  unfold st8
  rw [Below.heap_setCell _ _ _ _ hk, Below.heap_setCell _ _ _ _ hk, Below.heap_setCell _ _ _ _ hk, Below.heap_setCell _ _ _ _ hk, Below.heap_setCell _ _ _ _ hk, Below.heap_setCell _ _ _ _ hk, Below.heap_setCell _ _ _ _ hk, Below.heap_setCell _ _ _ _ hk]
theorem fa8 (b off c : Nat) : fromA (some ⟨b, off, none⟩) c 8 = if c = 8 then some ⟨b, off, none⟩ else some ⟨b, off + 8, none⟩ := by
  unfold fromA
  split <;> rfl
theorem nilOk_if {p : Prop} [Decidable p] (a b : Addr) (n c : Nat) : NilOk (.slice (if p then some a else some b) n c) := by
  split <;> exact nilOk_some _ _ _
/-- What reading n sectors in the box g answers. -/
def SecQ (w0 w : World) (g n : Nat) (s : List Nat) (m lv : Value) (e : Ending) (w' : World) : Prop :=
  Upd g w w' ∧ ((8 * n ≤ s.length ∧ ∃ v, e = .returned v ∧ w'.ownsRow w.heap.size 41 8 v n ((chk n s).map cSec).flatten ∧ Rdr w0 w' g (s.drop (8 * n)) m lv) ∨ (s.length < 8 * n ∧ Pan 10 e))

set_option maxHeartbeats 2000000 in
set_option maxRecDepth 100000 in
theorem sectors_any (s : List Nat) (g n : Nat) (m lv : Value) (w0 w : World) (hb0 : Below w0.heap.size w0 w) (hr : Rdr w0 w g s m lv) (hn : n ≤ 4096) (hbg : w0.heap.size ≤ g) :
    Calls Try.prog 38 #[.pointer (some ⟨g, 0, none⟩), .int .i64 (n : Int)] w (SecQ w0 w g n s m lv) := by
  obtain ⟨v, hb, hv, hnn⟩ := hr
  obtain ⟨A, c, rfl⟩ := byt_form hv
  have c0 : w.cell? ⟨g, 0, none⟩ = some (.slice A s.length c) := cell_of_row _ _ 0 _ _ _ hb
  have HB := hid hb
  have HV := hid hv
  have HN := hid hnn
  have hcp := byt_cap hv
  have HB0 := hid hb0
  have HB8 := hid hv.1
  clear hb hv hnn hb0
  by_cases ht : s.length < 8 * n
  · have hd : decide ((s.length : Int) < (n : Int) * 8) = true := by simp; omega
    go_enter Try.func38, Try.ntmps38
    go_wp2
    exact ⟨rfl, Upd.refl g w, .inr ⟨ht, rfl⟩⟩
  · have hd : decide ((s.length : Int) < (n : Int) * 8) = false := by simp; omega
    have hmk : ∀ W : World, (Instr.makeSlice 22 (.int .i64 (n : Int)) (.int .i64 (n : Int))).run Try.prog W = .ok (.slice (some ⟨W.heap.size, 0, none⟩) n n) (W.alloc (.cells (laid [] n).toArray 41)) := fun W => by
      obtain ⟨i0, hi, hz0, hz1, hz2⟩ := info_parts info41
      have h := run_make (P := Try.prog) W 22 41 i0 _ Try.underlying22 hi hz0 .i64 .i64 (n : Int) (n : Int) (by omega) (by omega) (by rw [hz2]; omega) (by omega)
      rw [hz1, Int.toNat_natCast, made_secs] at h
      exact h
    obtain ⟨W1, hW1⟩ : ∃ W1, w.alloc (.cells (laid [] n).toArray 41) = W1 := ⟨_, rfl⟩
    have hmk1 := hmk w
    rw [hW1] at hmk1
    have hx1 : W1.heap[w.heap.size]? = some (.cells (laid [] n).toArray 41) := by rw [← hW1]; exact heap_alloc_new w _
    have hb1 : Below w.heap.size w W1 := by rw [← hW1]; exact al1 _ _
    have hz1 : W1.heap.size = w.heap.size + 1 := by rw [← hW1]; simp
    have HX1 := hid hx1
    have hgl := box_lt HB.out
    have HC1 := hid ((hb1.block g hgl).trans HB.out)
    have HU1 := hid ((Upd.refl g w).of_below hb1)
    have HV1 : Hid (Byt w0 (.slice A s.length c) (s.drop (8 * 0))) := hid HV.out
    have hlw : w.heap.size < W1.heap.size := by omega
    clear hmk hW1 hx1 hb1 hz1 HB HV hcp
    go_enter Try.func38, Try.ntmps38
    go_wp2_with fail
    go_loopw [20] (fun i wr => ∃ (k : Nat) (A' : Option Addr) (c' : Nat), k ≤ n ∧ i = .int .i64 (k : Int) ∧ Hid (Byt w0 (.slice A' (s.length - 8 * k) c') (s.drop (8 * k))) ∧ Hid (NilOk (.slice A' (s.length - 8 * k) c')) ∧ Hid (wr.heap[g]? = some (.cells #[.slice A' (s.length - 8 * k) c', m, lv] 64)) ∧ Hid (Upd g w wr) ∧ w.heap.size < wr.heap.size ∧ Hid (wr.heap[w.heap.size]? = some (.cells (laid (chk k s) (n - k)).toArray 41))) (fun i _ => n - (Lib.intOf i).toNat)
    case atStart => exact ⟨0, A, c, Nat.zero_le _, rfl, HV1, HN, HC1, HU1, hlw, HX1⟩
    case round =>
      clear HV1 HN HC1 HU1 HX1 hlw c0 hmk1
      obtain ⟨k, A', c', hk, rfl, HV, HN, HC, HU, hlw, HX⟩ := hrel
      by_cases hkn : k < n
      · have hcp := byt_cap' HV.out
        have hpos : 0 < s.length - 8 * k := by omega
        obtain ⟨b, off, rfl, hbl, hcell⟩ := byt_at HV.out (by rw [List.length_drop]; exact hpos)
        have c0 : wr.cell? ⟨g, 0, none⟩ = some (.slice (some ⟨b, off, none⟩) (s.length - 8 * k) c') := cell_of_row _ _ 0 _ _ _ HC.out
        have f0 := box_fr HC.out 0
        have hkc : (k : Int) < (n : Int) := by omega
        have hk8 : (8 : Int) ≤ (c' : Int) := by omega
        have hl8 : (8 : Int) ≤ ((s.length - 8 * k : Nat) : Int) := by omega
        have hB0r : Below w0.heap.size w0 wr := HB0.out.trans (HU.out.below hbg HB0.out.size)
        have hat := fun W : World => run_arrayAt ⟨b, off, none⟩ c' W
        have hd8 : ((s.drop (8 * k)).take 8).length = 8 := by rw [List.length_take, List.length_drop]; omega
        have HSN : Hid (chk (k + 1) s = chk k s ++ [(s.drop (8 * k)).take 8]) := hid (chk_snoc k s)
        have hsc : Sc wr b off ((s.drop (8 * k)).take 8) := fun j u hu => by
          unfold cSec at hu
          rw [List.getElem?_map] at hu
          obtain ⟨x, hx, rfl⟩ := Option.map_eq_some_iff.1 hu
          rw [List.getElem?_take] at hx
          split at hx
          · exact (hB0r.cell (p := ⟨b, off + j, none⟩) hbl).trans (hcell j x hx)
          · cases hx
        obtain ⟨x0, x1, x2, x3, x4, x5, x6, x7, hxs⟩ := list8 hd8
        rw [hxs] at hsc HSN
        obtain ⟨p0, p1, p2, p3, p4, p5, p6, p7⟩ := hsc.facts
        obtain ⟨mm, hmm⟩ : ∃ mm, n - k = mm + 1 := ⟨n - k - 1, by omega⟩
        have hcl : ((chk k s).map cSec).flatten.length = 8 * k := by rw [flat_cells (chk_secs k s HB8.out (by omega)), chk_len]
        have HXk := HX.out
        rw [hmm] at HXk
        have z0 := laid_cell HXk hcl 0 (by omega)
        have z1 := laid_cell HXk hcl 1 (by omega)
        have z2 := laid_cell HXk hcl 2 (by omega)
        have z3 := laid_cell HXk hcl 3 (by omega)
        have z4 := laid_cell HXk hcl 4 (by omega)
        have z5 := laid_cell HXk hcl 5 (by omega)
        have z6 := laid_cell HXk hcl 6 (by omega)
        have z7 := laid_cell HXk hcl 7 (by omega)
        rw [Nat.add_zero] at z0
        have fz := fun j => box_fr HXk j
        have HST := hid (laid_store HXk hcl x0 x1 x2 x3 x4 x5 x6 x7)
        have HMM := hid hmm
        clear HXk hcl hsc hxs hd8 hcell hmm hB0r
        obtain ⟨W8, hW8⟩ : ∃ W8, st8 wr w.heap.size (k * 8) x0 x1 x2 x3 x4 x5 x6 x7 = W8 := ⟨_, rfl⟩
        have hch : ((((((((wr.setCell ⟨w.heap.size, k * 8, none⟩ (.int .u8 (x0 : Int))).setCell ⟨w.heap.size, k * 8 + 1, none⟩ (.int .u8 (x1 : Int))).setCell ⟨w.heap.size, k * 8 + 2, none⟩ (.int .u8 (x2 : Int))).setCell ⟨w.heap.size, k * 8 + 3, none⟩ (.int .u8 (x3 : Int))).setCell ⟨w.heap.size, k * 8 + 4, none⟩ (.int .u8 (x4 : Int))).setCell ⟨w.heap.size, k * 8 + 5, none⟩ (.int .u8 (x5 : Int))).setCell ⟨w.heap.size, k * 8 + 6, none⟩ (.int .u8 (x6 : Int))).setCell ⟨w.heap.size, k * 8 + 7, none⟩ (.int .u8 (x7 : Int))) = W8 := hW8
        have HX8 := hid (show W8.heap[w.heap.size]? = some (.cells (laid (chk (k + 1) s) mm).toArray 41) from by rw [← hW8, HSN.out]; exact HST.out)
        have HC8 := hid (show W8.heap[g]? = some (.cells #[.slice (some ⟨b, off, none⟩) (s.length - 8 * k) c', m, lv] 64) from by rw [← hW8, st8_other (by omega)]; exact HC.out)
        have HU8 := hid (show Upd g w W8 from by rw [← hW8]; exact st8_upd HU.out (Nat.le_refl _))
        have hz8 : w.heap.size < W8.heap.size := box_lt HX8.out
        have c8 : W8.cell? ⟨g, 0, none⟩ = some (.slice (some ⟨b, off, none⟩) (s.length - 8 * k) c') := cell_of_row _ _ 0 _ _ _ HC8.out
        have f8 := box_fr HC8.out 0
        have hvn : Byt w0 (.slice (fromA (some ⟨b, off, none⟩) c' 8) (s.length - 8 * (k + 1)) (c' - 8)) (s.drop (8 * (k + 1))) := by
          have h := byt_from (x := s.drop (8 * k)) (by rw [List.length_drop]; exact HV.out) (k := 8) (by rw [List.length_drop]; omega)
          rw [List.length_drop, List.drop_drop] at h
          rw [show s.length - 8 * (k + 1) = s.length - 8 * k - 8 by omega, show 8 * (k + 1) = 8 * k + 8 by omega]
          exact h
        have HVN := hid hvn
        have hsl : s.length - 8 * (k + 1) = s.length - 8 * k - 8 := by omega
        have HSL := hid hsl
        clear hW8 HST HSN hvn hsl HC HX HU HV HN
        rw [fa8] at HVN
        go_wp2
        go_roundw
        case rel =>
          refine ⟨k + 1, _, c' - 8, by omega, by go_num, HVN, hid (nilOk_if _ _ _ _), hid ?_, hid (HU8.out.set 0 _), by simp; omega, hid ?_⟩
          · rw [HSL.out]; exact box3_s0 HC8.out _
          · rw [show n - (k + 1) = mm by have := HMM.out; omega]; exact (Below.heap_setCell W8 ⟨g, 0, none⟩ _ _ (show w.heap.size ≠ g by omega)).trans HX8.out
        case measure => simp [Lib.intOf]; omega
      · obtain rfl : k = n := by omega
        have hown : wr.ownsRow w.heap.size 41 8 (.slice (some ⟨w.heap.size, 0, none⟩) k k) k ((chk k s).map cSec).flatten := by
          have hx := HX.out
          rw [Nat.sub_self] at hx
          have hl0 : laid (chk k s) 0 = ((chk k s).map cSec).flatten := by unfold laid; simp
          rw [hl0] at hx
          have hfl : ((chk k s).map cSec).flatten.length = k * 8 := by rw [flat_cells (chk_secs k s HB8.out (by omega)), chk_len]; omega
          exact ⟨hfl, .inr ⟨w.heap.size, k, _, rfl, Nat.le_refl _, hx, Nat.le_refl _, by unfold maxLen; omega, by simpa using hfl, (show List.take (k * 8) ((chk k s).map cSec).flatten = _ from List.take_of_length_le (Nat.le_of_eq hfl))⟩⟩
        have HOW := hid hown
        clear hown
        go_wp2
        go_ret
        exact ⟨HU.out, .inl ⟨by omega, _, rfl, HOW.out, _, HC.out, (by have h := HV.out; exact h), HN.out⟩⟩
end Go.Proofs.Ytielamoaghibgaa
