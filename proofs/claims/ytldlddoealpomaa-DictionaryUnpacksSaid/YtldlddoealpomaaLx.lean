/- runlength's number, sectors, repeat carried over. -/
import Derived.Test.YtldlddoealpomaaGf
import Derived.Laws.MakeOwn
import Derived.WalkLawsBesides
import Derived.Maps.AppendAt
namespace Go.Proofs.Ytldlddoealpomaa.Rl
open Go.RowKit Go.Lib

theorem rd_take (f : Nat) : ∀ (i n : Nat) (s : List Nat), rd f i n (s.take f) = rd f i n s := by
  induction f with
  | zero => intro i n s; rfl
  | succ f ih =>
    intro i n s
    rcases s with _ | ⟨b, t⟩
    · rfl
    · rw [List.take_succ_cons, rd_cons, rd_cons, ih]
theorem dNum_take {s : List Nat} (h8 : B8 s) : dNum s = match dNum (s.take 8) with | .error e => .error e | .ok (x, t) => .ok (x, s.drop ((s.take 8).length - t.length)) := by
  rcases hr : rd 8 0 0 s with ⟨v, k, er⟩
  have hr' : rd 8 0 0 (s.take 8) = (v, k, er) := by rw [rd_take, hr]
  by_cases he : er = 0
  · subst he
    have hk := (rd_len (fun x hx => h8 x (List.mem_of_mem_take hx)) hr').1
    rw [dNum_ok hr, dNum_ok hr']
    simp only
    rw [List.length_drop, show (s.take 8).length - ((s.take 8).length - k) = k by omega]
  · rw [dNum_err hr he, dNum_err hr' he]
theorem byt_upto {w : World} {A : Option Addr} {n c : Nat} {l : List Nat} (h : Byt w (.slice A n c) l) (k : Nat) : Byt w (.slice A (l.take k).length c) (l.take k) := by
  obtain ⟨h8, A', cap, e, h1, h2, b, off, hA, hc⟩ := h
  injection e with e1 e2 e3
  subst e1 e3
  refine ⟨fun x hx => h8 x (List.mem_of_mem_take hx), A, c, rfl, by rw [List.length_take]; omega, h2, b, off, fun h => hA (by rw [List.length_take] at h; omega), fun i x hx => ?_⟩
  rw [List.getElem?_take] at hx
  split at hx
  · exact hc i x hx
  · cases hx
theorem below_both_drewN {B : Nat} {w0 w : World} (h : Below B w0 w) (n : Nat) : Below B w0 (w.drewN n) := ⟨h.os, h.tape, h.output, h.size, h.block⟩
/-- What the state of a reader is: the rest, the bound, the list. -/
def Rdr (w0 w : World) (g : Nat) (s : List Nat) (m lv : Value) : Prop := ∃ v, w.heap[g]? = some (.cells #[v, m, lv] 94) ∧ Byt w0 v s ∧ NilOk v
theorem Rdr.lt {w0 w : World} {g : Nat} {s : List Nat} {m lv : Value} (h : Rdr w0 w g s m lv) : g < w.heap.size := by
  obtain ⟨v, hb, _⟩ := h
  exact box_lt hb
theorem box3_s0 {w : World} {g : Nat} {a b c : Value} {t : TypeId} (h : w.heap[g]? = some (.cells #[a, b, c] t)) (v : Value) : (w.setCell ⟨g, 0, none⟩ v).heap[g]? = some (.cells #[v, b, c] t) := by
  show (w.heap.modify g _)[g]? = _
  obtain ⟨hlt, hk⟩ := Array.getElem?_eq_some_iff.1 h
  rw [Array.getElem?_eq_getElem (by rw [Array.size_modify]; exact hlt), Array.getElem_modify_self, hk]
  rfl
theorem box3_s2 {w : World} {g : Nat} {a b c : Value} {t : TypeId} (h : w.heap[g]? = some (.cells #[a, b, c] t)) (v : Value) : (w.setCell ⟨g, 2, none⟩ v).heap[g]? = some (.cells #[a, b, v] t) := by
  show (w.heap.modify g _)[g]? = _
  obtain ⟨hlt, hk⟩ := Array.getElem?_eq_some_iff.1 h
  rw [Array.getElem?_eq_getElem (by rw [Array.size_modify]; exact hlt), Array.getElem_modify_self, hk]
  rfl
/-- The panic with an error's number. -/
def Pan (er : Int) (e : Ending) : Prop := e = .panicked [{ v := .iface 27 (.int .i64 er), recovered := false }]
/-- What reading a number in the box g answers. -/
def NumQ (w0 w : World) (g : Nat) (s : List Nat) (m lv : Value) (e : Ending) (w' : World) : Prop :=
  Upd g w w' ∧ ((∃ x t, dNum s = .ok (x, t) ∧ e = .returned (.int .i64 (x : Int)) ∧ Rdr w0 w' g t m lv) ∨ ∃ er, dNum s = .error er ∧ Pan er e)

set_option maxHeartbeats 2000000 in
set_option maxRecDepth 100000 in
theorem number_any (s : List Nat) (g : Nat) (m lv : Value) (w0 w : World) (hb0 : Below w0.heap.size w0 w) (hr : Rdr w0 w g s m lv) (hl : s.length ≤ 90000) :
    Calls Try.prog 67 #[.pointer (some ⟨g, 0, none⟩)] w (NumQ w0 w g s m lv) := by
  obtain ⟨v, hb, hv, hn⟩ := hr
  obtain ⟨A, c, rfl⟩ := byt_form hv
  have c0 : w.cell? ⟨g, 0, none⟩ = some (.slice A s.length c) := cell_of_row _ _ 0 _ _ _ hb
  have HB := hid hb
  have HV := hid hv
  have HN := hid hn
  have hcp := byt_cap hv
  have HB0 := hid hb0
  clear hb hv hn hb0
  go_enter Try.func67, Try.ntmps67
  go_wp2_with fail
  go_quiet (fail)
  have hmm : (min (s.length : Int) 8).toNat = (s.take 8).length := by rw [List.length_take]; omega
  have HB1 := hid (show Below w.heap.size w (w.drewN nq) from ⟨rfl, rfl, rfl, Nat.le_refl _, fun _ _ => rfl⟩)
  have hvt : Byt (w.drewN nq) (.slice A (s.take 8).length c) (s.take 8) := (byt_upto HV.out 8).below (below_both_drewN HB0.out nq)
  rw [hmm]
  have hlt : (s.take 8).length ≤ s.length := by rw [List.length_take]; omega
  have HLT := hid hlt
  have HI := hid (int_any (s.take 8) _ (w.drewN nq) hvt (fun n c' e => by injection e with e1 _ e3; exact e3 ▸ HN.out _ _ (by rw [e1])) (by omega))
  have HD := hid (dNum_take HV.out.1)
  have hkl : ∀ x t, dNum (s.take 8) = .ok (x, t) → (s.take 8).length - t.length ≤ s.length := fun _ _ _ => by omega
  obtain ⟨u, hu⟩ : ∃ u, s.take 8 = u := ⟨_, rfl⟩
  rw [hu] at HI HD HLT ⊢
  have HU := hid hu
  clear hmm hvt hlt hkl hu
  go_wp2_with fail
  refine HI.out.mono ?_
  rintro e w1 ⟨v1, r1, er, rfl, hb1, h1⟩
  have HB2 := hid hb1
  have HC2 := hid ((hb1.block g (show g < (w.drewN nq).heap.size from box_lt HB.out)).trans (show (w.drewN nq).heap[g]? = _ from HB.out))
  rcases h1 with ⟨x, t, hd, rfl, hvx, hrt⟩ | ⟨hd, hne, rfl, rfl⟩
  · obtain rfl : v1 = .int .i64 (x : Int) := hvx
    obtain ⟨a1, c1, rfl⟩ := byt_form (vbyt_byt hrt)
    have c2 : w1.cell? ⟨g, 0, none⟩ = some (.slice A s.length c) := cell_of_row _ _ 0 _ _ _ HC2.out
    have f2 := box_fr HC2.out 0
    have hd' := HD.out
    rw [hd] at hd'
    have HD2 := hid hd'
    have htl : t.length ≤ u.length := dNum_shr hd
    have hul := HLT.out
    have hk1 : (0 : Int) ≤ (u.length : Int) - (t.length : Int) := by omega
    have hk2 : (u.length : Int) - (t.length : Int) ≤ (s.length : Int) := by omega
    clear hd hd' hb1 hrt
    by_cases hck : c = u.length - t.length
    · have hbf := byt_from HV.out (k := u.length - t.length) (by omega)
      rw [show fromA A c (u.length - t.length) = A from if_pos hck, hck, Nat.sub_self] at hbf
      have hs0 : s.length - (u.length - t.length) = 0 := by omega
      rw [hs0] at hbf
      have HBF := hid hbf
      have HNN : Hid (NilOk (.slice A 0 0)) := hid (fun n c' e => by injection e with e1 _ e3; exact e3.symm)
      subst hck
      have HXX := hid HC2.out
      clear hbf
      go_wp2
      go_ret
      exact ⟨((Upd.refl g w).of_below (below_both HB1.out HB2.out)).set 0 _, .inl ⟨x, _, HD2.out, rfl, _, box3_s0 HC2.out _, HBF.out, HNN.out⟩⟩
    · have hbf := byt_from HV.out (k := u.length - t.length) (by omega)
      rw [show fromA A c (u.length - t.length) = A.map (fun x => x.add (u.length - t.length)) from if_neg hck] at hbf
      have HBF := hid hbf
      have HNN : Hid (NilOk (.slice (A.map (fun x => x.add (u.length - t.length))) (s.length - (u.length - t.length)) (c - (u.length - t.length)))) := hid (fun n c' e => by
        injection e with e1 _ e3
        have hA0 : A = none := by simpa using e1
        have := HN.out _ _ (by rw [hA0])
        omega)
      clear hbf
      go_wp2
      go_ret
      exact ⟨((Upd.refl g w).of_below (below_both HB1.out HB2.out)).set 0 _, .inl ⟨x, _, HD2.out, rfl, _, box3_s0 HC2.out _, HBF.out, HNN.out⟩⟩
  · have d1 : (er == 0) = false := by simpa using hne
    have d2 : (er != 0) = true := by simpa using hne
    have hd' := HD.out
    rw [hd] at hd'
    have HD2 := hid hd'
    clear hd hd' hne hb1
    go_wp2
    exact ⟨rfl, (Upd.refl g w).of_below (below_both HB1.out HB2.out), .inr ⟨er, HD2.out, rfl⟩⟩

/-- A row of the call's own: what the first k of n sectors are. -/
def Lst (w : World) (base : Nat) (lv : Value) (l : List Sect) : Prop := w.ownsRow base 44 8 lv l.length (l.map cSec).flatten
end Go.Proofs.Ytldlddoealpomaa.Rl

namespace Go.Proofs.Ytldlddoealpomaa.Rl
open Go.RowKit Go.Lib

theorem set_mid {α : Type} (p r : List α) (z x : α) : (p ++ z :: r).set p.length x = p ++ x :: r := by simp
theorem set8 {α : Type} (p r : List α) (z0 z1 z2 z3 z4 z5 z6 z7 x0 x1 x2 x3 x4 x5 x6 x7 : α) (n : Nat) (hn : n = p.length) :
    ((((((((p ++ z0 :: z1 :: z2 :: z3 :: z4 :: z5 :: z6 :: z7 :: r).set n x0).set (n + 1) x1).set (n + 2) x2).set (n + 3) x3).set (n + 4) x4).set (n + 5) x5).set (n + 6) x6).set (n + 7) x7 = p ++ x0 :: x1 :: x2 :: x3 :: x4 :: x5 :: x6 :: x7 :: r := by
  subst hn
  simp
theorem box_set {w : World} {g : Nat} {cs : List Value} {t : TypeId} (h : w.heap[g]? = some (.cells cs.toArray t)) (i : Nat) (v : Value) : (w.setCell ⟨g, i, none⟩ v).heap[g]? = some (.cells (cs.set i v).toArray t) := by
  show (w.heap.modify g _)[g]? = _
  obtain ⟨hlt, hk⟩ := Array.getElem?_eq_some_iff.1 h
  rw [Array.getElem?_eq_getElem (by rw [Array.size_modify]; exact hlt), Array.getElem_modify_self, hk]
  simp
def zv : Value := .int .u8 0
def zv8 : List Value := [.int .u8 0, .int .u8 0, .int .u8 0, .int .u8 0, .int .u8 0, .int .u8 0, .int .u8 0, .int .u8 0]
/-- n sectors, of which the first have been laid. -/
def laid (l : List Sect) (m : Nat) : List Value := (l.map cSec).flatten ++ (List.replicate m zv8).flatten
theorem chk_snoc (k : Nat) : ∀ s : List Nat, chk (k + 1) s = chk k s ++ [(s.drop (8 * k)).take 8] := by
  induction k with
  | zero => intro s; rfl
  | succ k ih =>
    intro s
    rw [chk, ih, chk, List.cons_append]
    rw [List.drop_drop, show 8 + 8 * k = 8 * (k + 1) by omega]
theorem chk_secs : ∀ (n : Nat) (s : List Nat), B8 s → 8 * n ≤ s.length → Secs (chk n s) := by
  intro n
  induction n with
  | zero => intro s _ _ x hx; cases hx
  | succ n ih =>
    intro s h8 hl x hx
    rw [chk] at hx
    rcases List.mem_cons.1 hx with rfl | hx
    · exact ⟨by rw [List.length_take]; omega, fun y hy => h8 y (List.mem_of_mem_take hy)⟩
    · exact ih (s.drop 8) (fun y hy => h8 y (List.mem_of_mem_drop hy)) (by rw [List.length_drop]; omega) x hx
theorem flat_cells {l : List Sect} (h : Secs l) : (l.map cSec).flatten.length = 8 * l.length := by
  induction l with
  | nil => rfl
  | cons a l ih =>
    rw [List.map_cons, List.flatten_cons, List.length_append, ih (fun s hs => h s (List.mem_cons_of_mem _ hs)), List.length_cons]
    have := (h a (List.mem_cons_self ..)).1
    unfold cSec
    rw [List.length_map]
    omega
set_option maxRecDepth 100000 in
theorem made_secs (n : Nat) : madeCells (Value.agg #[.int .u8 0, .int .u8 0, .int .u8 0, .int .u8 0, .int .u8 0, .int .u8 0, .int .u8 0, .int .u8 0]).cells (n * 8) = (laid [] n).toArray := by
  have hz : ∀ i : Nat, (#[.int .u8 0, .int .u8 0, .int .u8 0, .int .u8 0, .int .u8 0, .int .u8 0, .int .u8 0, .int .u8 0] : Array Value)[i % 8]! = .int .u8 0 := fun i => by
    have h : i % 8 = 0 ∨ i % 8 = 1 ∨ i % 8 = 2 ∨ i % 8 = 3 ∨ i % 8 = 4 ∨ i % 8 = 5 ∨ i % 8 = 6 ∨ i % 8 = 7 := by omega
    rcases h with h | h | h | h | h | h | h | h <;> rw [h] <;> rfl
  have hf : ∀ n : Nat, (List.replicate n zv8).flatten = List.replicate (n * 8) (.int .u8 0) := fun n => by
    induction n with
    | zero => rfl
    | succ n ih =>
      rw [List.replicate_succ, List.flatten_cons, ih, show (n + 1) * 8 = 8 + n * 8 by omega, ← List.replicate_append_replicate]
      rfl
  apply Array.ext'
  unfold madeCells
  rw [Array.toList_map, Array.toList_range]
  unfold laid
  rw [hf]
  apply List.ext_getElem?
  intro i
  rw [List.getElem?_map]
  simp only [List.map_nil, List.flatten_nil, List.nil_append]
  rcases Nat.lt_or_ge i (n * 8) with h | h
  · rw [List.getElem?_range h, List.getElem?_replicate, if_pos h]
    exact congrArg some (hz i)
  · rw [List.getElem?_eq_none (by rw [List.length_range]; exact h), List.getElem?_eq_none (by rw [List.length_replicate]; exact h)]
    rfl
theorem byt_cap' {w : World} {A : Option Addr} {n c : Nat} {l : List Nat} (h : Byt w (.slice A n c) l) : n ≤ c := by
  obtain ⟨_, A', c', e, h1, _⟩ := h
  injection e with _ e2 e3
  omega
theorem byt_at {w : World} {A : Option Addr} {n c : Nat} {l : List Nat} (h : Byt w (.slice A n c) l) (hp : 0 < l.length) : ∃ b off, A = some ⟨b, off, none⟩ ∧ b < w.heap.size ∧ ∀ (i x : Nat), l[i]? = some x → w.cell? ⟨b, off + i, none⟩ = some (.int .u8 (x : Int)) := by
  obtain ⟨_, A', c', e, _, _, b, off, hA, hc⟩ := h
  injection e with e1
  subst e1
  exact ⟨b, off, (hA hp).1, (hA hp).2, hc⟩
set_option maxRecDepth 100000 in
theorem run_arrayAt (p : Addr) (c : Nat) (W : World) : (Instr.arrayAt 44 (.slice (some p) 8 c)).run Try.prog W = .ok (.pointer (some p)) W := by
  have hu := Try.underlying44
  simp [Instr.arrayAt, run_underlying hu, Sem.run_bind]
theorem laid_succ (l : List Sect) (m : Nat) : laid l (m + 1) = (l.map cSec).flatten ++ zv :: zv :: zv :: zv :: zv :: zv :: zv :: zv :: (List.replicate m zv8).flatten := by
  unfold laid
  rw [List.replicate_succ]
  rfl
theorem laid_snoc (l : List Sect) (m : Nat) (x0 x1 x2 x3 x4 x5 x6 x7 : Nat) : laid (l ++ [[x0, x1, x2, x3, x4, x5, x6, x7]]) m = (l.map cSec).flatten ++ byteV x0 :: byteV x1 :: byteV x2 :: byteV x3 :: byteV x4 :: byteV x5 :: byteV x6 :: byteV x7 :: (List.replicate m zv8).flatten := by
  unfold laid
  simp [cSec]
theorem laid_cell {w : World} {g : Nat} {l : List Sect} {m k : Nat} (h : w.heap[g]? = some (.cells (laid l (m + 1)).toArray 44)) (hl : (l.map cSec).flatten.length = 8 * k) (j : Nat) (hj : j < 8) : w.cell? ⟨g, k * 8 + j, none⟩ = some (.int .u8 0) := by
  rw [cell_of_row _ _ _ _ _ _ h, laid_succ]
  have e : k * 8 + j = (l.map cSec).flatten.length + j := by omega
  rw [e]
  simp only [List.getElem?_toArray]
  rw [List.getElem?_append_right (by omega)]
  rw [show (l.map cSec).flatten.length + j - (l.map cSec).flatten.length = j by omega]
  rcases j with _ | _ | _ | _ | _ | _ | _ | _ | j
  all_goals first | rfl | omega
theorem laid_store {w : World} {g : Nat} {l : List Sect} {m k : Nat} (h : w.heap[g]? = some (.cells (laid l (m + 1)).toArray 44)) (hl : (l.map cSec).flatten.length = 8 * k) (x0 x1 x2 x3 x4 x5 x6 x7 : Nat) :
    ((((((((w.setCell ⟨g, k * 8, none⟩ (byteV x0)).setCell ⟨g, k * 8 + 1, none⟩ (byteV x1)).setCell ⟨g, k * 8 + 2, none⟩ (byteV x2)).setCell ⟨g, k * 8 + 3, none⟩ (byteV x3)).setCell ⟨g, k * 8 + 4, none⟩ (byteV x4)).setCell ⟨g, k * 8 + 5, none⟩ (byteV x5)).setCell ⟨g, k * 8 + 6, none⟩ (byteV x6)).setCell ⟨g, k * 8 + 7, none⟩ (byteV x7)).heap[g]? = some (.cells (laid (l ++ [[x0, x1, x2, x3, x4, x5, x6, x7]]) m).toArray 44) := by
  rw [laid_succ] at h
  rw [laid_snoc, box_set (box_set (box_set (box_set (box_set (box_set (box_set (box_set h _ _) _ _) _ _) _ _) _ _) _ _) _ _) _ _, set8 _ _ _ _ _ _ _ _ _ _ _ _ _ _ _ _ _ _ _ (by omega)]
theorem _root_.Go.Proofs.Ytldlddoealpomaa.Upd.new {g : Nat} {a b : World} (h : Upd g a b) {c i : Nat} (hc : a.heap.size ≤ c) (u : Value) : Upd g a (b.setCell ⟨c, i, none⟩ u) :=
  ⟨h.low.setCell (Nat.zero_le _) u, fun k hk hg => (Below.heap_setCell _ _ _ _ (show k ≠ c by omega)).trans (h.block k hk hg)⟩
def st8 (w : World) (g o x0 x1 x2 x3 x4 x5 x6 x7 : Nat) : World := ((((((((w.setCell ⟨g, o, none⟩ (byteV x0)).setCell ⟨g, o + 1, none⟩ (byteV x1)).setCell ⟨g, o + 2, none⟩ (byteV x2)).setCell ⟨g, o + 3, none⟩ (byteV x3)).setCell ⟨g, o + 4, none⟩ (byteV x4)).setCell ⟨g, o + 5, none⟩ (byteV x5)).setCell ⟨g, o + 6, none⟩ (byteV x6)).setCell ⟨g, o + 7, none⟩ (byteV x7))
theorem st8_upd {g c o x0 x1 x2 x3 x4 x5 x6 x7 : Nat} {a b : World} (h : Upd g a b) (hc : a.heap.size ≤ c) : Upd g a (st8 b c o x0 x1 x2 x3 x4 x5 x6 x7) :=
  (((((((h.new hc _).new hc _).new hc _).new hc _).new hc _).new hc _).new hc _).new hc _
theorem st8_other {w : World} {g k o x0 x1 x2 x3 x4 x5 x6 x7 : Nat} (hk : k ≠ g) : (st8 w g o x0 x1 x2 x3 x4 x5 x6 x7).heap[k]? = w.heap[k]? := by
  unfold st8
  rw [Below.heap_setCell _ _ _ _ hk, Below.heap_setCell _ _ _ _ hk, Below.heap_setCell _ _ _ _ hk, Below.heap_setCell _ _ _ _ hk, Below.heap_setCell _ _ _ _ hk, Below.heap_setCell _ _ _ _ hk, Below.heap_setCell _ _ _ _ hk, Below.heap_setCell _ _ _ _ hk]
theorem fa8 (b off c : Nat) : fromA (some ⟨b, off, none⟩) c 8 = if c = 8 then some ⟨b, off, none⟩ else some ⟨b, off + 8, none⟩ := by
  unfold fromA
  split <;> rfl
theorem nilOk_if {p : Prop} [Decidable p] (a b : Addr) (n c : Nat) : NilOk (.slice (if p then some a else some b) n c) := by
  split <;> exact nilOk_some _ _ _
/-- What reading n sectors in the box g answers. -/
def SecQ (w0 w : World) (g n : Nat) (s : List Nat) (m lv : Value) (e : Ending) (w' : World) : Prop :=
  Upd g w w' ∧ ((8 * n ≤ s.length ∧ ∃ v, e = .returned v ∧ w'.ownsRow w.heap.size 44 8 v n ((chk n s).map cSec).flatten ∧ Rdr w0 w' g (s.drop (8 * n)) m lv) ∨ (s.length < 8 * n ∧ Pan 10 e))

set_option maxHeartbeats 2000000 in
set_option maxRecDepth 100000 in
theorem sectors_any (s : List Nat) (g n : Nat) (m lv : Value) (w0 w : World) (hb0 : Below w0.heap.size w0 w) (hr : Rdr w0 w g s m lv) (hn : n ≤ 4096) (hbg : w0.heap.size ≤ g) :
    Calls Try.prog 68 #[.pointer (some ⟨g, 0, none⟩), .int .i64 (n : Int)] w (SecQ w0 w g n s m lv) := by
  obtain ⟨v, hb, hv, hnn⟩ := hr
  obtain ⟨A, c, rfl⟩ := byt_form hv
  have c0 : w.cell? ⟨g, 0, none⟩ = some (.slice A s.length c) := cell_of_row _ _ 0 _ _ _ hb
  have HB := hid hb
  have HV := hid hv
  have HN := hid hnn
  have hcp := byt_cap hv
  have HB0 := hid hb0
  have HB8 := hid hv.1
  clear hb hv hnn hb0
  by_cases ht : s.length < 8 * n
  · have hd : decide ((s.length : Int) < (n : Int) * 8) = true := by simp; omega
    go_enter Try.func68, Try.ntmps68
    go_wp2
    exact ⟨rfl, Upd.refl g w, .inr ⟨ht, rfl⟩⟩
  · have hd : decide ((s.length : Int) < (n : Int) * 8) = false := by simp; omega
    have hmk : ∀ W : World, (Instr.makeSlice 33 (.int .i64 (n : Int)) (.int .i64 (n : Int))).run Try.prog W = .ok (.slice (some ⟨W.heap.size, 0, none⟩) n n) (W.alloc (.cells (laid [] n).toArray 44)) := fun W => by
      obtain ⟨i0, hi, hz0, hz1, hz2⟩ := info_parts info41
      have h := run_make (P := Try.prog) W 33 44 i0 _ Try.underlying33 hi hz0 .i64 .i64 (n : Int) (n : Int) (by omega) (by omega) (by rw [hz2]; omega) (by omega)
      rw [hz1, Int.toNat_natCast, made_secs] at h
      exact h
    obtain ⟨W1, hW1⟩ : ∃ W1, w.alloc (.cells (laid [] n).toArray 44) = W1 := ⟨_, rfl⟩
    have hmk1 := hmk w
    rw [hW1] at hmk1
    have hx1 : W1.heap[w.heap.size]? = some (.cells (laid [] n).toArray 44) := by rw [← hW1]; exact heap_alloc_new w _
    have hb1 : Below w.heap.size w W1 := by rw [← hW1]; exact al1 _ _
    have hz1 : W1.heap.size = w.heap.size + 1 := by rw [← hW1]; simp
    have HX1 := hid hx1
    have hgl := box_lt HB.out
    have HC1 := hid ((hb1.block g hgl).trans HB.out)
    have HU1 := hid ((Upd.refl g w).of_below hb1)
    have HV1 : Hid (Byt w0 (.slice A s.length c) (s.drop (8 * 0))) := hid HV.out
    have hlw : w.heap.size < W1.heap.size := by omega
    clear hmk hW1 hx1 hb1 hz1 HB HV hcp
    go_enter Try.func68, Try.ntmps68
    go_wp2_with fail
    go_loopw [20] (fun i wr => ∃ (k : Nat) (A' : Option Addr) (c' : Nat), k ≤ n ∧ i = .int .i64 (k : Int) ∧ Hid (Byt w0 (.slice A' (s.length - 8 * k) c') (s.drop (8 * k))) ∧ Hid (NilOk (.slice A' (s.length - 8 * k) c')) ∧ Hid (wr.heap[g]? = some (.cells #[.slice A' (s.length - 8 * k) c', m, lv] 94)) ∧ Hid (Upd g w wr) ∧ w.heap.size < wr.heap.size ∧ Hid (wr.heap[w.heap.size]? = some (.cells (laid (chk k s) (n - k)).toArray 44))) (fun i _ => n - (Lib.intOf i).toNat)
    case atStart => exact ⟨0, A, c, Nat.zero_le _, rfl, HV1, HN, HC1, HU1, hlw, HX1⟩
    case round =>
      clear HV1 HN HC1 HU1 HX1 hlw c0 hmk1
      obtain ⟨k, A', c', hk, rfl, HV, HN, HC, HU, hlw, HX⟩ := hrel
      by_cases hkn : k < n
      · have hcp := byt_cap' HV.out
        have hpos : 0 < s.length - 8 * k := by omega
        obtain ⟨b, off, rfl, hbl, hcell⟩ := byt_at HV.out (by rw [List.length_drop]; exact hpos)
        have c0 : wr.cell? ⟨g, 0, none⟩ = some (.slice (some ⟨b, off, none⟩) (s.length - 8 * k) c') := cell_of_row _ _ 0 _ _ _ HC.out
        have f0 := box_fr HC.out 0
        have hkc : (k : Int) < (n : Int) := by omega
        have hk8 : (8 : Int) ≤ (c' : Int) := by omega
        have hl8 : (8 : Int) ≤ ((s.length - 8 * k : Nat) : Int) := by omega
        have hB0r : Below w0.heap.size w0 wr := HB0.out.trans (HU.out.below hbg HB0.out.size)
        have hat := fun W : World => run_arrayAt ⟨b, off, none⟩ c' W
        have hd8 : ((s.drop (8 * k)).take 8).length = 8 := by rw [List.length_take, List.length_drop]; omega
        have HSN : Hid (chk (k + 1) s = chk k s ++ [(s.drop (8 * k)).take 8]) := hid (chk_snoc k s)
        have hsc : Sc wr b off ((s.drop (8 * k)).take 8) := fun j u hu => by
          unfold cSec at hu
          rw [List.getElem?_map] at hu
          obtain ⟨x, hx, rfl⟩ := Option.map_eq_some_iff.1 hu
          rw [List.getElem?_take] at hx
          split at hx
          · exact (hB0r.cell (p := ⟨b, off + j, none⟩) hbl).trans (hcell j x hx)
          · cases hx
        obtain ⟨x0, x1, x2, x3, x4, x5, x6, x7, hxs⟩ := list8 hd8
        rw [hxs] at hsc HSN
        obtain ⟨p0, p1, p2, p3, p4, p5, p6, p7⟩ := hsc.facts
        obtain ⟨mm, hmm⟩ : ∃ mm, n - k = mm + 1 := ⟨n - k - 1, by omega⟩
        have hcl : ((chk k s).map cSec).flatten.length = 8 * k := by rw [flat_cells (chk_secs k s HB8.out (by omega)), chk_len]
        have HXk := HX.out
        rw [hmm] at HXk
        have z0 := laid_cell HXk hcl 0 (by omega)
        have z1 := laid_cell HXk hcl 1 (by omega)
        have z2 := laid_cell HXk hcl 2 (by omega)
        have z3 := laid_cell HXk hcl 3 (by omega)
        have z4 := laid_cell HXk hcl 4 (by omega)
        have z5 := laid_cell HXk hcl 5 (by omega)
        have z6 := laid_cell HXk hcl 6 (by omega)
        have z7 := laid_cell HXk hcl 7 (by omega)
        rw [Nat.add_zero] at z0
        have fz := fun j => box_fr HXk j
        have HST := hid (laid_store HXk hcl x0 x1 x2 x3 x4 x5 x6 x7)
        have HMM := hid hmm
        clear HXk hcl hsc hxs hd8 hcell hmm hB0r
        obtain ⟨W8, hW8⟩ : ∃ W8, st8 wr w.heap.size (k * 8) x0 x1 x2 x3 x4 x5 x6 x7 = W8 := ⟨_, rfl⟩
        have hch : ((((((((wr.setCell ⟨w.heap.size, k * 8, none⟩ (.int .u8 (x0 : Int))).setCell ⟨w.heap.size, k * 8 + 1, none⟩ (.int .u8 (x1 : Int))).setCell ⟨w.heap.size, k * 8 + 2, none⟩ (.int .u8 (x2 : Int))).setCell ⟨w.heap.size, k * 8 + 3, none⟩ (.int .u8 (x3 : Int))).setCell ⟨w.heap.size, k * 8 + 4, none⟩ (.int .u8 (x4 : Int))).setCell ⟨w.heap.size, k * 8 + 5, none⟩ (.int .u8 (x5 : Int))).setCell ⟨w.heap.size, k * 8 + 6, none⟩ (.int .u8 (x6 : Int))).setCell ⟨w.heap.size, k * 8 + 7, none⟩ (.int .u8 (x7 : Int))) = W8 := hW8
        have HX8 := hid (show W8.heap[w.heap.size]? = some (.cells (laid (chk (k + 1) s) mm).toArray 44) from by rw [← hW8, HSN.out]; exact HST.out)
        have HC8 := hid (show W8.heap[g]? = some (.cells #[.slice (some ⟨b, off, none⟩) (s.length - 8 * k) c', m, lv] 94) from by rw [← hW8, st8_other (by omega)]; exact HC.out)
        have HU8 := hid (show Upd g w W8 from by rw [← hW8]; exact st8_upd HU.out (Nat.le_refl _))
        have hz8 : w.heap.size < W8.heap.size := box_lt HX8.out
        have c8 : W8.cell? ⟨g, 0, none⟩ = some (.slice (some ⟨b, off, none⟩) (s.length - 8 * k) c') := cell_of_row _ _ 0 _ _ _ HC8.out
        have f8 := box_fr HC8.out 0
        have hvn : Byt w0 (.slice (fromA (some ⟨b, off, none⟩) c' 8) (s.length - 8 * (k + 1)) (c' - 8)) (s.drop (8 * (k + 1))) := by
          have h := byt_from (x := s.drop (8 * k)) (by rw [List.length_drop]; exact HV.out) (k := 8) (by rw [List.length_drop]; omega)
          rw [List.length_drop, List.drop_drop] at h
          rw [show s.length - 8 * (k + 1) = s.length - 8 * k - 8 by omega, show 8 * (k + 1) = 8 * k + 8 by omega]
          exact h
        have HVN := hid hvn
        have hsl : s.length - 8 * (k + 1) = s.length - 8 * k - 8 := by omega
        have HSL := hid hsl
        clear hW8 HST HSN hvn hsl HC HX HU HV HN
        rw [fa8] at HVN
        go_wp2
        go_roundw
        case rel =>
          refine ⟨k + 1, _, c' - 8, by omega, by go_num, HVN, hid (nilOk_if _ _ _ _), hid ?_, hid (HU8.out.set 0 _), by simp; omega, hid ?_⟩
          · rw [HSL.out]; exact box3_s0 HC8.out _
          · rw [show n - (k + 1) = mm by have := HMM.out; omega]; exact (Below.heap_setCell W8 ⟨g, 0, none⟩ _ _ (show w.heap.size ≠ g by omega)).trans HX8.out
        case measure => simp [Lib.intOf]; omega
      · obtain rfl : k = n := by omega
        have hown : wr.ownsRow w.heap.size 44 8 (.slice (some ⟨w.heap.size, 0, none⟩) k k) k ((chk k s).map cSec).flatten := by
          have hx := HX.out
          rw [Nat.sub_self] at hx
          have hl0 : laid (chk k s) 0 = ((chk k s).map cSec).flatten := by unfold laid; simp
          rw [hl0] at hx
          have hfl : ((chk k s).map cSec).flatten.length = k * 8 := by rw [flat_cells (chk_secs k s HB8.out (by omega)), chk_len]; omega
          exact ⟨hfl, .inr ⟨w.heap.size, k, _, rfl, Nat.le_refl _, hx, Nat.le_refl _, by unfold maxLen; omega, by simpa using hfl, (show List.take (k * 8) ((chk k s).map cSec).flatten = _ from List.take_of_length_le (Nat.le_of_eq hfl))⟩⟩
        have HOW := hid hown
        clear hown
        go_wp2
        go_ret
        exact ⟨HU.out, .inl ⟨by omega, _, rfl, HOW.out, _, HC.out, (by have h := HV.out; exact h), HN.out⟩⟩
end Go.Proofs.Ytldlddoealpomaa.Rl

namespace Go.Proofs.Ytldlddoealpomaa.Rl
open Go.RowKit Go.Lib

/-- The reader in box g: its rest, its bound, the list that it owns from base on. -/
def Rdl (w0 w : World) (g base : Nat) (s : List Nat) (m : Value) (l : List Sect) : Prop := ∃ lv, Rdr w0 w g s m lv ∧ w.ownsRow base 44 8 lv l.length (l.map cSec).flatten
theorem cells_one (l : List Sect) : ∀ u ∈ (l.map cSec).flatten, u.oneCell' = true := fun u hu => by
  obtain ⟨x, hx, hu⟩ := List.mem_flatten.1 hu
  obtain ⟨s, _, rfl⟩ := List.mem_map.1 hx
  exact byteV_one s u hu
theorem add_at' (b k : Nat) : (⟨b, 0, none⟩ : Addr).add k = ⟨b, k, none⟩ := by unfold Addr.add; split <;> simp_all
theorem keep_setc {W : World} {g i : Nat} {T E : TypeId} {cs : Array Value} {v : Value} (h : W.heap[g]? = some (.cells cs E)) (hT : T ≠ E) : Keep T W (W.setCell ⟨g, i, none⟩ v) := fun k cs' hk => by
  refine (Below.heap_setCell W ⟨g, i, none⟩ v k (fun e => ?_)).trans hk
  have e' : k = g := e
  subst e'
  rw [h] at hk
  cases hk
  exact hT rfl
theorem rep_snoc (l : List Sect) (k : Nat) (x : Sect) : ((l ++ List.replicate (k + 1) x).map cSec).flatten = ((l ++ List.replicate k x).map cSec).flatten ++ ([x].map cSec).flatten := by
  rw [List.replicate_succ', ← List.append_assoc, List.map_append, List.flatten_append]
theorem own_form41 {w : World} {base n : Nat} {v : Value} {xs : List Value} (h : w.ownsRow base 44 8 v n xs) : ∃ A cap, v = .slice A n cap := by
  rcases h.2 with ⟨rfl, rfl⟩ | ⟨g, cap, cur, rfl, _⟩
  · exact ⟨none, 0, rfl⟩
  · exact ⟨_, _, rfl⟩

theorem step_append_at {P : Program} {ops : Array Oper} {o : Oper} {a : Act} {w : World} {K : Act → World → Prop} {Q : Exit → Act → World → Prop} {E : Prop}
    (hg : o.guard = none) (s x : Operand) (t : TypeId) (hop : o.op = Op.call { callee := Callee.builtin Builtin.append, args := #[s, x], argTypes := #[t, t] })
    (base : Nat) (e : TypeId) (i : TypeInfo) (z : Value) (size bytes : Nat) (h1 : P.underlying t = some (.slice e)) (h2 : P.info? e = some i) (h3 : i.zero = some z) (h4 : i.size = size) (h5 : i.bytes = bytes) (h6 : z.cells.size = size) (h7 : 0 < size)
    (v : Value) (n : Nat) (olds : List Value) (hs : a.eval s = v) (hown : w.ownsRow base e size v n olds)
    (ad : Addr) (m c : Nat) (news : List Value) (hx : a.eval x = .slice (some ad) m c) (hn : news.length = m * size) (hc : ∀ j u, news[j]? = some u → w.cell? (ad.add j) = some u) (h1c : ∀ u ∈ news, u.oneCell' = true)
    (b1 : n + m ≤ maxLen) (b2 : (n + m) * bytes ≤ 140737488355328) (hbase : base ≤ w.heap.size)
    (hK : ∀ v' w', w'.ownsRow base e size v' (n + m) (olds ++ news) → w.grownBy w' v.ownBlock → (v'.ownBlock = v.ownBlock ∨ v'.ownBlock = some w.heap.size) → K (a.put o.dst v') w') :
    if Region.wanted o (yielded ops a.tmps) = true then Oper.wp P o a w K Q else E := by
  have hw : Region.wanted o (yielded ops a.tmps) = true := by simp [Region.wanted, hg]
  rw [if_pos hw]
  obtain ⟨v', w', hrun, r1, r2, _, r4⟩ := run_append_own_at (P := P) w base t o.type e i z size bytes h1 h2 h3 h4 h5 h6 h7 v n olds hown ad m c news hn hc h1c b1 b2 hbase
  unfold Oper.wp
  simp [execOp, hop, resolve, invoke, builtin, hs, hx, hrun, Result.andThen]
  exact hK v' w' r1 r2 r4
set_option maxRecDepth 100000 in
/-- An append of sectors to a row of sectors. -/
theorem step_append_secs {ops : Array Oper} {o : Oper} {a : Act} {w : World} {K : Act → World → Prop} {Q : Exit → Act → World → Prop} {E : Prop}
    (hg : o.guard = none) (s x : Operand) (hop : o.op = Op.call { callee := Callee.builtin Builtin.append, args := #[s, x], argTypes := #[33, 33] })
    (base : Nat) (v : Value) (n : Nat) (olds : List Value) (hs : a.eval s = v) (hown : w.ownsRow base 44 8 v n olds)
    (ad : Addr) (l : List Sect) (m c : Nat) (hm : l.length = m) (hl : Secs l) (hx : a.eval x = .slice (some ad) m c) (hc : ∀ j u, (l.map cSec).flatten[j]? = some u → w.cell? (ad.add j) = some u)
    (b1 : n + m ≤ 100000000) (hbase : base ≤ w.heap.size)
    (hK : ∀ v' w', w'.ownsRow base 44 8 v' (n + m) (olds ++ (l.map cSec).flatten) → w.grownBy w' v.ownBlock → (v'.ownBlock = v.ownBlock ∨ v'.ownBlock = some w.heap.size) → K (a.put o.dst v') w') :
    if Region.wanted o (yielded ops a.tmps) = true then Oper.wp Try.prog o a w K Q else E := by
  obtain ⟨i0, hi, hz0, hz1, hz2⟩ := info_parts info41
  exact step_append_at hg s x 33 hop base 44 i0 _ 8 8 Try.underlying33 hi hz0 hz1 hz2 rfl (by decide) v n olds hs hown ad m c _ hx (by rw [flat_cells hl]; omega) hc (cells_one l) (by unfold maxLen; omega) (by omega) hbase hK

set_option maxHeartbeats 2000000 in
set_option maxRecDepth 100000 in
theorem repeat_any (s : List Nat) (x : Sect) (n g base : Nat) (m : Value) (l : List Sect) (w0 w : World) (hb0 : Below w0.heap.size w0 w) (hr : Rdl w0 w g base s m l) (hx : x.length = 8) (hx8 : B8 x) (hn : n ≤ 4096) (hl : l.length ≤ 4096) (hbg : base ≤ g) :
    Calls Try.prog 69 #[.pointer (some ⟨g, 0, none⟩), .agg (cSec x).toArray, .int .i64 (n : Int)] w fun e w' => (∃ v, e = .returned v) ∧ Below base w w' ∧ Rdl w0 w' g base s m (l ++ List.replicate n x) := by
  have hs8 := hx8
  obtain ⟨x0, x1, x2, x3, x4, x5, x6, x7, rfl⟩ := list8 hx
  show Calls Try.prog 69 #[.pointer (some ⟨g, 0, none⟩), .agg #[.int .u8 (x0 : Int), .int .u8 (x1 : Int), .int .u8 (x2 : Int), .int .u8 (x3 : Int), .int .u8 (x4 : Int), .int .u8 (x5 : Int), .int .u8 (x6 : Int), .int .u8 (x7 : Int)], .int .i64 (n : Int)] w _
  obtain ⟨lv, hrd, hown⟩ := hr
  have HB0 := hid hb0
  have hgl := hrd.lt
  have HONE : Hid (Secs [[x0, x1, x2, x3, x4, x5, x6, x7]]) := hid (fun s hs => by rw [List.mem_singleton] at hs; subst hs; exact ⟨rfl, hs8⟩)
  have hHo : Hid (lv.ownBlock ≠ some w.heap.size) := hid (fun e => by have := (hown.lt _ e).2; omega)
  have HX0 := hid (heap_alloc_new w (.cells #[.int .u8 (x0 : Int), .int .u8 (x1 : Int), .int .u8 (x2 : Int), .int .u8 (x3 : Int), .int .u8 (x4 : Int), .int .u8 (x5 : Int), .int .u8 (x6 : Int), .int .u8 (x7 : Int)] 44))
  have hB1 : Below base w (w.alloc (.cells #[.int .u8 (x0 : Int), .int .u8 (x1 : Int), .int .u8 (x2 : Int), .int .u8 (x3 : Int), .int .u8 (x4 : Int), .int .u8 (x5 : Int), .int .u8 (x6 : Int), .int .u8 (x7 : Int)] 44)) := (Below.refl _ w).alloc (by omega) _
  have hb1 : Below w.heap.size w (w.alloc (.cells #[.int .u8 (x0 : Int), .int .u8 (x1 : Int), .int .u8 (x2 : Int), .int .u8 (x3 : Int), .int .u8 (x4 : Int), .int .u8 (x5 : Int), .int .u8 (x6 : Int), .int .u8 (x7 : Int)] 44)) := al1 _ _
  have HO0 := hid (own_keep hown (keep_below hb1))
  obtain ⟨v, hgb, hvb, hnb⟩ := hrd
  have HG0 := hid ((hb1.block g hgl).trans hgb)
  obtain ⟨W1, hW1⟩ : ∃ W1, w.alloc (.cells #[.int .u8 (x0 : Int), .int .u8 (x1 : Int), .int .u8 (x2 : Int), .int .u8 (x3 : Int), .int .u8 (x4 : Int), .int .u8 (x5 : Int), .int .u8 (x6 : Int), .int .u8 (x7 : Int)] 44) = W1 := ⟨_, rfl⟩
  have hz1 : W1.heap.size = w.heap.size + 1 := by rw [← hW1]; simp
  rw [hW1] at HX0 hB1 HO0 HG0
  have HB1 := hid hB1
  have HVB := hid hvb
  have HNB := hid hnb
  obtain ⟨L, hL⟩ : ∃ L, l.length = L := ⟨_, rfl⟩
  have HLL := hid hL
  rw [hL] at HO0 hl
  have HO1 : Hid (W1.ownsRow base 44 8 lv (L + 0) ((l ++ List.replicate 0 [x0, x1, x2, x3, x4, x5, x6, x7]).map cSec).flatten) := hid (by rw [List.replicate_zero, List.append_nil, Nat.add_zero]; exact HO0.out)
  have hzw : w.heap.size < W1.heap.size := by omega
  clear hgb hvb hnb hown hB1 hb1 hb0 hL HO0 hz1
  go_enter Try.func69, Try.ntmps69
  go_wp2_with fail
  go_loopw [7] (fun i wr => ∃ (k : Nat) (lv : Value), k ≤ n ∧ i = .int .i64 (k : Int) ∧ Hid (wr.heap[g]? = some (.cells #[v, m, lv] 94)) ∧ Hid (wr.ownsRow base 44 8 lv (L + k) ((l ++ List.replicate k [x0, x1, x2, x3, x4, x5, x6, x7]).map cSec).flatten) ∧ Hid (lv.ownBlock ≠ some w.heap.size) ∧ Hid (wr.heap[w.heap.size]? = some (.cells #[.int .u8 (x0 : Int), .int .u8 (x1 : Int), .int .u8 (x2 : Int), .int .u8 (x3 : Int), .int .u8 (x4 : Int), .int .u8 (x5 : Int), .int .u8 (x6 : Int), .int .u8 (x7 : Int)] 44)) ∧ Hid (Below base w wr) ∧ w.heap.size < wr.heap.size) (fun i _ => n - (Lib.intOf i).toNat)
  case atStart => exact ⟨0, lv, Nat.zero_le _, rfl, HG0, HO1, hHo, HX0, HB1, hzw⟩
  case round =>
    clear HG0 HO1 hHo HX0 HB1 hzw
    obtain ⟨k, lv, hk, rfl, HG, HO, HNE, HX, HB, hzw⟩ := hrel
    by_cases hkn : k < n
    · obtain ⟨lA, lc, rfl⟩ := own_form41 HO.out
      have hkc : (k : Int) < (n : Int) := by omega
      have hHeld : wr.drew.cell? ⟨g, 2, none⟩ = some (.slice lA (L + k) lc) ∧ wr.drew.cell? ⟨w.heap.size, 0, none⟩ = some (.int .u8 (x0 : Int)) ∧ wr.drew.cell? ⟨w.heap.size, 1, none⟩ = some (.int .u8 (x1 : Int)) ∧ wr.drew.cell? ⟨w.heap.size, 2, none⟩ = some (.int .u8 (x2 : Int)) ∧ wr.drew.cell? ⟨w.heap.size, 3, none⟩ = some (.int .u8 (x3 : Int)) ∧ wr.drew.cell? ⟨w.heap.size, 4, none⟩ = some (.int .u8 (x4 : Int)) ∧ wr.drew.cell? ⟨w.heap.size, 5, none⟩ = some (.int .u8 (x5 : Int)) ∧ wr.drew.cell? ⟨w.heap.size, 6, none⟩ = some (.int .u8 (x6 : Int)) ∧ wr.drew.cell? ⟨w.heap.size, 7, none⟩ = some (.int .u8 (x7 : Int)) := ⟨cell_of_row _ _ 2 _ _ _ HG.out, cell_of_row _ _ 0 _ _ _ HX.out, cell_of_row _ _ 1 _ _ _ HX.out, cell_of_row _ _ 2 _ _ _ HX.out, cell_of_row _ _ 3 _ _ _ HX.out, cell_of_row _ _ 4 _ _ _ HX.out, cell_of_row _ _ 5 _ _ _ HX.out, cell_of_row _ _ 6 _ _ _ HX.out, cell_of_row _ _ 7 _ _ _ HX.out⟩
      go_wp2_with fail
      refine region_tail 10 (fun X : World => X.cell? ⟨g, 2, none⟩ = some (.slice lA (L + k) lc) ∧ X.cell? ⟨w.heap.size, 0, none⟩ = some (.int .u8 (x0 : Int)) ∧ X.cell? ⟨w.heap.size, 1, none⟩ = some (.int .u8 (x1 : Int)) ∧ X.cell? ⟨w.heap.size, 2, none⟩ = some (.int .u8 (x2 : Int)) ∧ X.cell? ⟨w.heap.size, 3, none⟩ = some (.int .u8 (x3 : Int)) ∧ X.cell? ⟨w.heap.size, 4, none⟩ = some (.int .u8 (x4 : Int)) ∧ X.cell? ⟨w.heap.size, 5, none⟩ = some (.int .u8 (x5 : Int)) ∧ X.cell? ⟨w.heap.size, 6, none⟩ = some (.int .u8 (x6 : Int)) ∧ X.cell? ⟨w.heap.size, 7, none⟩ = some (.int .u8 (x7 : Int))) (by kernel_rfl) ?_
      refine' wpAnyT_take (i := 0) (oi := ?oi1) (v := ?v1) ?hi1 (by kernel_rfl) (by kernel_rfl) ?hq1 ?hy1 hHeld ?rest1
      case hi1 => (simp only [List.getElem?_toArray, List.getElem?_cons_zero]; rfl)
      case hq1 => exact fun _ _ _ h => h
      case hy1 => (refine Or.inl ⟨by rfl, ?_⟩; intro w' hSw; (try dsimp only at hSw); go_simp; try with_reducible rfl)
      (try simp only [Act.put, List.setIfInBounds_toArray, List.set_cons_zero, List.set_cons_succ])
      refine' wpAnyT_take (i := 1) (oi := ?oi2) (v := ?v2) ?hi2 (by kernel_rfl) (by kernel_rfl) ?hq2 ?hy2 hHeld ?rest2
      case hi2 => (simp only [List.getElem?_toArray, List.getElem?_cons_zero, List.getElem?_cons_succ]; rfl)
      case hq2 => exact fun _ _ _ h => h
      case hy2 => (refine Or.inl ⟨by rfl, ?_⟩; intro w' hSw; (try dsimp only at hSw); go_simp; try with_reducible rfl)
      (try simp only [Act.put, List.setIfInBounds_toArray, List.set_cons_zero, List.set_cons_succ])
      refine' wpAnyT_take (i := 2) (oi := ?oi3) (v := ?v3) ?hi3 (by kernel_rfl) (by kernel_rfl) ?hq3 ?hy3 hHeld ?rest3
      case hi3 => (simp only [List.getElem?_toArray, List.getElem?_cons_zero, List.getElem?_cons_succ]; rfl)
      case hq3 => exact fun _ _ _ h => h
      case hy3 => (refine Or.inl ⟨by rfl, ?_⟩; intro w' hSw; (try dsimp only at hSw); go_simp; try with_reducible rfl)
      (try simp only [Act.put, List.setIfInBounds_toArray, List.set_cons_zero, List.set_cons_succ])
      refine' wpAnyT_take (i := 3) (oi := ?oi4) (v := ?v4) ?hi4 (by kernel_rfl) (by kernel_rfl) ?hq4 ?hy4 hHeld ?rest4
      case hi4 => (simp only [List.getElem?_toArray, List.getElem?_cons_zero, List.getElem?_cons_succ]; rfl)
      case hq4 => exact fun _ _ _ h => h
      case hy4 => (refine Or.inl ⟨by rfl, ?_⟩; intro w' hSw; (try dsimp only at hSw); go_simp; try with_reducible rfl)
      (try simp only [Act.put, List.setIfInBounds_toArray, List.set_cons_zero, List.set_cons_succ])
      refine' wpAnyT_take (i := 4) (oi := ?oi5) (v := ?v5) ?hi5 (by kernel_rfl) (by kernel_rfl) ?hq5 ?hy5 hHeld ?rest5
      case hi5 => (simp only [List.getElem?_toArray, List.getElem?_cons_zero, List.getElem?_cons_succ]; rfl)
      case hq5 => exact fun _ _ _ h => h
      case hy5 => (refine Or.inl ⟨by rfl, ?_⟩; intro w' hSw; (try dsimp only at hSw); go_simp; try with_reducible rfl)
      (try simp only [Act.put, List.setIfInBounds_toArray, List.set_cons_zero, List.set_cons_succ])
      refine' wpAnyT_take (i := 5) (oi := ?oi6) (v := ?v6) ?hi6 (by kernel_rfl) (by kernel_rfl) ?hq6 ?hy6 hHeld ?rest6
      case hi6 => (simp only [List.getElem?_toArray, List.getElem?_cons_zero, List.getElem?_cons_succ]; rfl)
      case hq6 => exact fun _ _ _ h => h
      case hy6 => (refine Or.inl ⟨by rfl, ?_⟩; intro w' hSw; (try dsimp only at hSw); go_simp; try with_reducible rfl)
      (try simp only [Act.put, List.setIfInBounds_toArray, List.set_cons_zero, List.set_cons_succ])
      refine' wpAnyT_one (i := 6) (o := ?oi7) (by kernel_rfl) ?hi7 (fun K hK => ?st7)
      case hi7 => (simp only [List.getElem?_toArray, List.getElem?_cons_zero, List.getElem?_cons_succ]; rfl)
      go_simp
      obtain ⟨W6, hW6⟩ : ∃ W6, (wr.alloc (.cells #[.int .u8 (x0 : Int), .int .u8 (x1 : Int), .int .u8 (x2 : Int), .int .u8 (x3 : Int), .int .u8 (x4 : Int), .int .u8 (x5 : Int), .int .u8 (x6 : Int), .int .u8 (x7 : Int)] 44)).drew = W6 := ⟨_, rfl⟩
      have hb6 : Below wr.heap.size wr W6 := by rw [← hW6]; exact below_drew (al1 _ _)
      have hn6 : W6.heap[wr.heap.size]? = some (.cells #[.int .u8 (x0 : Int), .int .u8 (x1 : Int), .int .u8 (x2 : Int), .int .u8 (x3 : Int), .int .u8 (x4 : Int), .int .u8 (x5 : Int), .int .u8 (x6 : Int), .int .u8 (x7 : Int)] 44) := by rw [← hW6]; exact heap_alloc_new wr _
      have hz6 : W6.heap.size = wr.heap.size + 1 := by rw [← hW6]; exact (by simp : (wr.alloc (.cells #[.int .u8 (x0 : Int), .int .u8 (x1 : Int), .int .u8 (x2 : Int), .int .u8 (x3 : Int), .int .u8 (x4 : Int), .int .u8 (x5 : Int), .int .u8 (x6 : Int), .int .u8 (x7 : Int)] 44)).heap.size = wr.heap.size + 1)
      have hx6 := (hb6.block w.heap.size (by omega)).trans HX.out
      have hg6 := (hb6.block g (box_lt HG.out)).trans HG.out
      have HO6 := hid (own_keep HO.out (keep_below hb6))
      have HN6 := hid hn6
      have HX6 := hid hx6
      have HG6 := hid hg6
      have HB6 := hid hb6
      clear hb6 hn6 hx6 hg6
      rw [hW6]
      clear hW6
      clear hHeld
      have hHeld : W6.cell? ⟨g, 2, none⟩ = some (.slice lA (L + k) lc) ∧ W6.cell? ⟨w.heap.size, 0, none⟩ = some (.int .u8 (x0 : Int)) ∧ W6.cell? ⟨w.heap.size, 1, none⟩ = some (.int .u8 (x1 : Int)) ∧ W6.cell? ⟨w.heap.size, 2, none⟩ = some (.int .u8 (x2 : Int)) ∧ W6.cell? ⟨w.heap.size, 3, none⟩ = some (.int .u8 (x3 : Int)) ∧ W6.cell? ⟨w.heap.size, 4, none⟩ = some (.int .u8 (x4 : Int)) ∧ W6.cell? ⟨w.heap.size, 5, none⟩ = some (.int .u8 (x5 : Int)) ∧ W6.cell? ⟨w.heap.size, 6, none⟩ = some (.int .u8 (x6 : Int)) ∧ W6.cell? ⟨w.heap.size, 7, none⟩ = some (.int .u8 (x7 : Int)) := ⟨cell_of_row _ _ 2 _ _ _ HG6.out, cell_of_row _ _ 0 _ _ _ HX6.out, cell_of_row _ _ 1 _ _ _ HX6.out, cell_of_row _ _ 2 _ _ _ HX6.out, cell_of_row _ _ 3 _ _ _ HX6.out, cell_of_row _ _ 4 _ _ _ HX6.out, cell_of_row _ _ 5 _ _ _ HX6.out, cell_of_row _ _ 6 _ _ _ HX6.out, cell_of_row _ _ 7 _ _ _ HX6.out⟩
      refine hK.out _ _ (fun _ => hHeld) ?_
      clear hK K
      (try simp only [Act.put, List.setIfInBounds_toArray, List.set_cons_zero, List.set_cons_succ])
      refine' wpAnyT_one (i := 7) (o := ?oi971) (by kernel_rfl) ?hi971 (fun K hK => ?st971)
      case hi971 => (simp only [List.getElem?_toArray, List.getElem?_cons_zero, List.getElem?_cons_succ]; rfl)
      refine step_append_secs rfl (.tmp 13) (.tmp 15) rfl base (.slice lA (L + k) lc) (L + k) _ (by simp [Act.eval]) HO6.out ⟨wr.heap.size, 0, none⟩ [[x0, x1, x2, x3, x4, x5, x6, x7]] 1 1 rfl HONE.out (by simp [Act.eval]) (fun j u hu => by rw [add_at', cell_of_row _ _ _ _ _ _ HN6.out]; simpa [cSec, byteV] using hu) (by omega) (by omega) ?_
      intro v7 W7 ho7 hg7 hat7
      have hz7 := hg7.size
      have HX7 := hid ((hg7.block w.heap.size (by omega) (fun e => HNE.out e.symm)).trans HX6.out)
      have HG7 := hid (keep_grown HO6.out (T := 94) (by decide) hg7 _ _ HG6.out)
      have HB7 := hid (show Below base w W7 from (HB.out.trans (HB6.out.mono (by omega))).grown hg7 (by omega) (fun k e => (HO6.out.lt k e).1))
      have HNE7 := hid (show v7.ownBlock ≠ some w.heap.size from by rcases hat7 with e | e <;> rw [e]; exact HNE.out; intro h; injection h with h; omega)
      obtain ⟨lA7, lc7, rfl⟩ := own_form41 ho7
      have HO7 := hid ho7
      clear hg7 ho7 hat7 hHeld
      have hHeld : W7.cell? ⟨g, 2, none⟩ = some (.slice lA (L + k) lc) ∧ W7.cell? ⟨w.heap.size, 0, none⟩ = some (.int .u8 (x0 : Int)) ∧ W7.cell? ⟨w.heap.size, 1, none⟩ = some (.int .u8 (x1 : Int)) ∧ W7.cell? ⟨w.heap.size, 2, none⟩ = some (.int .u8 (x2 : Int)) ∧ W7.cell? ⟨w.heap.size, 3, none⟩ = some (.int .u8 (x3 : Int)) ∧ W7.cell? ⟨w.heap.size, 4, none⟩ = some (.int .u8 (x4 : Int)) ∧ W7.cell? ⟨w.heap.size, 5, none⟩ = some (.int .u8 (x5 : Int)) ∧ W7.cell? ⟨w.heap.size, 6, none⟩ = some (.int .u8 (x6 : Int)) ∧ W7.cell? ⟨w.heap.size, 7, none⟩ = some (.int .u8 (x7 : Int)) := ⟨cell_of_row _ _ 2 _ _ _ HG7.out, cell_of_row _ _ 0 _ _ _ HX7.out, cell_of_row _ _ 1 _ _ _ HX7.out, cell_of_row _ _ 2 _ _ _ HX7.out, cell_of_row _ _ 3 _ _ _ HX7.out, cell_of_row _ _ 4 _ _ _ HX7.out, cell_of_row _ _ 5 _ _ _ HX7.out, cell_of_row _ _ 6 _ _ _ HX7.out, cell_of_row _ _ 7 _ _ _ HX7.out⟩
      have f7 := box_fr HG7.out 2
      refine hK.out _ _ (fun _ => hHeld) ?_
      clear hK K
      (try simp only [Act.put, List.setIfInBounds_toArray, List.set_cons_zero, List.set_cons_succ])
      refine' wpAnyT_take (i := 8) (oi := ?oi8) (v := ?v8) ?hi8 (by kernel_rfl) (by kernel_rfl) ?hq8 ?hy8 hHeld ?rest8
      case hi8 => (simp only [List.getElem?_toArray, List.getElem?_cons_zero, List.getElem?_cons_succ]; rfl)
      case hq8 => exact fun _ _ _ h => h
      case hy8 => (refine Or.inl ⟨by rfl, ?_⟩; intro w' hSw; (try dsimp only at hSw); go_simp; try with_reducible rfl)
      (try simp only [Act.put, List.setIfInBounds_toArray, List.set_cons_zero, List.set_cons_succ])
      refine' wpAnyT_take (i := 9) (oi := ?oi9) (v := ?v9) ?hi9 (by kernel_rfl) (by kernel_rfl) ?hq9 ?hy9 hHeld ?rest9
      case hi9 => (simp only [List.getElem?_toArray, List.getElem?_cons_zero, List.getElem?_cons_succ]; rfl)
      case hq9 => exact fun _ _ _ h => h
      case hy9 => (refine Or.inl ⟨by rfl, ?_⟩; intro w' hSw; (try dsimp only at hSw); go_simp; try with_reducible rfl)
      (try simp only [Act.put, List.setIfInBounds_toArray, List.set_cons_zero, List.set_cons_succ])
      refine' wpAnyT_one (i := 10) (o := ?oi10) (by kernel_rfl) ?hi10 (fun K hK => ?st10)
      case hi10 => (simp only [List.getElem?_toArray, List.getElem?_cons_zero, List.getElem?_cons_succ]; rfl)
      go_simp
      refine hK.out _ _ (fun h => absurd h (by decide)) ?_
      clear hK K
      (try simp only [Act.put, List.setIfInBounds_toArray, List.set_cons_zero, List.set_cons_succ])
      refine wpAnyT_done (by kernel_rfl) ?_ _
      have HR1 := hid (box3_s2 HG7.out (.slice lA7 (L + k + 1) lc7))
      have HR2 := hid (own_keep HO7.out (keep_setc (i := 2) (v := .slice lA7 (L + k + 1) lc7) HG7.out (by decide)))
      have HR3 := hid ((Below.heap_setCell W7 ⟨g, 2, none⟩ (.slice lA7 (L + k + 1) lc7) w.heap.size (show w.heap.size ≠ g by omega)).trans HX7.out)
      have HR4 := hid (HB7.out.setCell (p := ⟨g, 2, none⟩) hbg (.slice lA7 (L + k + 1) lc7))
      clear hHeld f7 HG7 HO7 HX7 HB7
      obtain ⟨W8, hW8⟩ : ∃ W8, W7.setCell ⟨g, 2, none⟩ (.slice lA7 (L + k + 1) lc7) = W8 := ⟨_, rfl⟩
      have hz8 : w.heap.size < W8.heap.size := by rw [← hW8]; simp; omega
      rw [hW8] at HR1 HR2 HR3 HR4 ⊢
      clear hW8
      go_wp2
      go_roundw
      case rel => exact ⟨k + 1, _, by omega, by go_num, HR1, hid (by rw [rep_snoc]; exact HR2.out), HNE7, HR3, HR4, hz8⟩
      case measure => simp [Lib.intOf]; omega
    · obtain rfl : k = n := by omega
      go_wp2
      go_end0
      have hlen : (l ++ List.replicate k [x0, x1, x2, x3, x4, x5, x6, x7]).length = L + k := by rw [List.length_append, HLL.out, List.length_replicate]
      exact ⟨⟨_, rfl⟩, HB.out, lv, ⟨v, HG.out, HVB.out, HNB.out⟩, by rw [hlen]; exact HO.out⟩
end Go.Proofs.Ytldlddoealpomaa.Rl
