/- The input's number and sectors, the reader's repeat. -/
import Derived.Test.YtielamoaghibgaaRg
import Derived.Laws.MakeOwn
import Derived.WalkLawsBesides
namespace Go.Proofs.Ytielamoaghibgaa
open Go.RowKit Go.Lib

theorem rd_take (f : Nat) : ∀ (i n : Nat) (s : List Nat), rd f i n (s.take f) = rd f i n s := by
  induction f with
  | zero => intro i n s; rfl
  | succ f ih =>
    intro i n s
    rcases s with _ | ⟨b, t⟩
    · rfl
    · rw [List.take_succ_cons, rd_cons, rd_cons, ih]
theorem dNum_take {s : List Nat} (h8 : B8 s) : dNum s = match dNum (s.take 8) with | .error e => .error e | .ok (x, t) => .ok (x, s.drop ((s.take 8).length - t.length)) := by
  rcases hr : rd 8 0 0 s with ⟨v, k, er⟩
  have hr' : rd 8 0 0 (s.take 8) = (v, k, er) := by rw [rd_take, hr]
  by_cases he : er = 0
  · subst he
    have hk := (rd_len (fun x hx => h8 x (List.mem_of_mem_take hx)) hr').1
    rw [dNum_ok hr, dNum_ok hr']
    simp only
    rw [List.length_drop, show (s.take 8).length - ((s.take 8).length - k) = k by omega]
  · rw [dNum_err hr he, dNum_err hr' he]
theorem byt_upto {w : World} {A : Option Addr} {n c : Nat} {l : List Nat} (h : Byt w (.slice A n c) l) (k : Nat) : Byt w (.slice A (l.take k).length c) (l.take k) := by
  obtain ⟨h8, A', cap, e, h1, h2, b, off, hA, hc⟩ := h
  injection e with e1 e2 e3
  subst e1 e3
  refine ⟨fun x hx => h8 x (List.mem_of_mem_take hx), A, c, rfl, by rw [List.length_take]; omega, h2, b, off, fun h => hA (by rw [List.length_take] at h; omega), fun i x hx => ?_⟩
  rw [List.getElem?_take] at hx
  split at hx
  · exact hc i x hx
  · cases hx
theorem below_both_drewN {B : Nat} {w0 w : World} (h : Below B w0 w) (n : Nat) : Below B w0 (w.drewN n) := ⟨h.os, h.tape, h.output, h.size, h.block⟩
/-- What the state of a reader is: the rest, the bound, the list. -/
def Rdr (w0 w : World) (g : Nat) (s : List Nat) (m lv : Value) : Prop := ∃ v, w.heap[g]? = some (.cells #[v, m, lv] 64) ∧ Byt w0 v s ∧ NilOk v
theorem Rdr.lt {w0 w : World} {g : Nat} {s : List Nat} {m lv : Value} (h : Rdr w0 w g s m lv) : g < w.heap.size := by
  obtain ⟨v, hb, _⟩ := h
  exact box_lt hb
theorem box3_s0 {w : World} {g : Nat} {a b c : Value} {t : TypeId} (h : w.heap[g]? = some (.cells #[a, b, c] t)) (v : Value) : (w.setCell ⟨g, 0, none⟩ v).heap[g]? = some (.cells #[v, b, c] t) := by
  show (w.heap.modify g _)[g]? = _
  obtain ⟨hlt, hk⟩ := Array.getElem?_eq_some_iff.1 h
  rw [Array.getElem?_eq_getElem (by rw [Array.size_modify]; exact hlt), Array.getElem_modify_self, hk]
  rfl
theorem box3_s2 {w : World} {g : Nat} {a b c : Value} {t : TypeId} (h : w.heap[g]? = some (.cells #[a, b, c] t)) (v : Value) : (w.setCell ⟨g, 2, none⟩ v).heap[g]? = some (.cells #[a, b, v] t) := by
  show (w.heap.modify g _)[g]? = _
  obtain ⟨hlt, hk⟩ := Array.getElem?_eq_some_iff.1 h
  rw [Array.getElem?_eq_getElem (by rw [Array.size_modify]; exact hlt), Array.getElem_modify_self, hk]
  rfl
/-- The panic with an error's number. -/
def Pan (er : Int) (e : Ending) : Prop := e = .panicked [{ v := .iface 29 (.int .i64 er), recovered := false }]
/-- What reading a number in the box g answers. -/
def NumQ (w0 w : World) (g : Nat) (s : List Nat) (m lv : Value) (e : Ending) (w' : World) : Prop :=
  Upd g w w' ∧ ((∃ x t, dNum s = .ok (x, t) ∧ e = .returned (.int .i64 (x : Int)) ∧ Rdr w0 w' g t m lv) ∨ ∃ er, dNum s = .error er ∧ Pan er e)

set_option maxHeartbeats 2000000 in
set_option maxRecDepth 100000 in
theorem number_any (s : List Nat) (g : Nat) (m lv : Value) (w0 w : World) (hb0 : Below w0.heap.size w0 w) (hr : Rdr w0 w g s m lv) (hl : s.length ≤ 90000) :
    Calls Try.prog 37 #[.pointer (some ⟨g, 0, none⟩)] w (NumQ w0 w g s m lv) := by
  obtain ⟨v, hb, hv, hn⟩ := hr
  obtain ⟨A, c, rfl⟩ := byt_form hv
  have c0 : w.cell? ⟨g, 0, none⟩ = some (.slice A s.length c) := cell_of_row _ _ 0 _ _ _ hb
  have HB := hid hb
  have HV := hid hv
  have HN := hid hn
  have hcp := byt_cap hv
  have HB0 := hid hb0
  clear hb hv hn hb0
  go_enter Try.func37, Try.ntmps37
  go_wp2_with fail
  go_quiet (fail)
  have hmm : (min (s.length : Int) 8).toNat = (s.take 8).length := by rw [List.length_take]; omega
  have HB1 := hid (show Below w.heap.size w (w.drewN nq) from ⟨rfl, rfl, rfl, Nat.le_refl _, fun _ _ => rfl⟩)
  have hvt : Byt (w.drewN nq) (.slice A (s.take 8).length c) (s.take 8) := (byt_upto HV.out 8).below (below_both_drewN HB0.out nq)
  rw [hmm]
  have hlt : (s.take 8).length ≤ s.length := by rw [List.length_take]; omega
  have HLT := hid hlt
  have HI := hid (int_any (s.take 8) _ (w.drewN nq) hvt (fun n c' e => by injection e with e1 _ e3; exact e3 ▸ HN.out _ _ (by rw [e1])) (by omega))
  have HD := hid (dNum_take HV.out.1)
  have hkl : ∀ x t, dNum (s.take 8) = .ok (x, t) → (s.take 8).length - t.length ≤ s.length := fun _ _ _ => by omega
  obtain ⟨u, hu⟩ : ∃ u, s.take 8 = u := ⟨_, rfl⟩
  rw [hu] at HI HD HLT ⊢
  have HU := hid hu
  clear hmm hvt hlt hkl hu
  go_wp2_with fail
  refine HI.out.mono ?_
  rintro e w1 ⟨v1, r1, er, rfl, hb1, h1⟩
  have HB2 := hid hb1
  have HC2 := hid ((hb1.block g (show g < (w.drewN nq).heap.size from box_lt HB.out)).trans (show (w.drewN nq).heap[g]? = _ from HB.out))
  rcases h1 with ⟨x, t, hd, rfl, hvx, hrt⟩ | ⟨hd, hne, rfl, rfl⟩
  · obtain rfl : v1 = .int .i64 (x : Int) := hvx
    obtain ⟨a1, c1, rfl⟩ := byt_form (vbyt_byt hrt)
    have c2 : w1.cell? ⟨g, 0, none⟩ = some (.slice A s.length c) := cell_of_row _ _ 0 _ _ _ HC2.out
    have f2 := box_fr HC2.out 0
    have hd' := HD.out
    rw [hd] at hd'
    have HD2 := hid hd'
    have htl : t.length ≤ u.length := dNum_shr hd
    have hul := HLT.out
    have hk1 : (0 : Int) ≤ (u.length : Int) - (t.length : Int) := by omega
    have hk2 : (u.length : Int) - (t.length : Int) ≤ (s.length : Int) := by omega
    clear hd hd' hb1 hrt
    by_cases hck : c = u.length - t.length
    · have hbf := byt_from HV.out (k := u.length - t.length) (by omega)
      rw [show fromA A c (u.length - t.length) = A from if_pos hck, hck, Nat.sub_self] at hbf
      have hs0 : s.length - (u.length - t.length) = 0 := by omega
      rw [hs0] at hbf
      have HBF := hid hbf
      have HNN : Hid (NilOk (.slice A 0 0)) := hid (fun n c' e => by injection e with e1 _ e3; exact e3.symm)
      subst hck
      have HXX := hid HC2.out
      clear hbf
      go_wp2
      go_ret
      exact ⟨((Upd.refl g w).of_below (below_both HB1.out HB2.out)).set 0 _, .inl ⟨x, _, HD2.out, rfl, _, box3_s0 HC2.out _, HBF.out, HNN.out⟩⟩
    · have hbf := byt_from HV.out (k := u.length - t.length) (by omega)
      rw [show fromA A c (u.length - t.length) = A.map (fun x => x.add (u.length - t.length)) from if_neg hck] at hbf
      have HBF := hid hbf
      have HNN : Hid (NilOk (.slice (A.map (fun x => x.add (u.length - t.length))) (s.length - (u.length - t.length)) (c - (u.length - t.length)))) := hid (fun n c' e => by
        injection e with e1 _ e3
        have hA0 : A = none := by simpa using e1
        have := HN.out _ _ (by rw [hA0])
        omega)
      clear hbf
      go_wp2
      go_ret
      exact ⟨((Upd.refl g w).of_below (below_both HB1.out HB2.out)).set 0 _, .inl ⟨x, _, HD2.out, rfl, _, box3_s0 HC2.out _, HBF.out, HNN.out⟩⟩
  · have d1 : (er == 0) = false := by simpa using hne
    have d2 : (er != 0) = true := by simpa using hne
    have hd' := HD.out
    rw [hd] at hd'
    have HD2 := hid hd'
    clear hd hd' hne hb1
    go_wp2
    exact ⟨rfl, (Upd.refl g w).of_below (below_both HB1.out HB2.out), .inr ⟨er, HD2.out, rfl⟩⟩

/-- A row of the call's own: what the first k of n sectors are. -/
def Lst (w : World) (base : Nat) (lv : Value) (l : List Sect) : Prop := w.ownsRow base 41 8 lv l.length (l.map cSec).flatten
end Go.Proofs.Ytielamoaghibgaa
