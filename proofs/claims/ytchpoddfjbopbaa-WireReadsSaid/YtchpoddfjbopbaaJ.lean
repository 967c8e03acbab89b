/- Rows of cells that an argument reads as; the writer's sector and extent. -/
import Derived.Test.YtchpoddfjbopbaaI
import Derived.Deep.RegionLawGrows
namespace Go.Proofs.Ytchpoddfjbopbaa
open Go.RowKit Go.Lib

/-- The slice value v reads as rows of st cells each. -/
def Arr (w : World) (v : Value) (st : Nat) (rows : List (List Value)) : Prop :=
  ∃ A cap, v = .slice A rows.length cap ∧ rows.length ≤ cap ∧ cap ≤ maxLen ∧ ∃ b off, (0 < rows.length → A = some ⟨b, off, none⟩ ∧ b < w.heap.size) ∧ ∀ (i : Nat) (r : List Value), rows[i]? = some r → ∀ (j : Nat) (u : Value), r[j]? = some u → w.cell? ⟨b, off + i * st + j, none⟩ = some u
theorem Arr.below {w w' : World} {v : Value} {st : Nat} {rows : List (List Value)} (h : Arr w v st rows) (hb : Below w.heap.size w w') : Arr w' v st rows := by
  obtain ⟨A, cap, e, h1, h2, b, off, hA, hc⟩ := h
  refine ⟨A, cap, e, h1, h2, b, off, fun h => ⟨(hA h).1, Nat.lt_of_lt_of_le (hA h).2 hb.size⟩, fun i r hi j u hj => ?_⟩
  have hl := (List.getElem?_eq_some_iff.1 hi).1
  exact (hb.cell (p := ⟨b, _, none⟩) (hA (by omega)).2).trans (hc i r hi j u hj)
theorem arr_form {w : World} {v : Value} {st : Nat} {rows : List (List Value)} (h : Arr w v st rows) : ∃ A cap, v = .slice A rows.length cap := by
  obtain ⟨A, cap, e, _⟩ := h
  exact ⟨A, cap, e⟩
theorem arr_nil (w : World) (st : Nat) : Arr w (.slice none 0 0) st [] := ⟨none, 0, rfl, Nat.le_refl _, by unfold maxLen; omega, 0, 0, fun h => absurd h (by simp), fun i r h => by simp at h⟩
/-- The cells of an int, a sector, an extent. -/
def cInt (x : Int) : List Value := [.int .i64 x]
def cSec (s : List Nat) : List Value := s.map byteV
def cExt (e : Int × Int) : List Value := [.int .i64 e.1, .int .i64 e.2]
def eSec (s : List Nat) : List Nat := s
def eExtI (e : Int × Int) : List Nat := eNum e.1 ++ eNum e.2

theorem step_append_own {P : Program} {ops : Array Oper} {o : Oper} {a : Act} {w : World} {K : Act → World → Prop} {Q : Exit → Act → World → Prop} {E : Prop}
    (hg : o.guard = none) (s x : Operand) (t : TypeId) (hop : o.op = Op.call { callee := Callee.builtin Builtin.append, args := #[s, x], argTypes := #[t, t] })
    (base : Nat) (e : TypeId) (i : TypeInfo) (z : Value) (size bytes : Nat) (h1 : P.underlying t = some (.slice e)) (h2 : P.info? e = some i) (h3 : i.zero = some z) (h4 : i.size = size) (h5 : i.bytes = bytes) (h6 : z.cells.size = size) (h7 : 0 < size)
    (v : Value) (n : Nat) (olds : List Value) (hs : a.eval s = v) (hown : w.ownsRow base e size v n olds)
    (ad : Addr) (m c : Nat) (news : List Value) (hx : a.eval x = .slice (some ad) m c) (hn : news.length = m * size) (hc : ∀ j u, news[j]? = some u → w.cell? (ad.add j) = some u) (h1c : ∀ u ∈ news, u.oneCell' = true)
    (b1 : n + m ≤ maxLen) (b2 : (n + m) * bytes ≤ 140737488355328) (hbase : base ≤ w.heap.size)
    (hK : ∀ v' w', w'.ownsRow base e size v' (n + m) (olds ++ news) → w.grownBy w' v.ownBlock → K (a.put o.dst v') w') :
    if Region.wanted o (yielded ops a.tmps) = true then Oper.wp P o a w K Q else E := by
  have hw : Region.wanted o (yielded ops a.tmps) = true := by simp [Region.wanted, hg]
  rw [if_pos hw]
  obtain ⟨v', w', hrun, r1, r2, _⟩ := run_append_own (P := P) w base t o.type e i z size bytes h1 h2 h3 h4 h5 h6 h7 v n olds hown ad m c news hn hc h1c b1 b2 hbase
  unfold Oper.wp
  simp [execOp, hop, resolve, invoke, builtin, hs, hx, hrun, Result.andThen]
  exact hK v' w' r1 r2
set_option maxRecDepth 100000 in
theorem step_append_byt {ops : Array Oper} {o : Oper} {a : Act} {w : World} {K : Act → World → Prop} {Q : Exit → Act → World → Prop} {E : Prop} (hgd : o.guard = none) (s x : Operand) (ho : o.op = .call { callee := .builtin .append, args := #[s, x], argTypes := #[22, 22] })
    (base : Nat) (v : Value) (k : Nat) (xs : List Value) (hs : a.eval s = v) (hown : w.ownsRow base 5 1 v k xs) (l : List Nat) (ad : Addr) (m c : Nat) (hx : a.eval x = .slice (some ad) m c) (hsrc : Byt w (.slice (some ad) m c) l) (hk : k + l.length ≤ 100000) (hbase : base ≤ w.heap.size)
    (h : ∀ v' w', w'.ownsRow base 5 1 v' (k + l.length) (xs ++ l.map byteV) → w.grownBy w' v.ownBlock → K (a.put o.dst v') w') :
    if Region.wanted o (yielded ops a.tmps) = true then Oper.wp Try.prog o a w K Q else E := by
  obtain ⟨i0, hi, hz0, hz1, hz2⟩ := info_parts info5
  obtain ⟨h8, A, cap, hv, hcap, hcm, b, off, hA, hc⟩ := hsrc
  injection hv with e1 e2 e3
  subst e1 e2 e3
  refine step_append_own hgd s x 22 ho base 5 i0 _ 1 1 Try.underlying22 hi hz0 hz1 hz2 rfl (by decide) v k xs hs hown ad l.length c (l.map byteV) hx (by simp) ?_ (byteV_one l) (by unfold maxLen; omega) (by omega) hbase (fun v' w' h1 h2 => h v' w' h1 h2)
  intro j u hu
  rw [List.getElem?_map] at hu
  obtain ⟨z, hz, rfl⟩ := Option.map_eq_some_iff.1 hu
  have hj := (List.getElem?_eq_some_iff.1 hz).1
  have hA1 := (hA (by omega)).1
  injection hA1 with hA1
  subst hA1
  have e : (⟨b, off, none⟩ : Addr).add j = ⟨b, off + j, none⟩ := by unfold Addr.add; split <;> simp_all
  rw [e]
  exact hc j z hz
theorem boxed_drew {w : World} {g : Nat} {t : TypeId} {v : Value} (h : Boxed w g t v) : Boxed w.drew g t v := h
theorem below_drew {B : Nat} {w w' : World} (h : Below B w w') : Below B w w'.drew := ⟨h.os, h.tape, h.output, h.size, h.block⟩
theorem byt_cells {w : World} {b : Nat} {s : List Nat} {t : TypeId} {fr : Nat × Nat} (h8 : B8 s) (hl : s.length = 8) (h : w.heap[b]? = some (.cells (cSec s).toArray t fr)) : Byt w (.slice (some ⟨b, 0, none⟩) 8 8) s := by
  refine ⟨h8, some ⟨b, 0, none⟩, 8, by rw [hl], by omega, by unfold maxLen; omega, b, 0, fun _ => ⟨rfl, (Array.getElem?_eq_some_iff.1 h).1⟩, fun i x hx => ?_⟩
  rw [Nat.zero_add, cell_of_row _ _ _ _ _ _ h]
  simp [cSec, hx, byteV]

set_option maxHeartbeats 2000000 in
set_option maxRecDepth 100000 in
theorem wsec_any (s pr : List Nat) (g base : Nat) (w : World) (hs8 : B8 s) (hs : s.length = 8) (hw : Wr w g base pr) (hbg : base ≤ g) (hl : pr.length ≤ 90000) :
    Calls Try.prog 58 #[.pointer (some ⟨g, 0, none⟩), .agg (cSec s).toArray] w fun e w' => (∃ v, e = .returned v) ∧ Wr w' g base (pr ++ eSec s) ∧ Below base w w' := by
  obtain ⟨vo, bx, ho⟩ := hw
  obtain ⟨av, cv, rfl⟩ := own_form ho
  have hgl := bx.lt
  have BX := hid (bx.alloc (.cells (cSec s).toArray 59))
  have HO := hid (ho.alloc (.cells (cSec s).toArray 59))
  have HB : Hid (Below base w (w.alloc (.cells (cSec s).toArray 59))) := hid ((Below.refl _ w).alloc (by omega) _)
  have H8 := hid (byt_cells hs8 hs (heap_alloc_new w (.cells (cSec s).toArray 59)))
  obtain ⟨W, hW⟩ : ∃ W, w.alloc (.cells (cSec s).toArray 59) = W := ⟨_, rfl⟩
  rw [hW] at BX HO HB H8
  have c1 := BX.out.cell
  have f1 := BX.out.frozen
  have hbW : base ≤ W.heap.size := by rw [← hW]; simp; omega
  have hsl : s.length ≤ 8 := by omega
  have HS := hid hs
  clear bx ho hs8 hs
  go_enter Try.func58, Try.ntmps58
  go_wp2_with fail
  have c2 : W.drew.cell? ⟨g, 0, none⟩ = some (.slice av pr.length cv) := c1
  have f2 : W.drew.frozen? ⟨g, 0, none⟩ = false := f1
  have BX2 : Hid (Boxed W.drew g 129 (.slice av pr.length cv)) := hid (boxed_drew BX.out)
  have HO2 : Hid (W.drew.ownsRow base 5 1 (.slice av pr.length cv) pr.length (pr.map byteV)) := hid HO.out
  have HB2 : Hid (Below base w W.drew) := hid (below_drew HB.out)
  have HD2 : Hid (Byt W.drew (.slice (some ⟨w.heap.size, 0, none⟩) 8 8) s) := hid H8.out
  have hbW2 : base ≤ W.drew.heap.size := hbW
  clear BX HO HB H8
  go_region_law (first | (refine step_append_byt rfl (.tmp 8) (.tmp 9) rfl base (.slice av pr.length cv) pr.length _ (by simp [Act.eval]) HO2.out s ⟨w.heap.size, 0, none⟩ 8 8 (by simp [Act.eval]) HD2.out (by omega) hbW2 ?_; intro v3 w3 hown3 hg3; obtain ⟨a3, c3, rfl⟩ := own_form hown3; have BX3 := hid (box_app0 BX2.out HO2.out hg3); have NR := hid (box_row BX3.out hown3); have HB3 := hid (below_own HB2.out HO2.out hg3 hbW2 (Nat.le_refl _)); have HO3 := hid hown3; have cx3 := BX3.out.cell; have fx3 := BX3.out.frozen; clear hown3 hg3))
  all_goals
    go_end0
    exact ⟨⟨_, rfl⟩, wr_more BX3.out HO3.out NR.out, HB3.out.setCell hbg _⟩
end Go.Proofs.Ytchpoddfjbopbaa
