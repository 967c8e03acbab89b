/- Rows of cells that an argument reads as; sectors; SameSectors. -/
import Derived.Test.YtldlddoealpomaaH
import Derived.Deep.RegionLawGrows
import Derived.Stop.BytesEq
namespace Go.Proofs.Ytldlddoealpomaa.Rl
open Go.RowKit Go.Lib

/-- The slice value v reads as rows of st cells each. -/
def Arr (w : World) (v : Value) (st : Nat) (rows : List (List Value)) : Prop :=
  ∃ A cap, v = .slice A rows.length cap ∧ rows.length ≤ cap ∧ cap ≤ maxLen ∧ ∃ b off, (0 < rows.length → A = some ⟨b, off, none⟩ ∧ b < w.heap.size) ∧ ∀ (i : Nat) (r : List Value), rows[i]? = some r → ∀ (j : Nat) (u : Value), r[j]? = some u → w.cell? ⟨b, off + i * st + j, none⟩ = some u
theorem Arr.below {w w' : World} {v : Value} {st : Nat} {rows : List (List Value)} (h : Arr w v st rows) (hb : Below w.heap.size w w') : Arr w' v st rows := by
  obtain ⟨A, cap, e, h1, h2, b, off, hA, hc⟩ := h
  refine ⟨A, cap, e, h1, h2, b, off, fun h => ⟨(hA h).1, Nat.lt_of_lt_of_le (hA h).2 hb.size⟩, fun i r hi j u hj => ?_⟩
  have hl := (List.getElem?_eq_some_iff.1 hi).1
  exact (hb.cell (p := ⟨b, _, none⟩) (hA (by omega)).2).trans (hc i r hi j u hj)
theorem arr_form {w : World} {v : Value} {st : Nat} {rows : List (List Value)} (h : Arr w v st rows) : ∃ A cap, v = .slice A rows.length cap := by
  obtain ⟨A, cap, e, _⟩ := h
  exact ⟨A, cap, e⟩
theorem arr_nil (w : World) (st : Nat) : Arr w (.slice none 0 0) st [] := ⟨none, 0, rfl, Nat.le_refl _, by unfold maxLen; omega, 0, 0, fun h => absurd h (by simp), fun i r h => by simp at h⟩
/-- The cells of an int, a sector, an extent. -/
def cInt (x : Int) : List Value := [.int .i64 x]
def cSec (s : List Nat) : List Value := s.map byteV
def cExt (e : Int × Int) : List Value := [.int .i64 e.1, .int .i64 e.2]
theorem step_append_own {P : Program} {ops : Array Oper} {o : Oper} {a : Act} {w : World} {K : Act → World → Prop} {Q : Exit → Act → World → Prop} {E : Prop}
    (hg : o.guard = none) (s x : Operand) (t : TypeId) (hop : o.op = Op.call { callee := Callee.builtin Builtin.append, args := #[s, x], argTypes := #[t, t] })
    (base : Nat) (e : TypeId) (i : TypeInfo) (z : Value) (size bytes : Nat) (h1 : P.underlying t = some (.slice e)) (h2 : P.info? e = some i) (h3 : i.zero = some z) (h4 : i.size = size) (h5 : i.bytes = bytes) (h6 : z.cells.size = size) (h7 : 0 < size)
    (v : Value) (n : Nat) (olds : List Value) (hs : a.eval s = v) (hown : w.ownsRow base e size v n olds)
    (ad : Addr) (m c : Nat) (news : List Value) (hx : a.eval x = .slice (some ad) m c) (hn : news.length = m * size) (hc : ∀ j u, news[j]? = some u → w.cell? (ad.add j) = some u) (h1c : ∀ u ∈ news, u.oneCell' = true)
    (b1 : n + m ≤ maxLen) (b2 : (n + m) * bytes ≤ 140737488355328) (hbase : base ≤ w.heap.size)
    (hK : ∀ v' w', w'.ownsRow base e size v' (n + m) (olds ++ news) → w.grownBy w' v.ownBlock → K (a.put o.dst v') w') :
    if Region.wanted o (yielded ops a.tmps) = true then Oper.wp P o a w K Q else E := by
  have hw : Region.wanted o (yielded ops a.tmps) = true := by simp [Region.wanted, hg]
  rw [if_pos hw]
  obtain ⟨v', w', hrun, r1, r2, _⟩ := run_append_own (P := P) w base t o.type e i z size bytes h1 h2 h3 h4 h5 h6 h7 v n olds hown ad m c news hn hc h1c b1 b2 hbase
  unfold Oper.wp
  simp [execOp, hop, resolve, invoke, builtin, hs, hx, hrun, Result.andThen]
  exact hK v' w' r1 r2
set_option maxRecDepth 100000 in
theorem step_append_byt {ops : Array Oper} {o : Oper} {a : Act} {w : World} {K : Act → World → Prop} {Q : Exit → Act → World → Prop} {E : Prop} (hgd : o.guard = none) (s x : Operand) (ho : o.op = .call { callee := .builtin .append, args := #[s, x], argTypes := #[22, 22] })
    (base : Nat) (v : Value) (k : Nat) (xs : List Value) (hs : a.eval s = v) (hown : w.ownsRow base 5 1 v k xs) (l : List Nat) (ad : Addr) (m c : Nat) (hx : a.eval x = .slice (some ad) m c) (hsrc : Byt w (.slice (some ad) m c) l) (hk : k + l.length ≤ 1000000000000) (hbase : base ≤ w.heap.size)
    (h : ∀ v' w', w'.ownsRow base 5 1 v' (k + l.length) (xs ++ l.map byteV) → w.grownBy w' v.ownBlock → K (a.put o.dst v') w') :
    if Region.wanted o (yielded ops a.tmps) = true then Oper.wp Try.prog o a w K Q else E := by
  obtain ⟨i0, hi, hz0, hz1, hz2⟩ := info_parts info5
  obtain ⟨h8, A, cap, hv, hcap, hcm, b, off, hA, hc⟩ := hsrc
  injection hv with e1 e2 e3
  subst e1 e2 e3
  refine step_append_own hgd s x 22 ho base 5 i0 _ 1 1 Try.underlying22 hi hz0 hz1 hz2 rfl (by decide) v k xs hs hown ad l.length c (l.map byteV) hx (by simp) ?_ (byteV_one l) (by unfold maxLen; omega) (by omega) hbase (fun v' w' h1 h2 => h v' w' h1 h2)
  intro j u hu
  rw [List.getElem?_map] at hu
  obtain ⟨z, hz, rfl⟩ := Option.map_eq_some_iff.1 hu
  have hj := (List.getElem?_eq_some_iff.1 hz).1
  have hA1 := (hA (by omega)).1
  injection hA1 with hA1
  subst hA1
  have e : (⟨b, off, none⟩ : Addr).add j = ⟨b, off + j, none⟩ := by unfold Addr.add; split <;> simp_all
  rw [e]
  exact hc j z hz
theorem boxed_drew {w : World} {g : Nat} {t : TypeId} {v : Value} (h : Boxed w g t v) : Boxed w.drew g t v := h
theorem below_drew {B : Nat} {w w' : World} (h : Below B w w') : Below B w w'.drew := ⟨h.os, h.tape, h.output, h.size, h.block⟩
theorem byt_cells {w : World} {b : Nat} {s : List Nat} {t : TypeId} {fr : Nat × Nat} (h8 : B8 s) (hl : s.length = 8) (h : w.heap[b]? = some (.cells (cSec s).toArray t fr)) : Byt w (.slice (some ⟨b, 0, none⟩) 8 8) s := by
  refine ⟨h8, some ⟨b, 0, none⟩, 8, by rw [hl], by omega, by unfold maxLen; omega, b, 0, fun _ => ⟨rfl, (Array.getElem?_eq_some_iff.1 h).1⟩, fun i x hx => ?_⟩
  rw [Nat.zero_add, cell_of_row _ _ _ _ _ _ h]
  simp [cSec, hx, byteV]
/-- Sectors of eight bytes. -/
def Secs (ll : List (List Nat)) : Prop := ∀ s ∈ ll, s.length = 8 ∧ B8 s
/-- The value v reads as the sectors ll; as the extents; as the writes. -/
def Sec (w : World) (v : Value) (ll : List (List Nat)) : Prop := Secs ll ∧ Arr w v 8 (ll.map cSec)
theorem Sec.below {w w' : World} {v : Value} {ll : List (List Nat)} (h : Sec w v ll) (hb : Below w.heap.size w w') : Sec w' v ll := ⟨h.1, h.2.below hb⟩
theorem sec_form {w : World} {v : Value} {ll : List (List Nat)} (h : Sec w v ll) : ∃ A c, v = .slice A ll.length c := by
  obtain ⟨A, c, e⟩ := arr_form h.2
  rw [List.length_map] at e
  exact ⟨A, c, e⟩
theorem list8 {α : Type} {s : List α} (h : s.length = 8) : ∃ x0 x1 x2 x3 x4 x5 x6 x7, s = [x0, x1, x2, x3, x4, x5, x6, x7] := by
  match s, h with
  | [x0, x1, x2, x3, x4, x5, x6, x7], _ => exact ⟨x0, x1, x2, x3, x4, x5, x6, x7, rfl⟩
/-- Rows of cells, each as CR says of its element. -/
def RowsOf {α : Type} (CR : World → List Value → α → Prop) (w : World) (rows : List (List Value)) (xs : List α) : Prop := rows.length = xs.length ∧ ∀ (i : Nat) (r : List Value) (x : α), rows[i]? = some r → xs[i]? = some x → CR w r x
theorem rowsOf_nil {α : Type} (CR : World → List Value → α → Prop) (w : World) : RowsOf CR w [] [] := ⟨rfl, fun i r x h => by simp at h⟩
theorem rowsOf_snoc {α : Type} {CR : World → List Value → α → Prop} {w : World} {rows : List (List Value)} {xs : List α} {r : List Value} {x : α} (h : RowsOf CR w rows xs) (hx : CR w r x) : RowsOf CR w (rows ++ [r]) (xs ++ [x]) := by
  refine ⟨by simp [h.1], fun i r' x' hr hx' => ?_⟩
  rcases Nat.lt_or_ge i rows.length with hi | hi
  · rw [List.getElem?_append_left hi] at hr
    rw [List.getElem?_append_left (by rw [← h.1]; exact hi)] at hx'
    exact h.2 i r' x' hr hx'
  · rw [List.getElem?_append_right hi] at hr
    rw [List.getElem?_append_right (by rw [← h.1]; exact hi)] at hx'
    rw [← h.1] at hx'
    have hi0 : i - rows.length = 0 := by
      have := (List.getElem?_eq_some_iff.1 hr).1
      simp at this
      omega
    rw [hi0] at hr hx'
    simp at hr hx'
    subst hr hx'
    exact hx
theorem rowsOf_keep {α : Type} {CR : World → List Value → α → Prop} {w w' : World} {rows : List (List Value)} {xs : List α} (hst : ∀ r x, CR w r x → CR w' r x) (h : RowsOf CR w rows xs) : RowsOf CR w' rows xs := ⟨h.1, fun i r x hr hx => hst r x (h.2 i r x hr hx)⟩
/-- What a list is that a call has made. -/
def LV {α : Type} (E : TypeId) (st : Nat) (CR : World → List Value → α → Prop) (w : World) (v : Value) (xs : List α) : Prop := ∃ base rows, w.ownsRow base E st v xs.length rows.flatten ∧ RowsOf CR w rows xs
theorem ownAny_nilOk {E : TypeId} {st base n : Nat} {w : World} {v : Value} {xs : List Value} (h : w.ownsRow base E st v n xs) : NilOk v := by
  rcases h.2 with ⟨rfl, _⟩ | ⟨g, cap, cur, rfl, _⟩
  · exact nilOk_nil
  · exact nilOk_some _ _ _
theorem ownAny_form {E : TypeId} {st base n : Nat} {w : World} {v : Value} {xs : List Value} (h : w.ownsRow base E st v n xs) : ∃ A cap, v = .slice A n cap := by
  rcases h.2 with ⟨rfl, rfl⟩ | ⟨g, cap, cur, rfl, _⟩
  · exact ⟨none, 0, rfl⟩
  · exact ⟨_, _, rfl⟩
theorem CRz {T : TypeId} {w : World} {b : Nat} {cs : List Value} (h : w.heap[b]? = some (.cells cs.toArray T)) : ∀ (j : Nat) (u : Value), cs[j]? = some u → w.cell? ((⟨b, 0, none⟩ : Addr).add j) = some u := fun j u hu => by
  have e : (⟨b, 0, none⟩ : Addr).add j = ⟨b, j, none⟩ := by unfold Addr.add; split <;> simp_all
  rw [e, cell_of_row _ _ _ _ _ _ h]
  simpa using hu
def crSec (_ : World) (r : List Value) (x : List Nat) : Prop := r = cSec x ∧ x.length = 8 ∧ B8 x
theorem info3 : (Try.prog.info? 3).map (fun i => (i.zero, i.size, i.bytes)) = some (some (.int .i64 0), 1, 8) := by kernel_rfl
theorem info41 : (Try.prog.info? 44).map (fun i => (i.zero, i.size, i.bytes)) = some (some (.agg #[.int .u8 0, .int .u8 0, .int .u8 0, .int .u8 0, .int .u8 0, .int .u8 0, .int .u8 0, .int .u8 0]), 8, 8) := by kernel_rfl
theorem bytes_inj : ∀ {p x : List Nat}, p.map byteV = x.map byteV → p = x
  | [], [], _ => rfl
  | [], _ :: _, h => by simp at h
  | _ :: _, [], h => by simp at h
  | a :: p, b :: x, h => by
    rw [List.map_cons, List.map_cons] at h
    injection h with h1 h2
    unfold byteV at h1
    injection h1 with _ h1
    rw [show a = b by omega, bytes_inj h2]
theorem byt_lit (w : World) (l : List Nat) (h8 : B8 l) (hl : l.length ≤ maxLen) : Byt (w.alloc (.cells (l.map fun (x : Nat) => Value.int .u8 (x : Int)).toArray 5)) (.slice (some ⟨w.heap.size, 0, none⟩) l.length l.length) l := byt_new w l (0, 0) h8 hl
theorem al1B {B : Nat} {w0 w : World} (h : Below B w0 w) (hB : B ≤ w.heap.size) (o : Obj) : Below B w0 (w.alloc o) := h.alloc hB o
theorem flat_getG {α : Type} {st : Nat} {rows : List (List α)} (h : ∀ r ∈ rows, r.length = st) : ∀ {i j : Nat} {r : List α}, rows[i]? = some r → j < st → rows.flatten[i * st + j]? = r[j]? := by
  induction rows with
  | nil => intro i j r hr _; simp at hr
  | cons t rows ih =>
    intro i j r hr hj
    have ht := h t (List.mem_cons_self ..)
    rw [List.flatten_cons]
    rcases i with _ | i
    · simp at hr
      subst hr
      rw [List.getElem?_append_left (by omega)]
      simp
    · rw [List.getElem?_append_right (by rw [ht, Nat.succ_mul]; omega), ht]
      have e : (i + 1) * st + j - st = i * st + j := by rw [Nat.succ_mul]; omega
      rw [e]
      exact ih (fun u hu => h u (List.mem_cons_of_mem _ hu)) (by simpa using hr) hj
theorem arr_at {w : World} {g : Nat} {T : TypeId} {st n c : Nat} {rows : List (List Value)} {fr : Nat × Nat} {cs : Array Value} (h : ∀ r ∈ rows, r.length = st) (hn : n = rows.length) (hc : n ≤ c) (hm : c ≤ maxLen) (hg : w.heap[g]? = some (.cells cs T fr)) (hcs : ∀ (k : Nat) (u : Value), rows.flatten[k]? = some u → cs[k]? = some u) : Arr w (.slice (some ⟨g, 0, none⟩) n c) st rows := by
  subst hn
  refine ⟨_, _, rfl, hc, hm, g, 0, fun _ => ⟨rfl, box_lt hg⟩, fun i r hr j u hu => ?_⟩
  have hj : j < st := by rw [← h r (List.mem_of_getElem? hr)]; exact (List.getElem?_eq_some_iff.1 hu).1
  rw [Nat.zero_add, cell_of_row _ _ _ _ _ _ hg]
  exact hcs _ _ ((flat_getG h hr hj).trans hu)
theorem arr_new (w : World) (T : TypeId) (st n : Nat) (rows : List (List Value)) (cs : Array Value) (h : ∀ r ∈ rows, r.length = st) (hn : n = rows.length) (hm : n ≤ maxLen) (hcs : rows.flatten.toArray = cs) : Arr (w.alloc (.cells cs T)) (.slice (some ⟨w.heap.size, 0, none⟩) n n) st rows :=
  arr_at h hn (Nat.le_refl _) hm (heap_alloc_new w _) (fun k u hu => by rw [← hcs]; simpa using hu)
theorem arr_of_own {E : TypeId} {st base n : Nat} {w : World} {v : Value} {rows : List (List Value)} (ho : w.ownsRow base E st v n rows.flatten) (hn : rows.length = n) (hr : ∀ r ∈ rows, r.length = st) : Arr w v st rows := by
  rcases ho.2 with ⟨rfl, h0⟩ | ⟨g, cap, cur, rfl, _, hg, hc, hm, hs, ht⟩
  · obtain rfl : rows = [] := List.eq_nil_of_length_eq_zero (by omega)
    exact arr_nil _ _
  · refine arr_at hr hn.symm hc hm hg (fun k u hu => ?_)
    rw [← ht, List.getElem?_take] at hu
    split at hu
    · simpa using hu
    · cases hu
theorem lv_arr {α : Type} {E : TypeId} {st : Nat} {CR : World → List Value → α → Prop} {w : World} {v : Value} {xs : List α} (cX : α → List Value) (hcr : ∀ r x, CR w r x → r = cX x ∧ r.length = st) (h : LV E st CR w v xs) : Arr w v st (xs.map cX) := by
  obtain ⟨base, rows, ho, hl, hr⟩ := h
  have he : rows = xs.map cX := by
    apply List.ext_getElem?
    intro i
    rw [List.getElem?_map]
    rcases Nat.lt_or_ge i rows.length with hi | hi
    · obtain ⟨x, hx⟩ : ∃ x, xs[i]? = some x := ⟨xs[i]'(by omega), List.getElem?_eq_getElem (by omega)⟩
      rw [hx, List.getElem?_eq_getElem hi]
      exact congrArg some (hcr _ _ (hr i _ x (List.getElem?_eq_getElem hi) hx)).1
    · rw [List.getElem?_eq_none hi, List.getElem?_eq_none (by omega)]
      rfl
  rw [← he]
  refine arr_of_own ho hl (fun r hr' => ?_)
  obtain ⟨i, hi⟩ := List.mem_iff_getElem?.1 hr'
  have hil := (List.getElem?_eq_some_iff.1 hi).1
  exact (hcr _ _ (hr i r (xs[i]'(by omega)) hi (List.getElem?_eq_getElem (by omega)))).2
theorem sec_of_lv {w : World} {v : Value} {xs : List (List Nat)} (h : LV 44 8 crSec w v xs) : Sec w v xs := by
  refine ⟨fun s hs => ?_, lv_arr cSec (fun r x hr => ⟨hr.1, by rw [hr.1]; unfold cSec; rw [List.length_map]; exact hr.2.1⟩) h⟩
  obtain ⟨base, rows, _, hl, hr⟩ := h
  obtain ⟨i, hi⟩ := List.mem_iff_getElem?.1 hs
  have hil := (List.getElem?_eq_some_iff.1 hi).1
  exact (hr i (rows[i]'(by omega)) s (List.getElem?_eq_getElem (by omega)) hi).2
def SaysB (b : Bool) (w : World) (e : Ending) (w' : World) : Prop := e = .returned (.bool b) ∧ Below w.heap.size w w'
def SaysQ (b : Bool) (w : World) (e : Ending) (w' : World) : Prop := e = .returned (.bool b) ∧ ∃ m, w' = w.drewN m
theorem saysQ_B {b : Bool} {w w' : World} {e : Ending} (h : SaysQ b w e w') : SaysB b w e w' := by
  obtain ⟨rfl, m, rfl⟩ := h
  exact ⟨rfl, rfl, rfl, rfl, Nat.le_refl _, fun _ _ => rfl⟩
theorem cell_byte {x : Nat} (h : x < 256) : Extern.Stop.cell (UInt8.ofNat x) = byteV x := by
  unfold Extern.Stop.cell byteV
  rw [UInt8.toNat_ofNat', Nat.mod_eq_of_lt h]
  rfl
theorem map_cells {l : List Nat} (h : B8 l) : (l.map UInt8.ofNat).map Extern.Stop.cell = l.map byteV := by
  rw [List.map_map]
  exact List.map_congr_left (fun x hx => cell_byte (h x hx))
theorem size5 (w : World) : (sizeOf 5).run Try.prog w = .ok 1 w := by kernel_rfl
theorem map_u8_inj {l m : List Nat} (hl : B8 l) (hm : B8 m) : (l.map UInt8.ofNat == m.map UInt8.ofNat) = (l == m) := by
  rw [Bool.eq_iff_iff, beq_iff_eq, beq_iff_eq]
  refine ⟨fun h => ?_, fun h => by rw [h]⟩
  have h2 := congrArg (List.map UInt8.toNat) h
  rw [List.map_map, List.map_map] at h2
  have e : ∀ k : List Nat, B8 k → k.map (UInt8.toNat ∘ UInt8.ofNat) = k := fun k hk => by
    conv => rhs; rw [← List.map_id k]
    exact List.map_congr_left (fun x hx => by
      show (UInt8.ofNat x).toNat = x
      rw [UInt8.toNat_ofNat', Nat.mod_eq_of_lt (hk x hx)])
  rw [e l hl, e m hm] at h2
  exact h2
theorem eql_bytes (t n : Nat) (ht : Try.prog.underlying t = some (.array n 5)) (l m : List Nat) (hl : B8 l) (hm : B8 m) (h1 : l.length = n) (h2 : m.length = n) (w : World) :
    (Op.equalIn 10000 t (.agg (l.map byteV).toArray) (.agg (m.map byteV).toArray)).run Try.prog w = .ok (l == m) w := by
  have h := run_equalIn_bytes (P := Try.prog) w 9998 t 5 n ht Try.underlying5 size5 (l.map UInt8.ofNat) (m.map UInt8.ofNat) (by rw [List.length_map]; exact h1) (by rw [List.length_map]; exact h2)
  rw [map_cells hl, map_cells hm, map_u8_inj hl hm] at h
  exact h
theorem eql_sec (x y : List Nat) (hx : x.length = 8) (hy : y.length = 8) (h8 : B8 x) (h8' : B8 y) (W : World) : (Op.equalIn 10000 44 (.agg (cSec x).toArray) (.agg (cSec y).toArray)).run Try.prog W = .ok (decide (x = y)) W := by
  have h := eql_bytes 44 8 Try.underlying44 x y h8 h8' hx hy W
  have e : (x == y) = decide (x = y) := by rw [Bool.eq_iff_iff]; simp
  rw [e] at h
  exact h
end Go.Proofs.Ytldlddoealpomaa.Rl
