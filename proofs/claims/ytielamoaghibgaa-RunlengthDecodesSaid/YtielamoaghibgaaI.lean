/- Rows of cells that an argument reads as; sectors; SameSectors. -/
import Derived.Test.YtielamoaghibgaaH
import Derived.Deep.RegionLawGrows
import Derived.Stop.BytesEq
namespace Go.Proofs.Ytielamoaghibgaa
open Go.RowKit Go.Lib

/-- The slice value v reads as rows of st cells each. -/
def Arr (w : World) (v : Value) (st : Nat) (rows : List (List Value)) : Prop :=
  ∃ A cap, v = .slice A rows.length cap ∧ rows.length ≤ cap ∧ cap ≤ maxLen ∧ ∃ b off, (0 < rows.length → A = some ⟨b, off, none⟩ ∧ b < w.heap.size) ∧ ∀ (i : Nat) (r : List Value), rows[i]? = some r → ∀ (j : Nat) (u : Value), r[j]? = some u → w.cell? ⟨b, off + i * st + j, none⟩ = some u
theorem Arr.below {w w' : World} {v : Value} {st : Nat} {rows : List (List Value)} (h : Arr w v st rows) (hb : Below w.heap.size w w') : Arr w' v st rows := by
  obtain ⟨A, cap, e, h1, h2, b, off, hA, hc⟩ := h
  refine ⟨A, cap, e, h1, h2, b, off, fun h => ⟨(hA h).1, Nat.lt_of_lt_of_le (hA h).2 hb.size⟩, fun i r hi j u hj => ?_⟩
  have hl := (List.getElem?_eq_some_iff.1 hi).1
  exact (hb.cell (p := ⟨b, _, none⟩) (hA (by omega)).2).trans (hc i r hi j u hj)
theorem arr_form {w : World} {v : Value} {st : Nat} {rows : List (List Value)} (h : Arr w v st rows) : ∃ A cap, v = .slice A rows.length cap := by
  obtain ⟨A, cap, e, _⟩ := h
  exact ⟨A, cap, e⟩
theorem arr_nil (w : World) (st : Nat) : Arr w (.slice none 0 0) st [] := ⟨none, 0, rfl, Nat.le_refl _, by unfold maxLen; omega, 0, 0, fun h => absurd h (by simp), fun i r h => by simp at h⟩
/-- The cells of an int, a sector, an extent. -/
def cInt (x : Int) : List Value := [.int .i64 x]
def cSec (s : List Nat) : List Value := s.map byteV
def cExt (e : Int × Int) : List Value := [.int .i64 e.1, .int .i64 e.2]
theorem step_append_own {P : Program} {ops : Array Oper} {o : Oper} {a : Act} {w : World} {K : Act → World → Prop} {Q : Exit → Act → World → Prop} {E : Prop}
    (hg : o.guard = none) (s x : Operand) (t : TypeId) (hop : o.op = Op.call { callee := Callee.builtin Builtin.append, args := #[s, x], argTypes := #[t, t] })
    (base : Nat) (e : TypeId) (i : TypeInfo) (z : Value) (size bytes : Nat) (h1 : P.underlying t = some (.slice e)) (h2 : P.info? e = some i) (h3 : i.zero = some z) (h4 : i.size = size) (h5 : i.bytes = bytes) (h6 : z.cells.size = size) (h7 : 0 < size)
    (v : Value) (n : Nat) (olds : List Value) (hs : a.eval s = v) (hown : w.ownsRow base e size v n olds)
    (ad : Addr) (m c : Nat) (news : List Value) (hx : a.eval x = .slice (some ad) m c) (hn : news.length = m * size) (hc : ∀ j u, news[j]? = some u → w.cell? (ad.add j) = some u) (h1c : ∀ u ∈ news, u.oneCell' = true)
    (b1 : n + m ≤ maxLen) (b2 : (n + m) * bytes ≤ 140737488355328) (hbase : base ≤ w.heap.size)
    (hK : ∀ v' w', w'.ownsRow base e size v' (n + m) (olds ++ news) → w.grownBy w' v.ownBlock → K (a.put o.dst v') w') :
    if Region.wanted o (yielded ops a.tmps) = true then Oper.wp P o a w K Q else E := by
  have hw : Region.wanted o (yielded ops a.tmps) = true := by simp [Region.wanted, hg]
  rw [if_pos hw]
  obtain ⟨v', w', hrun, r1, r2, _⟩ := run_append_own (P := P) w base t o.type e i z size bytes h1 h2 h3 h4 h5 h6 h7 v n olds hown ad m c news hn hc h1c b1 b2 hbase
  unfold Oper.wp
  simp [execOp, hop, resolve, invoke, builtin, hs, hx, hrun, Result.andThen]
  exact hK v' w' r1 r2
set_option maxRecDepth 100000 in
theorem step_append_byt {ops : Array Oper} {o : Oper} {a : Act} {w : World} {K : Act → World → Prop} {Q : Exit → Act → World → Prop} {E : Prop} (hgd : o.guard = none) (s x : Operand) (ho : o.op = .call { callee := .builtin .append, args := #[s, x], argTypes := #[24, 24] })
    (base : Nat) (v : Value) (k : Nat) (xs : List Value) (hs : a.eval s = v) (hown : w.ownsRow base 5 1 v k xs) (l : List Nat) (ad : Addr) (m c : Nat) (hx : a.eval x = .slice (some ad) m c) (hsrc : Byt w (.slice (some ad) m c) l) (hk : k + l.length ≤ 1000000000000) (hbase : base ≤ w.heap.size)
    (h : ∀ v' w', w'.ownsRow base 5 1 v' (k + l.length) (xs ++ l.map byteV) → w.grownBy w' v.ownBlock → K (a.put o.dst v') w') :
    if Region.wanted o (yielded ops a.tmps) = true then Oper.wp Try.prog o a w K Q else E := by
  obtain ⟨i0, hi, hz0, hz1, hz2⟩ := info_parts info5
  obtain ⟨h8, A, cap, hv, hcap, hcm, b, off, hA, hc⟩ := hsrc
  injection hv with e1 e2 e3
  subst e1 e2 e3
  refine step_append_own hgd s x 24 ho base 5 i0 _ 1 1 Try.underlying24 hi hz0 hz1 hz2 rfl (by decide) v k xs hs hown ad l.length c (l.map byteV) hx (by simp) ?_ (byteV_one l) (by unfold maxLen; omega) (by omega) hbase (fun v' w' h1 h2 => h v' w' h1 h2)
  intro j u hu
  rw [List.getElem?_map] at hu
  obtain ⟨z, hz, rfl⟩ := Option.map_eq_some_iff.1 hu
  have hj := (List.getElem?_eq_some_iff.1 hz).1
  have hA1 := (hA (by omega)).1
  injection hA1 with hA1
  subst hA1
  have e : (⟨b, off, none⟩ : Addr).add j = ⟨b, off + j, none⟩ := by unfold Addr.add; split <;> simp_all
  rw [e]
  exact hc j z hz
theorem boxed_drew {w : World} {g : Nat} {t : TypeId} {v : Value} (h : Boxed w g t v) : Boxed w.drew g t v := h
theorem below_drew {B : Nat} {w w' : World} (h : Below B w w') : Below B w w'.drew := ⟨h.os, h.tape, h.output, h.size, h.block⟩
theorem byt_cells {w : World} {b : Nat} {s : List Nat} {t : TypeId} {fr : Nat × Nat} (h8 : B8 s) (hl : s.length = 8) (h : w.heap[b]? = some (.cells (cSec s).toArray t fr)) : Byt w (.slice (some ⟨b, 0, none⟩) 8 8) s := by
  refine ⟨h8, some ⟨b, 0, none⟩, 8, by rw [hl], by omega, by unfold maxLen; omega, b, 0, fun _ => ⟨rfl, (Array.getElem?_eq_some_iff.1 h).1⟩, fun i x hx => ?_⟩
  rw [Nat.zero_add, cell_of_row _ _ _ _ _ _ h]
  simp [cSec, hx, byteV]
/-- Sectors of eight bytes. -/
def Secs (ll : List (List Nat)) : Prop := ∀ s ∈ ll, s.length = 8 ∧ B8 s
/-- The value v reads as the sectors ll; as the extents; as the writes. -/
def Sec (w : World) (v : Value) (ll : List (List Nat)) : Prop := Secs ll ∧ Arr w v 8 (ll.map cSec)
theorem Sec.below {w w' : World} {v : Value} {ll : List (List Nat)} (h : Sec w v ll) (hb : Below w.heap.size w w') : Sec w' v ll := ⟨h.1, h.2.below hb⟩
theorem sec_form {w : World} {v : Value} {ll : List (List Nat)} (h : Sec w v ll) : ∃ A c, v = .slice A ll.length c := by
  obtain ⟨A, c, e⟩ := arr_form h.2
  rw [List.length_map] at e
  exact ⟨A, c, e⟩
theorem list8 {α : Type} {s : List α} (h : s.length = 8) : ∃ x0 x1 x2 x3 x4 x5 x6 x7, s = [x0, x1, x2, x3, x4, x5, x6, x7] := by
  match s, h with
  | [x0, x1, x2, x3, x4, x5, x6, x7], _ => exact ⟨x0, x1, x2, x3, x4, x5, x6, x7, rfl⟩
/-- Rows of cells, each as CR says of its element. -/
def RowsOf {α : Type} (CR : World → List Value → α → Prop) (w : World) (rows : List (List Value)) (xs : List α) : Prop := rows.length = xs.length ∧ ∀ (i : Nat) (r : List Value) (x : α), rows[i]? = some r → xs[i]? = some x → CR w r x
theorem rowsOf_nil {α : Type} (CR : World → List Value → α → Prop) (w : World) : RowsOf CR w [] [] := ⟨rfl, fun i r x h => by simp at h⟩
theorem rowsOf_snoc {α : Type} {CR : World → List Value → α → Prop} {w : World} {rows : List (List Value)} {xs : List α} {r : List Value} {x : α} (h : RowsOf CR w rows xs) (hx : CR w r x) : RowsOf CR w (rows ++ [r]) (xs ++ [x]) := by
  refine ⟨by simp [h.1], fun i r' x' hr hx' => ?_⟩
  rcases Nat.lt_or_ge i rows.length with hi | hi
  · rw [List.getElem?_append_left hi] at hr
    rw [List.getElem?_append_left (by rw [← h.1]; exact hi)] at hx'
    exact h.2 i r' x' hr hx'
  · rw [List.getElem?_append_right hi] at hr
    rw [List.getElem?_append_right (by rw [← h.1]; exact hi)] at hx'
    rw [← h.1] at hx'
    have hi0 : i - rows.length = 0 := by
      have := (List.getElem?_eq_some_iff.1 hr).1
      simp at this
      omega
    rw [hi0] at hr hx'
    simp at hr hx'
    subst hr hx'
    exact hx
theorem rowsOf_keep {α : Type} {CR : World → List Value → α → Prop} {w w' : World} {rows : List (List Value)} {xs : List α} (hst : ∀ r x, CR w r x → CR w' r x) (h : RowsOf CR w rows xs) : RowsOf CR w' rows xs := ⟨h.1, fun i r x hr hx => hst r x (h.2 i r x hr hx)⟩
/-- What a list is that a call has made. -/
def LV {α : Type} (E : TypeId) (st : Nat) (CR : World → List Value → α → Prop) (w : World) (v : Value) (xs : List α) : Prop := ∃ base rows, w.ownsRow base E st v xs.length rows.flatten ∧ RowsOf CR w rows xs
theorem ownAny_nilOk {E : TypeId} {st base n : Nat} {w : World} {v : Value} {xs : List Value} (h : w.ownsRow base E st v n xs) : NilOk v := by
  rcases h.2 with ⟨rfl, _⟩ | ⟨g, cap, cur, rfl, _⟩
  · exact nilOk_nil
  · exact nilOk_some _ _ _
theorem ownAny_form {E : TypeId} {st base n : Nat} {w : World} {v : Value} {xs : List Value} (h : w.ownsRow base E st v n xs) : ∃ A cap, v = .slice A n cap := by
  rcases h.2 with ⟨rfl, rfl⟩ | ⟨g, cap, cur, rfl, _⟩
  · exact ⟨none, 0, rfl⟩
  · exact ⟨_, _, rfl⟩
theorem CRz {T : TypeId} {w : World} {b : Nat} {cs : List Value} (h : w.heap[b]? = some (.cells cs.toArray T)) : ∀ (j : Nat) (u : Value), cs[j]? = some u → w.cell? ((⟨b, 0, none⟩ : Addr).add j) = some u := fun j u hu => by
  have e : (⟨b, 0, none⟩ : Addr).add j = ⟨b, j, none⟩ := by unfold Addr.add; split <;> simp_all
  rw [e, cell_of_row _ _ _ _ _ _ h]
  simpa using hu
def crSec (_ : World) (r : List Value) (x : List Nat) : Prop := r = cSec x ∧ x.length = 8 ∧ B8 x
theorem info3 : (Try.prog.info? 3).map (fun i => (i.zero, i.size, i.bytes)) = some (some (.int .i64 0), 1, 8) := by kernel_rfl
theorem info41 : (Try.prog.info? 41).map (fun i => (i.zero, i.size, i.bytes)) = some (some (.agg #[.int .u8 0, .int .u8 0, .int .u8 0, .int .u8 0, .int .u8 0, .int .u8 0, .int .u8 0, .int .u8 0]), 8, 8) := by kernel_rfl
theorem info46 : (Try.prog.info? 46).map (fun i => (i.zero, i.size, i.bytes)) = some (some (.agg #[.int .i64 0, .int .i64 0]), 2, 16) := by kernel_rfl
theorem bytes_inj : ∀ {p x : List Nat}, p.map byteV = x.map byteV → p = x
  | [], [], _ => rfl
  | [], _ :: _, h => by simp at h
  | _ :: _, [], h => by simp at h
  | a :: p, b :: x, h => by
    rw [List.map_cons, List.map_cons] at h
    injection h with h1 h2
    unfold byteV at h1
    injection h1 with _ h1
    rw [show a = b by omega, bytes_inj h2]
theorem byt_lit (w : World) (l : List Nat) (h8 : B8 l) (hl : l.length ≤ maxLen) : Byt (w.alloc (.cells (l.map fun (x : Nat) => Value.int .u8 (x : Int)).toArray 5)) (.slice (some ⟨w.heap.size, 0, none⟩) l.length l.length) l := byt_new w l (0, 0) h8 hl
theorem al1B {B : Nat} {w0 w : World} (h : Below B w0 w) (hB : B ≤ w.heap.size) (o : Obj) : Below B w0 (w.alloc o) := h.alloc hB o
theorem flat_getG {α : Type} {st : Nat} {rows : List (List α)} (h : ∀ r ∈ rows, r.length = st) : ∀ {i j : Nat} {r : List α}, rows[i]? = some r → j < st → rows.flatten[i * st + j]? = r[j]? := by
  induction rows with
  | nil => intro i j r hr _; simp at hr
  | cons t rows ih =>
    intro i j r hr hj
    have ht := h t (List.mem_cons_self ..)
    rw [List.flatten_cons]
    rcases i with _ | i
    · simp at hr
      subst hr
      rw [List.getElem?_append_left (by omega)]
      simp
    · rw [List.getElem?_append_right (by rw [ht, Nat.succ_mul]; omega), ht]
      have e : (i + 1) * st + j - st = i * st + j := by rw [Nat.succ_mul]; omega
      rw [e]
      exact ih (fun u hu => h u (List.mem_cons_of_mem _ hu)) (by simpa using hr) hj
theorem arr_at {w : World} {g : Nat} {T : TypeId} {st n c : Nat} {rows : List (List Value)} {fr : Nat × Nat} {cs : Array Value} (h : ∀ r ∈ rows, r.length = st) (hn : n = rows.length) (hc : n ≤ c) (hm : c ≤ maxLen) (hg : w.heap[g]? = some (.cells cs T fr)) (hcs : ∀ (k : Nat) (u : Value), rows.flatten[k]? = some u → cs[k]? = some u) : Arr w (.slice (some ⟨g, 0, none⟩) n c) st rows := by
  subst hn
  refine ⟨_, _, rfl, hc, hm, g, 0, fun _ => ⟨rfl, box_lt hg⟩, fun i r hr j u hu => ?_⟩
  have hj : j < st := by rw [← h r (List.mem_of_getElem? hr)]; exact (List.getElem?_eq_some_iff.1 hu).1
  rw [Nat.zero_add, cell_of_row _ _ _ _ _ _ hg]
  exact hcs _ _ ((flat_getG h hr hj).trans hu)
theorem arr_new (w : World) (T : TypeId) (st n : Nat) (rows : List (List Value)) (cs : Array Value) (h : ∀ r ∈ rows, r.length = st) (hn : n = rows.length) (hm : n ≤ maxLen) (hcs : rows.flatten.toArray = cs) : Arr (w.alloc (.cells cs T)) (.slice (some ⟨w.heap.size, 0, none⟩) n n) st rows :=
  arr_at h hn (Nat.le_refl _) hm (heap_alloc_new w _) (fun k u hu => by rw [← hcs]; simpa using hu)
theorem arr_of_own {E : TypeId} {st base n : Nat} {w : World} {v : Value} {rows : List (List Value)} (ho : w.ownsRow base E st v n rows.flatten) (hn : rows.length = n) (hr : ∀ r ∈ rows, r.length = st) : Arr w v st rows := by
  rcases ho.2 with ⟨rfl, h0⟩ | ⟨g, cap, cur, rfl, _, hg, hc, hm, hs, ht⟩
  · obtain rfl : rows = [] := List.eq_nil_of_length_eq_zero (by omega)
    exact arr_nil _ _
  · refine arr_at hr hn.symm hc hm hg (fun k u hu => ?_)
    rw [← ht, List.getElem?_take] at hu
    split at hu
    · simpa using hu
    · cases hu
theorem lv_arr {α : Type} {E : TypeId} {st : Nat} {CR : World → List Value → α → Prop} {w : World} {v : Value} {xs : List α} (cX : α → List Value) (hcr : ∀ r x, CR w r x → r = cX x ∧ r.length = st) (h : LV E st CR w v xs) : Arr w v st (xs.map cX) := by
  obtain ⟨base, rows, ho, hl, hr⟩ := h
  have he : rows = xs.map cX := by
    apply List.ext_getElem?
    intro i
    rw [List.getElem?_map]
    rcases Nat.lt_or_ge i rows.length with hi | hi
    · obtain ⟨x, hx⟩ : ∃ x, xs[i]? = some x := ⟨xs[i]'(by omega), List.getElem?_eq_getElem (by omega)⟩
      rw [hx, List.getElem?_eq_getElem hi]
      exact congrArg some (hcr _ _ (hr i _ x (List.getElem?_eq_getElem hi) hx)).1
    · rw [List.getElem?_eq_none hi, List.getElem?_eq_none (by omega)]
      rfl
  rw [← he]
  refine arr_of_own ho hl (fun r hr' => ?_)
  obtain ⟨i, hi⟩ := List.mem_iff_getElem?.1 hr'
  have hil := (List.getElem?_eq_some_iff.1 hi).1
  exact (hcr _ _ (hr i r (xs[i]'(by omega)) hi (List.getElem?_eq_getElem (by omega)))).2
theorem sec_of_lv {w : World} {v : Value} {xs : List (List Nat)} (h : LV 41 8 crSec w v xs) : Sec w v xs := by
  refine ⟨fun s hs => ?_, lv_arr cSec (fun r x hr => ⟨hr.1, by rw [hr.1]; unfold cSec; rw [List.length_map]; exact hr.2.1⟩) h⟩
  obtain ⟨base, rows, _, hl, hr⟩ := h
  obtain ⟨i, hi⟩ := List.mem_iff_getElem?.1 hs
  have hil := (List.getElem?_eq_some_iff.1 hi).1
  exact (hr i (rows[i]'(by omega)) s (List.getElem?_eq_getElem (by omega)) hi).2
def SaysB (b : Bool) (w : World) (e : Ending) (w' : World) : Prop := e = .returned (.bool b) ∧ Below w.heap.size w w'
def SaysQ (b : Bool) (w : World) (e : Ending) (w' : World) : Prop := e = .returned (.bool b) ∧ ∃ m, w' = w.drewN m
theorem saysQ_B {b : Bool} {w w' : World} {e : Ending} (h : SaysQ b w e w') : SaysB b w e w' := by
  obtain ⟨rfl, m, rfl⟩ := h
  exact ⟨rfl, rfl, rfl, rfl, Nat.le_refl _, fun _ _ => rfl⟩
theorem cell_byte {x : Nat} (h : x < 256) : Extern.Stop.cell (UInt8.ofNat x) = byteV x := by
  unfold Extern.Stop.cell byteV
  rw [UInt8.toNat_ofNat', Nat.mod_eq_of_lt h]
  rfl
theorem map_cells {l : List Nat} (h : B8 l) : (l.map UInt8.ofNat).map Extern.Stop.cell = l.map byteV := by
  rw [List.map_map]
  exact List.map_congr_left (fun x hx => cell_byte (h x hx))
theorem size5 (w : World) : (sizeOf 5).run Try.prog w = .ok 1 w := by kernel_rfl
theorem map_u8_inj {l m : List Nat} (hl : B8 l) (hm : B8 m) : (l.map UInt8.ofNat == m.map UInt8.ofNat) = (l == m) := by
  rw [Bool.eq_iff_iff, beq_iff_eq, beq_iff_eq]
  refine ⟨fun h => ?_, fun h => by rw [h]⟩
  have h2 := congrArg (List.map UInt8.toNat) h
  rw [List.map_map, List.map_map] at h2
  have e : ∀ k : List Nat, B8 k → k.map (UInt8.toNat ∘ UInt8.ofNat) = k := fun k hk => by
    conv => rhs; rw [← List.map_id k]
    exact List.map_congr_left (fun x hx => by
      show (UInt8.ofNat x).toNat = x
      rw [UInt8.toNat_ofNat', Nat.mod_eq_of_lt (hk x hx)])
  rw [e l hl, e m hm] at h2
  exact h2
theorem eql_bytes (t n : Nat) (ht : Try.prog.underlying t = some (.array n 5)) (l m : List Nat) (hl : B8 l) (hm : B8 m) (h1 : l.length = n) (h2 : m.length = n) (w : World) :
    (Op.equalIn 10000 t (.agg (l.map byteV).toArray) (.agg (m.map byteV).toArray)).run Try.prog w = .ok (l == m) w := by
  have h := run_equalIn_bytes (P := Try.prog) w 9998 t 5 n ht Try.underlying5 size5 (l.map UInt8.ofNat) (m.map UInt8.ofNat) (by rw [List.length_map]; exact h1) (by rw [List.length_map]; exact h2)
  rw [map_cells hl, map_cells hm, map_u8_inj hl hm] at h
  exact h
theorem eql_sec (x y : List Nat) (hx : x.length = 8) (hy : y.length = 8) (h8 : B8 x) (h8' : B8 y) (W : World) : (Op.equalIn 10000 41 (.agg (cSec x).toArray) (.agg (cSec y).toArray)).run Try.prog W = .ok (decide (x = y)) W := by
  have h := eql_bytes 41 8 Try.underlying41 x y h8 h8' hx hy W
  have e : (x == y) = decide (x = y) := by rw [Bool.eq_iff_iff]; simp
  rw [e] at h
  exact h
set_option maxHeartbeats 2000000 in
set_option maxRecDepth 100000 in
theorem eqSame_any (xs ys : List (List Nat)) (v u : Value) (w : World) (hv : Arr w v 8 (xs.map cSec)) (hu : Arr w u 8 (ys.map cSec)) (hok1 : Secs xs) (hok2 : Secs ys) :
    Calls Try.prog 17 #[v, u] w (SaysQ (decide (xs = ys)) w) := by
  obtain ⟨C1, k1, rfl, hcap1, hcm1, b1, o1, hA1, hc1⟩ := hv
  obtain ⟨C2, k2, rfl, hcap2, hcm2, b2, o2, hA2, hc2⟩ := hu
  unfold maxLen at hcm1 hcm2
  rw [List.length_map] at hcap1 hA1 hcap2 hA2 ⊢
  rw [List.length_map]
  have HC1 := hid hc1
  have HC2 := hid hc2
  have HOK1 := hid hok1
  have HOK2 := hid hok2
  clear hok1 hok2
  clear hc1 hc2
  by_cases hlen : xs.length = ys.length
  · have d1 : ((xs.length : Int) != (ys.length : Int)) = false := by rw [hlen]; simp
    have HLEN := hid hlen
    clear hlen
    go_enter Try.func17, Try.ntmps17
    go_wp2
    go_loopw [5] (fun i wr => ∃ k : Nat, k ≤ xs.length ∧ i = .int .i64 (k : Int) ∧ Hid (xs.take k = ys.take k) ∧ ∃ q, wr = w.drewN q) (fun i _ => xs.length - (Go.RowKit.intOf i).toNat)
    case atStart => exact ⟨0, by omega, rfl, hid (by simp), 0, rfl⟩
    case round =>
      obtain ⟨k, hk, rfl, HT, q, rfl⟩ := hrel
      by_cases hkl : k < xs.length
      · have hl2 : k < ys.length := by have := HLEN.out; omega
        obtain ⟨e1, hb1⟩ := hA1 (by omega)
        obtain ⟨e2, hb2⟩ := hA2 (by omega)
        subst e1 e2
        obtain ⟨x, hx⟩ : ∃ x, xs[k]? = some x := ⟨xs[k], List.getElem?_eq_getElem hkl⟩
        obtain ⟨y, hy⟩ : ∃ y, ys[k]? = some y := ⟨ys[k], List.getElem?_eq_getElem hl2⟩
        have hr1 : ∀ (j : Nat) (z : Value), (cSec x)[j]? = some z → w.cell? ⟨b1, o1 + k * 8 + j, none⟩ = some z := fun j z hz => HC1.out k _ (by rw [List.getElem?_map, hx]; rfl) j z hz
        have hr2 : ∀ (j : Nat) (z : Value), (cSec y)[j]? = some z → w.cell? ⟨b2, o2 + k * 8 + j, none⟩ = some z := fun j z hz => HC2.out k _ (by rw [List.getElem?_map, hy]; rfl) j z hz
        have hnext : x = y → xs.take (k + 1) = ys.take (k + 1) := fun h => by
          obtain ⟨h1, h3⟩ := List.getElem?_eq_some_iff.1 hx
          obtain ⟨h2, h4⟩ := List.getElem?_eq_some_iff.1 hy
          rw [List.take_succ_eq_append_getElem h1, List.take_succ_eq_append_getElem h2, HT.out, h3, h4, h]
        have hdiff : x ≠ y → decide (xs = ys) = false := fun h => decide_eq_false (fun e => by rw [e, hy] at hx; injection hx with hx; exact h hx.symm)
        have hxo := HOK1.out _ (List.mem_of_getElem? hx)
        have hyo := HOK2.out _ (List.mem_of_getElem? hy)
        obtain ⟨x0, x1, x2, x3, x4, x5, x6, x7, rfl⟩ := list8 hxo.1
        obtain ⟨y0, y1, y2, y3, y4, y5, y6, y7, rfl⟩ := list8 hyo.1
        have heq := fun (W : World) => eql_sec [x0, x1, x2, x3, x4, x5, x6, x7] [y0, y1, y2, y3, y4, y5, y6, y7] rfl rfl hxo.2 hyo.2 W
        have q0 : w.cell? ⟨b1, o1 + k * 8 + 0, none⟩ = some (.int .u8 (x0 : Int)) := hr1 0 _ rfl
        have p0 : w.cell? ⟨b2, o2 + k * 8 + 0, none⟩ = some (.int .u8 (y0 : Int)) := hr2 0 _ rfl
        have q1 : w.cell? ⟨b1, o1 + k * 8 + 1, none⟩ = some (.int .u8 (x1 : Int)) := hr1 1 _ rfl
        have p1 : w.cell? ⟨b2, o2 + k * 8 + 1, none⟩ = some (.int .u8 (y1 : Int)) := hr2 1 _ rfl
        have q2 : w.cell? ⟨b1, o1 + k * 8 + 2, none⟩ = some (.int .u8 (x2 : Int)) := hr1 2 _ rfl
        have p2 : w.cell? ⟨b2, o2 + k * 8 + 2, none⟩ = some (.int .u8 (y2 : Int)) := hr2 2 _ rfl
        have q3 : w.cell? ⟨b1, o1 + k * 8 + 3, none⟩ = some (.int .u8 (x3 : Int)) := hr1 3 _ rfl
        have p3 : w.cell? ⟨b2, o2 + k * 8 + 3, none⟩ = some (.int .u8 (y3 : Int)) := hr2 3 _ rfl
        have q4 : w.cell? ⟨b1, o1 + k * 8 + 4, none⟩ = some (.int .u8 (x4 : Int)) := hr1 4 _ rfl
        have p4 : w.cell? ⟨b2, o2 + k * 8 + 4, none⟩ = some (.int .u8 (y4 : Int)) := hr2 4 _ rfl
        have q5 : w.cell? ⟨b1, o1 + k * 8 + 5, none⟩ = some (.int .u8 (x5 : Int)) := hr1 5 _ rfl
        have p5 : w.cell? ⟨b2, o2 + k * 8 + 5, none⟩ = some (.int .u8 (y5 : Int)) := hr2 5 _ rfl
        have q6 : w.cell? ⟨b1, o1 + k * 8 + 6, none⟩ = some (.int .u8 (x6 : Int)) := hr1 6 _ rfl
        have p6 : w.cell? ⟨b2, o2 + k * 8 + 6, none⟩ = some (.int .u8 (y6 : Int)) := hr2 6 _ rfl
        have q7 : w.cell? ⟨b1, o1 + k * 8 + 7, none⟩ = some (.int .u8 (x7 : Int)) := hr1 7 _ rfl
        have p7 : w.cell? ⟨b2, o2 + k * 8 + 7, none⟩ = some (.int .u8 (y7 : Int)) := hr2 7 _ rfl
        rw [Nat.add_zero] at q0 p0
        obtain ⟨bb, hbb⟩ : ∃ bb, decide ([x0, x1, x2, x3, x4, x5, x6, x7] = [y0, y1, y2, y3, y4, y5, y6, y7]) = bb := ⟨_, rfl⟩
        rw [hbb] at heq
        have heq2 : ∀ W : World, (Op.equalIn 10000 41 (.agg #[.int .u8 (x0 : Int), .int .u8 (x1 : Int), .int .u8 (x2 : Int), .int .u8 (x3 : Int), .int .u8 (x4 : Int), .int .u8 (x5 : Int), .int .u8 (x6 : Int), .int .u8 (x7 : Int)]) (.agg #[.int .u8 (y0 : Int), .int .u8 (y1 : Int), .int .u8 (y2 : Int), .int .u8 (y3 : Int), .int .u8 (y4 : Int), .int .u8 (y5 : Int), .int .u8 (y6 : Int), .int .u8 (y7 : Int)])).run Try.prog W = .ok bb W := heq
        clear heq hxo hyo
        clear hr1 hr2 hx hy
        by_cases hxy : bb = true
        · have HN := hid (hnext (of_decide_eq_true (hbb.trans hxy)))
          subst hxy
          clear hbb
          clear hnext hdiff
          go_wp2_with fail
          go_quiet (fail)
          go_wp2
          go_roundw
          case rel => exact ⟨k + 1, by omega, by go_num, HN, _, rfl⟩
          case measure => simp [Go.RowKit.intOf]; omega
        · have HD := hid (hdiff (of_decide_eq_false (hbb.trans (by simpa using hxy))))
          have hxf : bb = false := by simpa using hxy
          subst hxf
          clear hbb hxy
          clear hnext hdiff
          go_wp2_with fail
          go_quiet (fail)
          go_wp2
          go_ret
          exact ⟨(congrArg (fun b => Ending.returned (Value.bool b)) HD.out).symm, q + nq, by simp⟩
      · obtain rfl : k = xs.length := by omega
        have hall : xs = ys := by have h := HT.out; rwa [List.take_length, HLEN.out, List.take_length] at h
        have HD := hid (decide_eq_true hall)
        clear hall
        go_wp2
        go_ret
        exact ⟨(congrArg (fun b => Ending.returned (Value.bool b)) HD.out).symm, _, rfl⟩
  · have d1 : ((xs.length : Int) != (ys.length : Int)) = true := by rw [bne_iff_ne]; omega
    have HD : Hid (decide (xs = ys) = false) := hid (decide_eq_false (fun e => hlen (by rw [e])))
    clear hlen
    go_enter Try.func17, Try.ntmps17
    go_wp2
    go_ret
    exact ⟨(congrArg (fun b => Ending.returned (Value.bool b)) HD.out).symm, 0, rfl⟩
end Go.Proofs.Ytielamoaghibgaa
