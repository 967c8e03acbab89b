/- Rows of cells that an argument reads as; sectors, extents, numbers. -/
import Derived.Test.YtbcnikmhodkbfaaRows
import Derived.Outline
import Derived.WalkKit
import Derived.LoopTactic
import Derived.Laws.BitsAllLaws
import Derived.Deep.QuietTactic
import Derived.BigQuiet
import Derived.RegionTactic
import Derived.Below
import Derived.Lib.Hide
import Derived.Deep.Draws
import Derived.OwnWalk
import Derived.Laws.AppendOwnNone
import Derived.Laws.OwnMore
import Derived.OneCell
import Derived.Deep.RegionLawGrows
import Derived.Stop.BytesEq
namespace Go.Proofs.Ytbcnikmhodkbfaa
open Go.RowKit Go.Lib
abbrev Sect := List Nat
def B8 (l : List Nat) : Prop := ∀ x ∈ l, x < 256
theorem B8.append {a b : List Nat} (ha : B8 a) (hb : B8 b) : B8 (a ++ b) := fun x hx => (List.mem_append.1 hx).elim (ha x) (hb x)
theorem und51 : Try.prog.underlying 51 = some (.struct (Try.prog.fieldsOf 51)) := by kernel_rfl
theorem al1 (w : World) (o : Obj) : Below w.heap.size w (w.alloc o) := (Below.refl _ w).alloc (Nat.le_refl _) _
theorem below_both {w w1 w2 : World} (h1 : Below w.heap.size w w1) (h2 : Below w1.heap.size w1 w2) : Below w.heap.size w w2 := h1.trans (h2.mono h1.size)
def byteV (x : Nat) : Value := .int .u8 (x : Int)
theorem info5 : (Try.prog.info? 5).map (fun i => (i.zero, i.size, i.bytes)) = some (some (.int .u8 0), 1, 1) := by kernel_rfl
theorem byteV_one (l : List Nat) : ∀ u ∈ l.map byteV, u.oneCell' = true := fun u hu => by
  obtain ⟨x, _, rfl⟩ := List.mem_map.1 hu
  rfl
def NilOk (v : Value) : Prop := ∀ n c, v = .slice none n c → c = 0
theorem nilOk_some (a : Addr) (n c : Nat) : NilOk (.slice (some a) n c) := fun n c h => by injection h with h; cases h
theorem nilOk_nil : NilOk (.slice none 0 0) := fun n c h => by injection h with _ _ h; exact h.symm
theorem box_lt {w : World} {g : Nat} {o : Obj} (h : w.heap[g]? = some o) : g < w.heap.size := (Array.getElem?_eq_some_iff.1 h).1
theorem box_fr {w : World} {g : Nat} {cs : Array Value} {t : TypeId} (h : w.heap[g]? = some (.cells cs t)) (i : Nat) : w.frozen? ⟨g, i, none⟩ = false := by
  unfold World.frozen?
  rw [h]
  simp
/-- Blocks with cells of type T are as they were. -/
def Keep (T : TypeId) (w w' : World) : Prop := ∀ (k : Nat) (cs : Array Value), w.heap[k]? = some (.cells cs T) → w'.heap[k]? = some (.cells cs T)
theorem Keep.trans {T : TypeId} {a b c : World} (h : Keep T a b) (k : Keep T b c) : Keep T a c := fun i cs hi => k i cs (h i cs hi)
theorem keep_below {T : TypeId} {a b : World} (h : Below a.heap.size a b) : Keep T a b := fun i _ hi => (h.block i (box_lt hi)).trans hi
theorem keep_grown {T E : TypeId} {st base n : Nat} {a b : World} {v : Value} {xs : List Value} (ho : a.ownsRow base E st v n xs) (hT : T ≠ E) (hg : a.grownBy b v.ownBlock) : Keep T a b := fun i cs hi => by
  refine (hg.block i (box_lt hi) ?_).trans hi
  rcases ho.2 with ⟨rfl, _⟩ | ⟨k, cap, cur, rfl, _, hgb, _⟩
  · simp [Value.ownBlock]
  · intro e
    obtain rfl : i = k := by simpa [Value.ownBlock] using e
    have := hi.symm.trans hgb
    simp at this
    exact hT this.2
theorem own_keep {T : TypeId} {st base n : Nat} {a b : World} {v : Value} {xs : List Value} (ho : a.ownsRow base T st v n xs) (h : Keep T a b) : b.ownsRow base T st v n xs := by
  refine ⟨ho.1, ?_⟩
  rcases ho.2 with h0 | ⟨k, cap, cur, e, hb, hgb, h2⟩
  · exact .inl h0
  · exact .inr ⟨k, cap, cur, e, hb, h _ _ hgb, h2⟩
/-- The slice value v reads as rows of st cells each. -/
def Arr (w : World) (v : Value) (st : Nat) (rows : List (List Value)) : Prop :=
  ∃ A cap, v = .slice A rows.length cap ∧ rows.length ≤ cap ∧ cap ≤ maxLen ∧ ∃ b off, (0 < rows.length → A = some ⟨b, off, none⟩ ∧ b < w.heap.size) ∧ ∀ (i : Nat) (r : List Value), rows[i]? = some r → ∀ (j : Nat) (u : Value), r[j]? = some u → w.cell? ⟨b, off + i * st + j, none⟩ = some u
theorem Arr.below {w w' : World} {v : Value} {st : Nat} {rows : List (List Value)} (h : Arr w v st rows) (hb : Below w.heap.size w w') : Arr w' v st rows := by
  obtain ⟨A, cap, e, h1, h2, b, off, hA, hc⟩ := h
  refine ⟨A, cap, e, h1, h2, b, off, fun h => ⟨(hA h).1, Nat.lt_of_lt_of_le (hA h).2 hb.size⟩, fun i r hi j u hj => ?_⟩
  have hl := (List.getElem?_eq_some_iff.1 hi).1
  exact (hb.cell (p := ⟨b, _, none⟩) (hA (by omega)).2).trans (hc i r hi j u hj)
theorem arr_form {w : World} {v : Value} {st : Nat} {rows : List (List Value)} (h : Arr w v st rows) : ∃ A cap, v = .slice A rows.length cap := by
  obtain ⟨A, cap, e, _⟩ := h
  exact ⟨A, cap, e⟩
theorem arr_nil (w : World) (st : Nat) : Arr w (.slice none 0 0) st [] := ⟨none, 0, rfl, Nat.le_refl _, by unfold maxLen; omega, 0, 0, fun h => absurd h (by simp), fun i r h => by simp at h⟩
/-- The cells of an int, a sector, an extent. -/
def cInt (x : Int) : List Value := [.int .i64 x]
def cSec (s : List Nat) : List Value := s.map byteV
def cExt (e : Int × Int) : List Value := [.int .i64 e.1, .int .i64 e.2]
theorem below_drew {B : Nat} {w w' : World} (h : Below B w w') : Below B w w'.drew := ⟨h.os, h.tape, h.output, h.size, h.block⟩
/-- Sectors of eight bytes. -/
def Secs (ll : List (List Nat)) : Prop := ∀ s ∈ ll, s.length = 8 ∧ B8 s
/-- The value v reads as the sectors ll; as the extents; as the writes. -/
def Sec (w : World) (v : Value) (ll : List (List Nat)) : Prop := Secs ll ∧ Arr w v 8 (ll.map cSec)
theorem Sec.below {w w' : World} {v : Value} {ll : List (List Nat)} (h : Sec w v ll) (hb : Below w.heap.size w w') : Sec w' v ll := ⟨h.1, h.2.below hb⟩
theorem sec_form {w : World} {v : Value} {ll : List (List Nat)} (h : Sec w v ll) : ∃ A c, v = .slice A ll.length c := by
  obtain ⟨A, c, e⟩ := arr_form h.2
  rw [List.length_map] at e
  exact ⟨A, c, e⟩
theorem list8 {α : Type} {s : List α} (h : s.length = 8) : ∃ x0 x1 x2 x3 x4 x5 x6 x7, s = [x0, x1, x2, x3, x4, x5, x6, x7] := by
  match s, h with
  | [x0, x1, x2, x3, x4, x5, x6, x7], _ => exact ⟨x0, x1, x2, x3, x4, x5, x6, x7, rfl⟩
/-- Rows of cells, each as CR says of its element. -/
def RowsOf {α : Type} (CR : World → List Value → α → Prop) (w : World) (rows : List (List Value)) (xs : List α) : Prop := rows.length = xs.length ∧ ∀ (i : Nat) (r : List Value) (x : α), rows[i]? = some r → xs[i]? = some x → CR w r x
theorem rowsOf_nil {α : Type} (CR : World → List Value → α → Prop) (w : World) : RowsOf CR w [] [] := ⟨rfl, fun i r x h => by simp at h⟩
theorem rowsOf_snoc {α : Type} {CR : World → List Value → α → Prop} {w : World} {rows : List (List Value)} {xs : List α} {r : List Value} {x : α} (h : RowsOf CR w rows xs) (hx : CR w r x) : RowsOf CR w (rows ++ [r]) (xs ++ [x]) := by
  refine ⟨by simp [h.1], fun i r' x' hr hx' => ?_⟩
  rcases Nat.lt_or_ge i rows.length with hi | hi
  · rw [List.getElem?_append_left hi] at hr
    rw [List.getElem?_append_left (by rw [← h.1]; exact hi)] at hx'
    exact h.2 i r' x' hr hx'
  · rw [List.getElem?_append_right hi] at hr
    rw [List.getElem?_append_right (by rw [← h.1]; exact hi)] at hx'
    rw [← h.1] at hx'
    have hi0 : i - rows.length = 0 := by
      have := (List.getElem?_eq_some_iff.1 hr).1
      simp at this
      omega
    rw [hi0] at hr hx'
    simp at hr hx'
    subst hr hx'
    exact hx
theorem rowsOf_keep {α : Type} {CR : World → List Value → α → Prop} {w w' : World} {rows : List (List Value)} {xs : List α} (hst : ∀ r x, CR w r x → CR w' r x) (h : RowsOf CR w rows xs) : RowsOf CR w' rows xs := ⟨h.1, fun i r x hr hx => hst r x (h.2 i r x hr hx)⟩
/-- What a list is that a call has made. -/
def LV {α : Type} (E : TypeId) (st : Nat) (CR : World → List Value → α → Prop) (w : World) (v : Value) (xs : List α) : Prop := ∃ base rows, w.ownsRow base E st v xs.length rows.flatten ∧ RowsOf CR w rows xs
theorem ownAny_nilOk {E : TypeId} {st base n : Nat} {w : World} {v : Value} {xs : List Value} (h : w.ownsRow base E st v n xs) : NilOk v := by
  rcases h.2 with ⟨rfl, _⟩ | ⟨g, cap, cur, rfl, _⟩
  · exact nilOk_nil
  · exact nilOk_some _ _ _
theorem ownAny_form {E : TypeId} {st base n : Nat} {w : World} {v : Value} {xs : List Value} (h : w.ownsRow base E st v n xs) : ∃ A cap, v = .slice A n cap := by
  rcases h.2 with ⟨rfl, rfl⟩ | ⟨g, cap, cur, rfl, _⟩
  · exact ⟨none, 0, rfl⟩
  · exact ⟨_, _, rfl⟩
def crSec (_ : World) (r : List Value) (x : List Nat) : Prop := r = cSec x ∧ x.length = 8 ∧ B8 x
theorem info3 : (Try.prog.info? 3).map (fun i => (i.zero, i.size, i.bytes)) = some (some (.int .i64 0), 1, 8) := by kernel_rfl
theorem info58 : (Try.prog.info? 58).map (fun i => (i.zero, i.size, i.bytes)) = some (some (.agg #[.int .u8 0, .int .u8 0, .int .u8 0, .int .u8 0, .int .u8 0, .int .u8 0, .int .u8 0, .int .u8 0]), 8, 8) := by kernel_rfl
theorem info51 : (Try.prog.info? 51).map (fun i => (i.zero, i.size, i.bytes)) = some (some (.agg #[.int .i64 0, .int .i64 0]), 2, 16) := by kernel_rfl
theorem bytes_inj : ∀ {p x : List Nat}, p.map byteV = x.map byteV → p = x
  | [], [], _ => rfl
  | [], _ :: _, h => by simp at h
  | _ :: _, [], h => by simp at h
  | a :: p, b :: x, h => by
    rw [List.map_cons, List.map_cons] at h
    injection h with h1 h2
    unfold byteV at h1
    injection h1 with _ h1
    rw [show a = b by omega, bytes_inj h2]
theorem al1B {B : Nat} {w0 w : World} (h : Below B w0 w) (hB : B ≤ w.heap.size) (o : Obj) : Below B w0 (w.alloc o) := h.alloc hB o
theorem flat_getG {α : Type} {st : Nat} {rows : List (List α)} (h : ∀ r ∈ rows, r.length = st) : ∀ {i j : Nat} {r : List α}, rows[i]? = some r → j < st → rows.flatten[i * st + j]? = r[j]? := by
  induction rows with
  | nil => intro i j r hr _; simp at hr
  | cons t rows ih =>
    intro i j r hr hj
    have ht := h t (List.mem_cons_self ..)
    rw [List.flatten_cons]
    rcases i with _ | i
    · simp at hr
      subst hr
      rw [List.getElem?_append_left (by omega)]
      simp
    · rw [List.getElem?_append_right (by rw [ht, Nat.succ_mul]; omega), ht]
      have e : (i + 1) * st + j - st = i * st + j := by rw [Nat.succ_mul]; omega
      rw [e]
      exact ih (fun u hu => h u (List.mem_cons_of_mem _ hu)) (by simpa using hr) hj
theorem arr_at {w : World} {g : Nat} {T : TypeId} {st n c : Nat} {rows : List (List Value)} {fr : Nat × Nat} {cs : Array Value} (h : ∀ r ∈ rows, r.length = st) (hn : n = rows.length) (hc : n ≤ c) (hm : c ≤ maxLen) (hg : w.heap[g]? = some (.cells cs T fr)) (hcs : ∀ (k : Nat) (u : Value), rows.flatten[k]? = some u → cs[k]? = some u) : Arr w (.slice (some ⟨g, 0, none⟩) n c) st rows := by
  subst hn
  refine ⟨_, _, rfl, hc, hm, g, 0, fun _ => ⟨rfl, box_lt hg⟩, fun i r hr j u hu => ?_⟩
  have hj : j < st := by rw [← h r (List.mem_of_getElem? hr)]; exact (List.getElem?_eq_some_iff.1 hu).1
  rw [Nat.zero_add, cell_of_row _ _ _ _ _ _ hg]
  exact hcs _ _ ((flat_getG h hr hj).trans hu)
theorem arr_new (w : World) (T : TypeId) (st n : Nat) (rows : List (List Value)) (cs : Array Value) (h : ∀ r ∈ rows, r.length = st) (hn : n = rows.length) (hm : n ≤ maxLen) (hcs : rows.flatten.toArray = cs) : Arr (w.alloc (.cells cs T)) (.slice (some ⟨w.heap.size, 0, none⟩) n n) st rows :=
  arr_at h hn (Nat.le_refl _) hm (heap_alloc_new w _) (fun k u hu => by rw [← hcs]; simpa using hu)
theorem arr_of_own {E : TypeId} {st base n : Nat} {w : World} {v : Value} {rows : List (List Value)} (ho : w.ownsRow base E st v n rows.flatten) (hn : rows.length = n) (hr : ∀ r ∈ rows, r.length = st) : Arr w v st rows := by
  rcases ho.2 with ⟨rfl, h0⟩ | ⟨g, cap, cur, rfl, _, hg, hc, hm, hs, ht⟩
  · obtain rfl : rows = [] := List.eq_nil_of_length_eq_zero (by omega)
    exact arr_nil _ _
  · refine arr_at hr hn.symm hc hm hg (fun k u hu => ?_)
    rw [← ht, List.getElem?_take] at hu
    split at hu
    · simpa using hu
    · cases hu
def SaysB (b : Bool) (w : World) (e : Ending) (w' : World) : Prop := e = .returned (.bool b) ∧ Below w.heap.size w w'
def SaysQ (b : Bool) (w : World) (e : Ending) (w' : World) : Prop := e = .returned (.bool b) ∧ ∃ m, w' = w.drewN m
theorem saysQ_B {b : Bool} {w w' : World} {e : Ending} (h : SaysQ b w e w') : SaysB b w e w' := by
  obtain ⟨rfl, m, rfl⟩ := h
  exact ⟨rfl, rfl, rfl, rfl, Nat.le_refl _, fun _ _ => rfl⟩
theorem cell_byte {x : Nat} (h : x < 256) : Extern.Stop.cell (UInt8.ofNat x) = byteV x := by
  unfold Extern.Stop.cell byteV
  rw [UInt8.toNat_ofNat', Nat.mod_eq_of_lt h]
  rfl
theorem map_cells {l : List Nat} (h : B8 l) : (l.map UInt8.ofNat).map Extern.Stop.cell = l.map byteV := by
  rw [List.map_map]
  exact List.map_congr_left (fun x hx => cell_byte (h x hx))
theorem size5 (w : World) : (sizeOf 5).run Try.prog w = .ok 1 w := by kernel_rfl
theorem map_u8_inj {l m : List Nat} (hl : B8 l) (hm : B8 m) : (l.map UInt8.ofNat == m.map UInt8.ofNat) = (l == m) := by
  rw [Bool.eq_iff_iff, beq_iff_eq, beq_iff_eq]
  refine ⟨fun h => ?_, fun h => by rw [h]⟩
  have h2 := congrArg (List.map UInt8.toNat) h
  rw [List.map_map, List.map_map] at h2
  have e : ∀ k : List Nat, B8 k → k.map (UInt8.toNat ∘ UInt8.ofNat) = k := fun k hk => by
    conv => rhs; rw [← List.map_id k]
    exact List.map_congr_left (fun x hx => by
      show (UInt8.ofNat x).toNat = x
      rw [UInt8.toNat_ofNat', Nat.mod_eq_of_lt (hk x hx)])
  rw [e l hl, e m hm] at h2
  exact h2
theorem eql_bytes (t n : Nat) (ht : Try.prog.underlying t = some (.array n 5)) (l m : List Nat) (hl : B8 l) (hm : B8 m) (h1 : l.length = n) (h2 : m.length = n) (w : World) :
    (Op.equalIn 10000 t (.agg (l.map byteV).toArray) (.agg (m.map byteV).toArray)).run Try.prog w = .ok (l == m) w := by
  have h := run_equalIn_bytes (P := Try.prog) w 9998 t 5 n ht Try.underlying5 size5 (l.map UInt8.ofNat) (m.map UInt8.ofNat) (by rw [List.length_map]; exact h1) (by rw [List.length_map]; exact h2)
  rw [map_cells hl, map_cells hm, map_u8_inj hl hm] at h
  exact h
theorem flat_cells {l : List Sect} (h : Secs l) : (l.map cSec).flatten.length = 8 * l.length := by
  induction l with
  | nil => rfl
  | cons a l ih =>
    rw [List.map_cons, List.flatten_cons, List.length_append, ih (fun s hs => h s (List.mem_cons_of_mem _ hs)), List.length_cons]
    have := (h a (List.mem_cons_self ..)).1
    unfold cSec
    rw [List.length_map]
    omega
theorem cells_one (l : List Sect) : ∀ u ∈ (l.map cSec).flatten, u.oneCell' = true := fun u hu => by
  obtain ⟨x, hx, hu⟩ := List.mem_flatten.1 hu
  obtain ⟨s, _, rfl⟩ := List.mem_map.1 hx
  exact byteV_one s u hu
theorem add_at' (b k : Nat) : (⟨b, 0, none⟩ : Addr).add k = ⟨b, k, none⟩ := by unfold Addr.add; split <;> simp_all
theorem own_base {w : World} {base base' E st n : Nat} {v : Value} {xs : List Value} (h : w.ownsRow base E st v n xs) (hb : base' ≤ base) : w.ownsRow base' E st v n xs :=
  ⟨h.1, h.2.imp id fun ⟨g, cap, cur, e, hg, r⟩ => ⟨g, cap, cur, e, by omega, r⟩⟩
theorem sec_of_own {w : World} {base : Nat} {v : Value} {l : List Sect} (h : w.ownsRow base 58 8 v l.length (l.map cSec).flatten) (hl : Secs l) : Sec w v l := by
  refine ⟨hl, ?_⟩
  have h' : w.ownsRow base 58 8 v (l.map cSec).length (l.map cSec).flatten := by rw [List.length_map]; exact h
  exact arr_of_own h' rfl (fun r hr => by
    obtain ⟨s, hs, rfl⟩ := List.mem_map.1 hr
    unfold cSec
    rw [List.length_map]
    exact (hl s hs).1)
theorem und58 : Try.prog.underlying 58 = some (.array 8 5) := by kernel_rfl
theorem size58 : (Try.prog.info? 58).map (·.size) = some 8 := by kernel_rfl
theorem eql_ext (a b c d : Int) (W : World) : (Op.equalIn 10000 51 (.agg #[.int .i64 a, .int .i64 b]) (.agg #[.int .i64 c, .int .i64 d])).run Try.prog W = .ok (decide (((a, b) : Int × Int) = (c, d))) W := by
  rw [run_equalIn_struct W 9999 51 _ _ und51 (by kernel_rfl)]
  have hf : (Try.prog.fieldsOf 51).toList = [{ name := "Start", type := 3, offset := 0, embedded := false, tag := "", pkgPath := "", byteOffset := 0 }, { name := "Count", type := 3, offset := 1, embedded := false, tag := "", pkgPath := "", byteOffset := 8 }] := by kernel_rfl
  rw [hf]
  simp [Op.eqFields, go_sem]
  by_cases h1 : a = c <;> by_cases h2 : b = d <;> simp [h1, h2]
theorem eql_sec (x y : List Nat) (hx : x.length = 8) (hy : y.length = 8) (h8 : B8 x) (h8' : B8 y) (W : World) : (Op.equalIn 10000 58 (.agg (cSec x).toArray) (.agg (cSec y).toArray)).run Try.prog W = .ok (decide (x = y)) W := by
  have h := eql_bytes 58 8 Try.underlying58 x y h8 h8' hx hy W
  have e : (x == y) = decide (x = y) := by rw [Bool.eq_iff_iff]; simp
  rw [e] at h
  exact h
end Go.Proofs.Ytbcnikmhodkbfaa
