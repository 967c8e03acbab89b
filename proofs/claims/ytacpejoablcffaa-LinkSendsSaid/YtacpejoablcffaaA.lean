/- Slices of bytes, boxes, rows (carried over from eventqueue). -/
import Derived.Test.YtacpejoablcffaaRows
import Derived.RangeFuncBox
import Derived.Outline
import Derived.WalkKit
import Derived.LoopTactic
import Derived.Laws.BitsAllLaws
import Derived.Deep.QuietTactic
import Derived.BigQuiet
import Derived.RegionTactic
import Derived.Below
import Derived.Lib.Hide
import Derived.Deep.Draws
import Derived.OwnWalk
import Derived.Laws.AppendOwnNone
import Derived.Laws.OwnMore
import Derived.OneCell
import Derived.Lib.SliceRun
import Derived.Shelf.Bytes.SlSmallAll
import Derived.Deep.RegionLawGrows
import Derived.Stop.BytesEq
import Derived.Deep.RegionHeld3
import Derived.Deep.DeepCutAuto
import Derived.StillTailTactics
import Derived.OrdersIn
import Derived.TacticsIn
import Derived.Laws.MakeOwn
import Derived.WalkLawsBesides
namespace Go.Proofs.Ytacpejoablcffaa
open Go.RowKit Go.Lib
def B8 (l : List Nat) : Prop := ∀ b ∈ l, b < 256
theorem B8.append {a b : List Nat} (ha : B8 a) (hb : B8 b) : B8 (a ++ b) := fun x hx => (List.mem_append.1 hx).elim (ha x) (hb x)
theorem B8.right {a b : List Nat} (h : B8 (a ++ b)) : B8 b := fun x hx => h x (List.mem_append.2 (.inr hx))
theorem B8.left {a b : List Nat} (h : B8 (a ++ b)) : B8 a := fun x hx => h x (List.mem_append.2 (.inl hx))
def Byt (w : World) (v : Value) (l : List Nat) : Prop :=
  B8 l ∧ ∃ A cap, v = .slice A l.length cap ∧ l.length ≤ cap ∧ cap ≤ maxLen ∧ ∃ b off, (0 < l.length → A = some ⟨b, off, none⟩ ∧ b < w.heap.size) ∧ ∀ (i x : Nat), l[i]? = some x → w.cell? ⟨b, off + i, none⟩ = some (.int .u8 (x : Int))
theorem Byt.below {w w' : World} {v : Value} {l : List Nat} (h : Byt w v l) (hb : Below w.heap.size w w') : Byt w' v l := by
  obtain ⟨h8, A, cap, e, h1, h2, b, off, hA, hc⟩ := h
  refine ⟨h8, A, cap, e, h1, h2, b, off, fun h => ⟨(hA h).1, Nat.lt_of_lt_of_le (hA h).2 hb.size⟩, fun i x hx => ?_⟩
  have hl : 0 < l.length := by have := (List.getElem?_eq_some_iff.1 hx).1; omega
  exact (hb.cell (p := ⟨b, off + i, none⟩) (hA hl).2).trans (hc i x hx)
theorem byt_form {w : World} {v : Value} {l : List Nat} (h : Byt w v l) : ∃ A cap, v = .slice A l.length cap := by
  obtain ⟨_, A, cap, e, _⟩ := h
  exact ⟨A, cap, e⟩
theorem al1 (w : World) (o : Obj) : Below w.heap.size w (w.alloc o) := (Below.refl _ w).alloc (Nat.le_refl _) _
def byteV (x : Nat) : Value := .int .u8 (x : Int)
theorem info5 : (Try.prog.info? 5).map (fun i => (i.zero, i.size, i.bytes)) = some (some (.int .u8 0), 1, 1) := by kernel_rfl
theorem byteV_one (l : List Nat) : ∀ u ∈ l.map byteV, u.oneCell' = true := fun u hu => by
  obtain ⟨x, _, rfl⟩ := List.mem_map.1 hu
  rfl
def NilOk (v : Value) : Prop := ∀ n c, v = .slice none n c → c = 0
theorem nilOk_some (a : Addr) (n c : Nat) : NilOk (.slice (some a) n c) := fun n c h => by injection h with h; cases h
theorem nilOk_nil : NilOk (.slice none 0 0) := fun n c h => by injection h with _ _ h; exact h.symm
set_option maxRecDepth 100000 in
theorem append_byt {ops : Array Oper} {rest : List Oper} {o : Oper} {a : Act} {w : World} {Q : Exit → Act → World → Prop} (hgd : o.guard = none) (s x : Operand) (ho : o.op = .call { callee := .builtin .append, args := #[s, x], argTypes := #[37, 37] })
    (base : Nat) (v : Value) (k : Nat) (xs : List Value) (hs : a.eval s = v) (hown : w.ownsRow base 5 1 v k xs) (l : List Nat) (u : Value) (hx : a.eval x = u) (hsrc : Byt w u l) (hnil : NilOk u) (hk : k + l.length ≤ 1000000000000) (hbase : base ≤ w.heap.size)
    (h : ∀ v' w', w'.ownsRow base 5 1 v' (k + l.length) (xs ++ l.map byteV) → w.grownBy w' v.ownBlock → wpList Try.prog ops Q rest (a.put o.dst v') w') : wpList Try.prog ops Q (o :: rest) a w := by
  obtain ⟨i0, hi, hz0, hz1, hz2⟩ := info_parts info5
  obtain ⟨h8, A, cap, rfl, hcap, hcm, b, off, hA, hc⟩ := hsrc
  rcases A with _ | ad
  · have hl : l = [] := by
      rcases Nat.eq_zero_or_pos l.length with h0 | h0
      · exact List.eq_nil_of_length_eq_zero h0
      · have := (hA h0).1; cases this
    subst hl
    have hc0 : cap = 0 := hnil _ _ rfl
    subst hc0
    refine wpList_append_own_none hgd s x 37 ho base 5 i0 1 Try.underlying37 hi v k xs hs hown hx ?_
    exact h v w (by simpa using hown) (World.grownBy.refl w _)
  · refine wpList_append_own w hgd s x 37 ho base 5 i0 _ 1 1 Try.underlying37 hi hz0 hz1 hz2 rfl (by decide) v k xs hs hown ad l.length cap (l.map byteV) hx (by simp) ?_ (byteV_one l) (by unfold maxLen; omega) (by omega) hbase ?_
    · intro j u hu
      rw [List.getElem?_map] at hu
      obtain ⟨z, hz, rfl⟩ := Option.map_eq_some_iff.1 hu
      have hj := (List.getElem?_eq_some_iff.1 hz).1
      have hA1 := (hA (by omega)).1
      injection hA1 with hA1
      subst hA1
      have e : (⟨b, off, none⟩ : Addr).add j = ⟨b, off + j, none⟩ := by unfold Addr.add; split <;> simp_all
      rw [e]
      exact hc j z hz
    · exact fun v' w' h1 h2 _ => h v' w' h1 h2
theorem byt_of_own {w : World} {base n : Nat} {v : Value} {l : List Nat} (h : w.ownsRow base 5 1 v n (l.map byteV)) (h8 : B8 l) : Byt w v l := by
  have hn : n = l.length := by have := h.1; simp at this; omega
  subst hn
  refine ⟨h8, ?_⟩
  rcases h.2 with ⟨rfl, hn⟩ | ⟨g, cap, cur, rfl, hb, hcur, hcap, hcm, hs, ht⟩
  · have hl : l = [] := List.eq_nil_of_length_eq_zero hn
    subst hl
    exact ⟨none, 0, rfl, Nat.le_refl _, by unfold maxLen; omega, 0, 0, fun h => absurd h (by simp), fun i x h => by simp at h⟩
  · refine ⟨some ⟨g, 0, none⟩, cap, rfl, hcap, hcm, g, 0, fun _ => ⟨rfl, (h.lt g rfl).2⟩, fun i x hi => ?_⟩
    have hl := (List.getElem?_eq_some_iff.1 hi).1
    have h0 := h.cellAt i (by omega)
    rw [List.getElem?_map, hi] at h0
    simp only [Nat.zero_add]
    exact h0
theorem own_nilOk {w : World} {base n : Nat} {v : Value} {xs : List Value} (h : w.ownsRow base 5 1 v n xs) : NilOk v := by
  rcases h.2 with ⟨rfl, _⟩ | ⟨g, cap, cur, rfl, _⟩
  · exact nilOk_nil
  · exact nilOk_some _ _ _
theorem own_form {w : World} {base n : Nat} {v : Value} {xs : List Value} (h : w.ownsRow base 5 1 v n xs) : ∃ A cap, v = .slice A n cap := by
  rcases h.2 with ⟨rfl, rfl⟩ | ⟨g, cap, cur, rfl, _⟩
  · exact ⟨none, 0, rfl⟩
  · exact ⟨_, _, rfl⟩
theorem own_empty (w : World) : (w.alloc (.cells #[] 5)).ownsRow w.heap.size 5 1 (.slice (some ⟨w.heap.size, 0, none⟩) 0 0) 0 [] :=
  ⟨rfl, .inr ⟨w.heap.size, 0, #[], rfl, Nat.le_refl _, heap_alloc_new w _, Nat.le_refl _, by unfold maxLen; omega, rfl, rfl⟩⟩
theorem below_own {B : Nat} {W w w' : World} {n : Nat} {v : Value} {xs : List Value} {base : Nat} (h : Below B W w) (hw : w.ownsRow base 5 1 v n xs) (hg : w.grownBy w' v.ownBlock) (hB : B ≤ w.heap.size) (hb : B ≤ base) : Below B W w' :=
  h.grown hg hB (fun k e => by have := (hw.lt k e).1; omega)
theorem own_snoc (l m : List Nat) : l.map byteV ++ m.map byteV = (l ++ m).map byteV := by rw [List.map_append]
theorem byt_new (w : World) (l : List Nat) (fr : Nat × Nat) (h8 : B8 l) (hl : l.length ≤ maxLen) : Byt (w.alloc (.cells (l.map fun (x : Nat) => Value.int .u8 (x : Int)).toArray 5 fr)) (.slice (some ⟨w.heap.size, 0, none⟩) l.length l.length) l := by
  refine ⟨h8, some ⟨w.heap.size, 0, none⟩, l.length, rfl, Nat.le_refl _, hl, w.heap.size, 0, fun _ => ⟨rfl, by simp⟩, fun i x hx => ?_⟩
  rw [Nat.zero_add, cell_of_row _ _ _ _ _ _ (heap_alloc_new _ _)]
  simp [hx]
def MadeY (w : World) (l : List Nat) (e : Ending) (w' : World) : Prop := ∃ v, e = .returned v ∧ Byt w' v l ∧ NilOk v ∧ Below w.heap.size w w'
theorem take_succ' {l : List Nat} {k x : Nat} (h : l[k]? = some x) : l.take (k + 1) = l.take k ++ [x] := by
  obtain ⟨hk, rfl⟩ := List.getElem?_eq_some_iff.1 h
  rw [List.take_succ_eq_append_getElem hk]
theorem byt_one (w : World) (z : Nat) (hz : z < 256) : Byt (w.alloc (.cells #[.int .u8 (z : Int)] 5)) (.slice (some ⟨w.heap.size, 0, none⟩) 1 1) [z] :=
  byt_new w [z] (0, 0) (fun x hx => by simp at hx; omega) (by unfold maxLen; simp)
theorem int_eq {a b : Int} (h : a = b) : Value.int .i64 a = .int .i64 b := by rw [h]
set_option maxHeartbeats 2000000 in
set_option maxRecDepth 100000 in
theorem clone_any (l : List Nat) (v : Value) (w : World) (hv : Byt w v l) (hn : NilOk v) (hl : l.length ≤ 900000000000) :
    Calls Try.prog 49 #[v] w fun e w' => ∃ v', e = .returned v' ∧ w'.ownsRow w.heap.size 5 1 v' l.length (l.map byteV) ∧ Below w.heap.size w w' := by
  obtain ⟨A, ca, rfl⟩ := byt_form hv
  have HV := hid hv
  have HN := hid hn
  rcases A with _ | ad
  · have hl0 : l = [] := by
      obtain ⟨_, A, cap, e, h1, h2, b, off, hA, _⟩ := hv
      rcases Nat.eq_zero_or_pos l.length with h0 | h0
      · exact List.eq_nil_of_length_eq_zero h0
      · have := (hA h0).1
        injection e with e1
        rw [← e1] at this
        cases this
    subst hl0
    have hc := hn _ _ rfl
    subst hc
    clear hv hn
    have hq := fun (w : World) (a : Option Addr) (n c : Nat) => Lib.run_eql_slice_nil (P := Try.prog) w 37 5 a n c 0 0 Try.underlying37
    go_enter Try.func49, Try.ntmps49
    go_wp2
    go_ret
    exact ⟨_, rfl, World.ownsRow_nil _ _ _ _, Below.refl _ _⟩
  · clear hv hn
    have hq := fun (w : World) (a : Option Addr) (n c : Nat) => Lib.run_eql_slice_nil (P := Try.prog) w 37 5 a n c 0 0 Try.underlying37
    go_enter Try.func49, Try.ntmps49
    go_wp2_with (at_builtin; refine append_byt rfl (.tmp 5) (.tmp 6) rfl w.heap.size _ 0 [] rfl (own_empty w) l _ rfl (HV.out.below (al1 _ _)) HN.out (by omega) (by simp) ?_; intro v1 w1 hown1 hg1; have HB1 := hid (below_own (al1 w _) (own_empty w) hg1 (by simp) (Nat.le_refl _)); have HO1 := hid hown1; clear hown1 hg1)
    obtain ⟨av, cv, rfl⟩ := own_form HO1.out
    go_wp2
    go_ret
    exact ⟨_, rfl, by have h := HO1.out; simpa using h, HB1.out⟩
/-- What a call that makes bytes of its own answers. -/
def MadeO (w : World) (l : List Nat) (e : Ending) (w' : World) : Prop := ∃ v, e = .returned v ∧ w'.ownsRow w.heap.size 5 1 v l.length (l.map byteV) ∧ Below w.heap.size w w'
theorem MadeO.made {w w' : World} {l : List Nat} {e : Ending} (h : MadeO w l e w') (h8 : B8 l) : MadeY w l e w' := by
  obtain ⟨v, rfl, ho, hb⟩ := h
  exact ⟨v, rfl, byt_of_own ho h8, own_nilOk ho, hb⟩
theorem byt_one_at (w : World) (b : Nat) (z : Int) (h : z = (b : Int)) (hz : b < 256) : Byt (w.alloc (.cells #[.int .u8 z] 5)) (.slice (some ⟨w.heap.size, 0, none⟩) 1 1) [b] := by
  subst h
  exact byt_one w b hz
/-- Of what was there, block g alone may have changed. -/
structure Upd (g : Nat) (w w' : World) : Prop where
  low : Below 0 w w'
  block : ∀ k, k < w.heap.size → k ≠ g → w'.heap[k]? = w.heap[k]?
theorem Upd.refl (g : Nat) (w : World) : Upd g w w := ⟨Below.refl _ _, fun _ _ _ => rfl⟩
theorem Upd.trans {g : Nat} {a b c : World} (h : Upd g a b) (k : Upd g b c) : Upd g a c :=
  ⟨h.low.trans k.low, fun i hi hg => (k.block i (Nat.lt_of_lt_of_le hi h.low.size) hg).trans (h.block i hi hg)⟩
theorem Upd.set {g : Nat} {a b : World} (h : Upd g a b) (i : Nat) (v : Value) : Upd g a (b.setCell ⟨g, i, none⟩ v) :=
  ⟨h.low.setCell (Nat.zero_le _) v, fun k hk hg => (Below.heap_setCell _ _ _ _ hg).trans (h.block k hk hg)⟩
theorem Upd.alloc {g : Nat} {a b : World} (h : Upd g a b) (o : Obj) : Upd g a (b.alloc o) :=
  ⟨h.low.alloc (Nat.zero_le _) o, fun k hk hg => (Below.heap_alloc _ _ _ (Nat.lt_of_lt_of_le hk h.low.size)).trans (h.block k hk hg)⟩
theorem Upd.drew {g : Nat} {a b : World} (h : Upd g a b) : Upd g a b.drew := ⟨h.low.drew, h.block⟩
theorem Upd.grown {g : Nat} {a b c : World} {row : Option Nat} (h : Upd g a b) (hg : b.grownBy c row) (hr : ∀ k, row = some k → a.heap.size ≤ k) : Upd g a c :=
  ⟨h.low.grown hg (Nat.zero_le _) (fun _ _ => Nat.zero_le _), fun k hk hkg => (hg.block k (Nat.lt_of_lt_of_le hk h.low.size) (fun e => by have := hr k e.symm; omega)).trans (h.block k hk hkg)⟩
theorem Upd.below {g B : Nat} {a b : World} (h : Upd g a b) (hg : B ≤ g) (hB : B ≤ a.heap.size) : Below B a b :=
  ⟨h.low.os, h.low.tape, h.low.output, h.low.size, fun k hk => h.block k (by omega) (by omega)⟩
theorem Upd.of_below {g : Nat} {a b c : World} (h : Upd g a b) (k : Below b.heap.size b c) : Upd g a c :=
  ⟨h.low.trans (k.mono (Nat.zero_le _)), fun i hi hg => (k.block i (Nat.lt_of_lt_of_le hi h.low.size)).trans (h.block i hi hg)⟩
theorem box_lt {w : World} {g : Nat} {o : Obj} (h : w.heap[g]? = some o) : g < w.heap.size := (Array.getElem?_eq_some_iff.1 h).1
theorem box_s0 {w : World} {g : Nat} {a b : Value} {t : TypeId} (h : w.heap[g]? = some (.cells #[a, b] t)) (v : Value) : (w.setCell ⟨g, 0, none⟩ v).heap[g]? = some (.cells #[v, b] t) := by
  show (w.heap.modify g _)[g]? = _
  obtain ⟨hlt, hk⟩ := Array.getElem?_eq_some_iff.1 h
  rw [Array.getElem?_eq_getElem (by rw [Array.size_modify]; exact hlt), Array.getElem_modify_self, hk]
  rfl
theorem box_s1 {w : World} {g : Nat} {a b : Value} {t : TypeId} (h : w.heap[g]? = some (.cells #[a, b] t)) (v : Value) : (w.setCell ⟨g, 1, none⟩ v).heap[g]? = some (.cells #[a, v] t) := by
  show (w.heap.modify g _)[g]? = _
  obtain ⟨hlt, hk⟩ := Array.getElem?_eq_some_iff.1 h
  rw [Array.getElem?_eq_getElem (by rw [Array.size_modify]; exact hlt), Array.getElem_modify_self, hk]
  rfl
theorem box_fr {w : World} {g : Nat} {cs : Array Value} {t : TypeId} (h : w.heap[g]? = some (.cells cs t)) (i : Nat) : w.frozen? ⟨g, i, none⟩ = false := by
  unfold World.frozen?
  rw [h]
  simp
def fromA (A : Option Addr) (c k : Nat) : Option Addr := if c = k then A else A.map (fun x => x.add k)
theorem run_slice_from (A : Option Addr) (n c k : Nat) (hk : k ≤ n) (W : World) : (Instr.slice 37 (.slice A n c) (some (.int .i64 (k : Int))) none none).run Try.prog W = .ok (.slice (fromA A c k) (n - k) (c - k)) W := by
  simp [Instr.slice, run_underlying Try.underlying37, Instr.sliceBounds, Sem.run_bind, run_sliceBound_if, fromA]
  intro h
  omega
theorem byt_from {w : World} {A : Option Addr} {cap k : Nat} {x : List Nat} (h : Byt w (.slice A x.length cap) x) (hk : k ≤ x.length) : Byt w (.slice (fromA A cap k) (x.length - k) (cap - k)) (x.drop k) := by
  obtain ⟨h8, A', cap', e, h1, h2, b, off, hA, hc⟩ := h
  injection e with e1 e2 e3
  subst e1 e3
  refine ⟨fun y hy => h8 y (List.mem_of_mem_drop hy), fromA A cap k, cap - k, by rw [List.length_drop], by rw [List.length_drop]; omega, by omega, b, off + k, fun h => ?_, fun i y hy => ?_⟩
  · rw [List.length_drop] at h
    obtain ⟨hA1, hA2⟩ := hA (by omega)
    refine ⟨?_, hA2⟩
    unfold fromA
    rw [if_neg (by omega), hA1]
    simp [Addr.add]
  · rw [List.getElem?_drop] at hy
    rw [Nat.add_assoc]
    exact hc _ _ hy
theorem byt_cap {w : World} {A : Option Addr} {n c : Nat} {l : List Nat} (h : Byt w (.slice A n c) l) : l.length ≤ c := by
  obtain ⟨_, A', c', e, h1, _⟩ := h
  injection e with _ _ e3
  omega
/-- Blocks with cells of type T are as they were. -/
def Keep (T : TypeId) (w w' : World) : Prop := ∀ (k : Nat) (cs : Array Value), w.heap[k]? = some (.cells cs T) → w'.heap[k]? = some (.cells cs T)
theorem Keep.trans {T : TypeId} {a b c : World} (h : Keep T a b) (k : Keep T b c) : Keep T a c := fun i cs hi => k i cs (h i cs hi)
theorem keep_below {T : TypeId} {a b : World} (h : Below a.heap.size a b) : Keep T a b := fun i _ hi => (h.block i (box_lt hi)).trans hi
theorem keep_grown {T E : TypeId} {st base n : Nat} {a b : World} {v : Value} {xs : List Value} (ho : a.ownsRow base E st v n xs) (hT : T ≠ E) (hg : a.grownBy b v.ownBlock) : Keep T a b := fun i cs hi => by
  refine (hg.block i (box_lt hi) ?_).trans hi
  rcases ho.2 with ⟨rfl, _⟩ | ⟨k, cap, cur, rfl, _, hgb, _⟩
  · simp [Value.ownBlock]
  · intro e
    obtain rfl : i = k := by simpa [Value.ownBlock] using e
    have := hi.symm.trans hgb
    simp at this
    exact hT this.2
theorem own_keep {T : TypeId} {st base n : Nat} {a b : World} {v : Value} {xs : List Value} (ho : a.ownsRow base T st v n xs) (h : Keep T a b) : b.ownsRow base T st v n xs := by
  refine ⟨ho.1, ?_⟩
  rcases ho.2 with h0 | ⟨k, cap, cur, e, hb, hgb, h2⟩
  · exact .inl h0
  · exact .inr ⟨k, cap, cur, e, hb, h _ _ hgb, h2⟩
theorem byt_none {w : World} {n c : Nat} {l : List Nat} (h : Byt w (.slice none n c) l) : l = [] := by
  obtain ⟨_, A, cap, e, h1, h2, b, off, hA, _⟩ := h
  injection e with e1
  rcases Nat.eq_zero_or_pos l.length with h0 | h0
  · exact List.eq_nil_of_length_eq_zero h0
  · have := (hA h0).1
    rw [← e1] at this
    cases this
def ints (l : List Nat) : List Int := l.map fun (x : Nat) => (x : Int)
set_option maxRecDepth 100000 in
theorem byt_conv {w : World} {A : Option Addr} {n c : Nat} {l : List Nat} (h : Byt w (.slice A n c) l) : (convert 37 9 (.slice A n c)).run Try.prog w = .ok (.string (strOfNums (ints l))) w := by
  obtain ⟨h8, A', c', e, h1, h2, b, off, hA, hc⟩ := h
  injection e with e1 e2 e3
  subst e1 e2 e3
  rcases Nat.eq_zero_or_pos l.length with hn | hn
  · have hl : l = [] := List.eq_nil_of_length_eq_zero hn
    subst hl
    exact run_convert_bytes_zero w 37 5 Try.underlying37 Try.underlying5 A c 9 Try.underlying9
  · obtain ⟨rfl, _⟩ := hA hn
    refine run_convert_bytes_arg (P := Try.prog) w 37 5 Try.underlying37 Try.underlying5 b off l.length c (ints l) (by simp [ints]) (fun i hi => ?_) 9 Try.underlying9
    rw [hc i l[i] (List.getElem?_eq_getElem hi)]
    simp [ints, List.getD, hi]
theorem run_slice_to (A : Option Addr) (n c k : Nat) (hk : k ≤ c) (W : World) : (Instr.slice 37 (.slice A n c) none (some (.int .i64 (k : Int))) none).run Try.prog W = .ok (.slice A k c) W := by
  simp [Instr.slice, run_underlying Try.underlying37, Instr.sliceBounds, Sem.run_bind, run_sliceBound_if]
  rw [if_pos hk]
  have e : (if c = 0 then A else Option.map (fun (x : Addr) => x.add 0) A) = A := by
    rcases A with _ | a
    · simp
    · simp [Addr.add]
  rw [e]
/-- The slice value v reads as rows of st cells each. -/
def Arr (w : World) (v : Value) (st : Nat) (rows : List (List Value)) : Prop :=
  ∃ A cap, v = .slice A rows.length cap ∧ rows.length ≤ cap ∧ cap ≤ maxLen ∧ ∃ b off, (0 < rows.length → A = some ⟨b, off, none⟩ ∧ b < w.heap.size) ∧ ∀ (i : Nat) (r : List Value), rows[i]? = some r → ∀ (j : Nat) (u : Value), r[j]? = some u → w.cell? ⟨b, off + i * st + j, none⟩ = some u
theorem Arr.below {w w' : World} {v : Value} {st : Nat} {rows : List (List Value)} (h : Arr w v st rows) (hb : Below w.heap.size w w') : Arr w' v st rows := by
  obtain ⟨A, cap, e, h1, h2, b, off, hA, hc⟩ := h
  refine ⟨A, cap, e, h1, h2, b, off, fun h => ⟨(hA h).1, Nat.lt_of_lt_of_le (hA h).2 hb.size⟩, fun i r hi j u hj => ?_⟩
  have hl := (List.getElem?_eq_some_iff.1 hi).1
  exact (hb.cell (p := ⟨b, _, none⟩) (hA (by omega)).2).trans (hc i r hi j u hj)
theorem arr_form {w : World} {v : Value} {st : Nat} {rows : List (List Value)} (h : Arr w v st rows) : ∃ A cap, v = .slice A rows.length cap := by
  obtain ⟨A, cap, e, _⟩ := h
  exact ⟨A, cap, e⟩
theorem arr_nil (w : World) (st : Nat) : Arr w (.slice none 0 0) st [] := ⟨none, 0, rfl, Nat.le_refl _, by unfold maxLen; omega, 0, 0, fun h => absurd h (by simp), fun i r h => by simp at h⟩
theorem bytes_inj : ∀ {p x : List Nat}, p.map byteV = x.map byteV → p = x
  | [], [], _ => rfl
  | [], _ :: _, h => by simp at h
  | _ :: _, [], h => by simp at h
  | a :: p, b :: x, h => by
    rw [List.map_cons, List.map_cons] at h
    injection h with h1 h2
    unfold byteV at h1
    injection h1 with _ h1
    rw [show a = b by omega, bytes_inj h2]
theorem flat_getG {α : Type} {st : Nat} {rows : List (List α)} (h : ∀ r ∈ rows, r.length = st) : ∀ {i j : Nat} {r : List α}, rows[i]? = some r → j < st → rows.flatten[i * st + j]? = r[j]? := by
  induction rows with
  | nil => intro i j r hr _; simp at hr
  | cons t rows ih =>
    intro i j r hr hj
    have ht := h t (List.mem_cons_self ..)
    rw [List.flatten_cons]
    rcases i with _ | i
    · simp at hr
      subst hr
      rw [List.getElem?_append_left (by omega)]
      simp
    · rw [List.getElem?_append_right (by rw [ht, Nat.succ_mul]; omega), ht]
      have e : (i + 1) * st + j - st = i * st + j := by rw [Nat.succ_mul]; omega
      rw [e]
      exact ih (fun u hu => h u (List.mem_cons_of_mem _ hu)) (by simpa using hr) hj
theorem arr_at {w : World} {g : Nat} {T : TypeId} {st n c : Nat} {rows : List (List Value)} {fr : Nat × Nat} {cs : Array Value} (h : ∀ r ∈ rows, r.length = st) (hn : n = rows.length) (hc : n ≤ c) (hm : c ≤ maxLen) (hg : w.heap[g]? = some (.cells cs T fr)) (hcs : ∀ (k : Nat) (u : Value), rows.flatten[k]? = some u → cs[k]? = some u) : Arr w (.slice (some ⟨g, 0, none⟩) n c) st rows := by
  subst hn
  refine ⟨_, _, rfl, hc, hm, g, 0, fun _ => ⟨rfl, box_lt hg⟩, fun i r hr j u hu => ?_⟩
  have hj : j < st := by rw [← h r (List.mem_of_getElem? hr)]; exact (List.getElem?_eq_some_iff.1 hu).1
  rw [Nat.zero_add, cell_of_row _ _ _ _ _ _ hg]
  exact hcs _ _ ((flat_getG h hr hj).trans hu)
theorem arr_of_own {E : TypeId} {st base n : Nat} {w : World} {v : Value} {rows : List (List Value)} (ho : w.ownsRow base E st v n rows.flatten) (hn : rows.length = n) (hr : ∀ r ∈ rows, r.length = st) : Arr w v st rows := by
  rcases ho.2 with ⟨rfl, h0⟩ | ⟨g, cap, cur, rfl, _, hg, hc, hm, hs, ht⟩
  · obtain rfl : rows = [] := List.eq_nil_of_length_eq_zero (by omega)
    exact arr_nil _ _
  · refine arr_at hr hn.symm hc hm hg (fun k u hu => ?_)
    rw [← ht, List.getElem?_take] at hu
    split at hu
    · simpa using hu
    · cases hu
def SaysQ (b : Bool) (w : World) (e : Ending) (w' : World) : Prop := e = .returned (.bool b) ∧ ∃ m, w' = w.drewN m
theorem size5 (w : World) : (sizeOf 5).run Try.prog w = .ok 1 w := by kernel_rfl
theorem boxed_kept {W W' : World} {g : Nat} {T : TypeId} {v : Value} {row : Option Nat} (h : Boxed W g T v) (hg : W.grownBy W' row) (hr : ∀ r, row = some r → ∃ o : Obj, W.heap[r]? = some o ∧ o.isCells = false) : Boxed W' g T v := by
  refine (hg.block g h.lt (fun e => ?_)).trans h
  obtain ⟨o, ho, hc⟩ := hr g e.symm
  rw [show W.heap[g]? = _ from h] at ho
  cases ho
  cases hc
theorem keep_set {W : World} {g i : Nat} {T E : TypeId} {u v : Value} (h : Boxed W g E u) (hT : T ≠ E) : Keep T W (W.setCell ⟨g, i, none⟩ v) := fun k cs hk => by
  refine (Below.heap_setCell W ⟨g, i, none⟩ v k (fun e => ?_)).trans hk
  have e' : k = g := e
  subst e'
  rw [show W.heap[k]? = _ from h] at hk
  cases hk
  exact hT rfl
theorem byt_upto {w : World} {A : Option Addr} {n c : Nat} {l : List Nat} (h : Byt w (.slice A n c) l) (k : Nat) : Byt w (.slice A (l.take k).length c) (l.take k) := by
  obtain ⟨h8, A', cap, e, h1, h2, b, off, hA, hc⟩ := h
  injection e with e1 e2 e3
  subst e1 e3
  refine ⟨fun x hx => h8 x (List.mem_of_mem_take hx), A, c, rfl, by rw [List.length_take]; omega, h2, b, off, fun h => hA (by rw [List.length_take] at h; omega), fun i x hx => ?_⟩
  rw [List.getElem?_take] at hx
  split at hx
  · exact hc i x hx
  · cases hx
theorem below_both_drewN {B : Nat} {w0 w : World} (h : Below B w0 w) (n : Nat) : Below B w0 (w.drewN n) := ⟨h.os, h.tape, h.output, h.size, h.block⟩
theorem set_mid {α : Type} (p r : List α) (z x : α) : (p ++ z :: r).set p.length x = p ++ x :: r := by simp
theorem box_set {w : World} {g : Nat} {cs : List Value} {t : TypeId} (h : w.heap[g]? = some (.cells cs.toArray t)) (i : Nat) (v : Value) : (w.setCell ⟨g, i, none⟩ v).heap[g]? = some (.cells (cs.set i v).toArray t) := by
  show (w.heap.modify g _)[g]? = _
  obtain ⟨hlt, hk⟩ := Array.getElem?_eq_some_iff.1 h
  rw [Array.getElem?_eq_getElem (by rw [Array.size_modify]; exact hlt), Array.getElem_modify_self, hk]
  simp
theorem byt_cap' {w : World} {A : Option Addr} {n c : Nat} {l : List Nat} (h : Byt w (.slice A n c) l) : n ≤ c := by
  obtain ⟨_, A', c', e, h1, _⟩ := h
  injection e with _ e2 e3
  omega
theorem byt_at {w : World} {A : Option Addr} {n c : Nat} {l : List Nat} (h : Byt w (.slice A n c) l) (hp : 0 < l.length) : ∃ b off, A = some ⟨b, off, none⟩ ∧ b < w.heap.size ∧ ∀ (i x : Nat), l[i]? = some x → w.cell? ⟨b, off + i, none⟩ = some (.int .u8 (x : Int)) := by
  obtain ⟨_, A', c', e, _, _, b, off, hA, hc⟩ := h
  injection e with e1
  subst e1
  exact ⟨b, off, (hA hp).1, (hA hp).2, hc⟩
theorem Upd.new {g : Nat} {a b : World} (h : Upd g a b) {c i : Nat} (hc : a.heap.size ≤ c) (u : Value) : Upd g a (b.setCell ⟨c, i, none⟩ u) :=
  ⟨h.low.setCell (Nat.zero_le _) u, fun k hk hg => (Below.heap_setCell _ _ _ _ (show k ≠ c by omega)).trans (h.block k hk hg)⟩
theorem nilOk_if {p : Prop} [Decidable p] (a b : Addr) (n c : Nat) : NilOk (.slice (if p then some a else some b) n c) := by
  split <;> exact nilOk_some _ _ _
theorem add_at' (b k : Nat) : (⟨b, 0, none⟩ : Addr).add k = ⟨b, k, none⟩ := by unfold Addr.add; split <;> simp_all
theorem keep_updc {T E : TypeId} {g : Nat} {a b : World} {x : Array Value} (h : Upd g a b) (hg : a.heap[g]? = some (.cells x E)) (hT : T ≠ E) : Keep T a b := fun i cs hi => by
  refine (h.block i (box_lt hi) (fun e => ?_)).trans hi
  subst e
  rw [hg] at hi
  cases hi
  exact hT rfl
theorem flat_split {α : Type} {st : Nat} {rows : List (List α)} (h : ∀ r ∈ rows, r.length = st) : ∀ {k : Nat} {u : α}, rows.flatten[k]? = some u → ∃ i j r, rows[i]? = some r ∧ r[j]? = some u ∧ k = i * st + j := by
  induction rows with
  | nil => intro k u hk; simp at hk
  | cons t rows ih =>
    intro k u hk
    have ht := h t (List.mem_cons_self ..)
    rw [List.flatten_cons] at hk
    rcases Nat.lt_or_ge k t.length with hl | hl
    · rw [List.getElem?_append_left hl] at hk
      exact ⟨0, k, t, rfl, hk, by omega⟩
    · rw [List.getElem?_append_right hl] at hk
      obtain ⟨i, j, r, h1, h2, h3⟩ := ih (fun u hu => h u (List.mem_cons_of_mem _ hu)) hk
      exact ⟨i + 1, j, r, by simpa using h1, h2, by rw [Nat.succ_mul]; omega⟩
theorem arr_at1 {w : World} {A : Option Addr} {n c st : Nat} {rows : List (List Value)} (h : Arr w (.slice A n c) st rows) (hp : 0 < rows.length) : ∃ b off, A = some ⟨b, off, none⟩ ∧ b < w.heap.size ∧ ∀ (i : Nat) (r : List Value), rows[i]? = some r → ∀ (j : Nat) (u : Value), r[j]? = some u → w.cell? ⟨b, off + i * st + j, none⟩ = some u := by
  obtain ⟨A', c', e, h1, h2, b, off, hA, hc⟩ := h
  injection e with e1 e2 e3
  subst e1
  exact ⟨b, off, (hA hp).1, (hA hp).2, hc⟩
theorem below_ownE {B : Nat} {W w w' : World} {n E st : Nat} {v : Value} {xs : List Value} {base : Nat} (h : Below B W w) (hw : w.ownsRow base E st v n xs) (hg : w.grownBy w' v.ownBlock) (hB : B ≤ w.heap.size) (hb : B ≤ base) : Below B W w' :=
  h.grown hg hB (fun k e => by have := (hw.lt k e).1; omega)
theorem own_formE {w : World} {base E st n : Nat} {v : Value} {xs : List Value} (h : w.ownsRow base E st v n xs) : ∃ A cap, v = .slice A n cap := by
  rcases h.2 with ⟨rfl, rfl⟩ | ⟨g, cap, cur, rfl, _⟩
  · exact ⟨none, 0, rfl⟩
  · exact ⟨_, _, rfl⟩
theorem own_nilOkE {w : World} {base E st n : Nat} {v : Value} {xs : List Value} (h : w.ownsRow base E st v n xs) : NilOk v := by
  rcases h.2 with ⟨rfl, _⟩ | ⟨g, cap, cur, rfl, _⟩
  · exact nilOk_nil
  · exact nilOk_some _ _ _
theorem str_eq {a b : List Nat} (ha : B8 a) (hb : B8 b) : ((strOfNums (ints a)).toList == (strOfNums (ints b)).toList) = decide (a = b) := by
  rw [ByteArray.toList_eq, ByteArray.toList_eq]
  by_cases h : a = b
  · subst h; simp
  · rw [decide_eq_false h]
    rw [beq_eq_false_iff_ne]
    intro he
    apply h
    have h1 := he
    simp only [strOfNums_data, ints, List.map_map] at h1
    clear he h
    induction a generalizing b with
    | nil => cases b with
      | nil => rfl
      | cons y b => simp at h1
    | cons x a ih =>
      cases b with
      | nil => simp at h1
      | cons y b =>
        simp only [List.map_cons, List.cons.injEq] at h1
        have hx := ha x (List.mem_cons_self ..)
        have hy := hb y (List.mem_cons_self ..)
        have h2 := congrArg UInt8.toNat h1.1
        simp at h2
        rw [ih (fun z hz => ha z (List.mem_cons_of_mem _ hz)) (fun z hz => hb z (List.mem_cons_of_mem _ hz)) h1.2, show x = y by omega]
theorem own_off {w : World} {base n E st : Nat} {v : Value} {xs : List Value} (h : w.ownsRow base E st v n xs) {x : Nat} (hx : ∀ k, v.ownBlock = some k → k ≠ x) (i : Nat) (u : Value) : (w.setCell ⟨x, i, none⟩ u).ownsRow base E st v n xs := by
  refine ⟨h.1, ?_⟩
  rcases h.2 with h0 | ⟨k, cap, cur, e, hb, hgb, h2⟩
  · exact .inl h0
  · exact .inr ⟨k, cap, cur, e, hb, (Below.heap_setCell _ _ _ _ (hx k (by rw [e]; rfl))).trans hgb, h2⟩
theorem add_at (b off k : Nat) : (⟨b, off, none⟩ : Addr).add k = ⟨b, off + k, none⟩ := by unfold Addr.add; split <;> simp_all
end Go.Proofs.Ytacpejoablcffaa
