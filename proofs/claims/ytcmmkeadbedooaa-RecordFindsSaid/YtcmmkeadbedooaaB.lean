/- Slices of bytes and of sectors, boxes, rows (carried over from runlength). -/
import Derived.Test.YtcmmkeadbedooaaA
import Derived.Test.YtcmmkeadbedooaaRows
import Derived.RangeFuncBox
import Derived.Outline
import Derived.WalkKit
import Derived.LoopTactic
import Derived.Laws.BitsAllLaws
import Derived.Deep.QuietTactic
import Derived.BigQuiet
import Derived.RegionTactic
import Derived.Below
import Derived.Lib.Hide
import Derived.Deep.Draws
import Derived.OwnWalk
import Derived.Laws.AppendOwnNone
import Derived.Laws.OwnMore
import Derived.OneCell
import Derived.Lib.SliceRun
import Derived.Shelf.Bytes.SlSmallAll
import Derived.Deep.RegionLawGrows
import Derived.Stop.BytesEq
import Derived.Deep.RegionHeld3
import Derived.Deep.DeepCutAuto
import Derived.StillTailTactics
import Derived.OrdersIn
import Derived.TacticsIn
import Derived.Laws.MakeOwn
import Derived.WalkLawsBesides
namespace Go.Proofs.Ytcmmkeadbedooaa
open Go.RowKit Go.Lib
theorem B8.append {a b : List Nat} (ha : B8 a) (hb : B8 b) : B8 (a ++ b) := fun x hx => (List.mem_append.1 hx).elim (ha x) (hb x)
theorem B8.right {a b : List Nat} (h : B8 (a ++ b)) : B8 b := fun x hx => h x (List.mem_append.2 (.inr hx))
theorem B8.left {a b : List Nat} (h : B8 (a ++ b)) : B8 a := fun x hx => h x (List.mem_append.2 (.inl hx))
def Byt (w : World) (v : Value) (l : List Nat) : Prop :=
  B8 l ∧ ∃ A cap, v = .slice A l.length cap ∧ l.length ≤ cap ∧ cap ≤ maxLen ∧ ∃ b off, (0 < l.length → A = some ⟨b, off, none⟩ ∧ b < w.heap.size) ∧ ∀ (i x : Nat), l[i]? = some x → w.cell? ⟨b, off + i, none⟩ = some (.int .u8 (x : Int))
theorem Byt.below {w w' : World} {v : Value} {l : List Nat} (h : Byt w v l) (hb : Below w.heap.size w w') : Byt w' v l := by
  obtain ⟨h8, A, cap, e, h1, h2, b, off, hA, hc⟩ := h
  refine ⟨h8, A, cap, e, h1, h2, b, off, fun h => ⟨(hA h).1, Nat.lt_of_lt_of_le (hA h).2 hb.size⟩, fun i x hx => ?_⟩
  have hl : 0 < l.length := by have := (List.getElem?_eq_some_iff.1 hx).1; omega
  exact (hb.cell (p := ⟨b, off + i, none⟩) (hA hl).2).trans (hc i x hx)
theorem byt_form {w : World} {v : Value} {l : List Nat} (h : Byt w v l) : ∃ A cap, v = .slice A l.length cap := by
  obtain ⟨_, A, cap, e, _⟩ := h
  exact ⟨A, cap, e⟩
theorem al1 (w : World) (o : Obj) : Below w.heap.size w (w.alloc o) := (Below.refl _ w).alloc (Nat.le_refl _) _
def byteV (x : Nat) : Value := .int .u8 (x : Int)
theorem info5 : (Try.prog.info? 5).map (fun i => (i.zero, i.size, i.bytes)) = some (some (.int .u8 0), 1, 1) := by kernel_rfl
theorem byteV_one (l : List Nat) : ∀ u ∈ l.map byteV, u.oneCell' = true := fun u hu => by
  obtain ⟨x, _, rfl⟩ := List.mem_map.1 hu
  rfl
def NilOk (v : Value) : Prop := ∀ n c, v = .slice none n c → c = 0
theorem nilOk_some (a : Addr) (n c : Nat) : NilOk (.slice (some a) n c) := fun n c h => by injection h with h; cases h
theorem nilOk_nil : NilOk (.slice none 0 0) := fun n c h => by injection h with _ _ h; exact h.symm
set_option maxRecDepth 100000 in
theorem append_byt {ops : Array Oper} {rest : List Oper} {o : Oper} {a : Act} {w : World} {Q : Exit → Act → World → Prop} (hgd : o.guard = none) (s x : Operand) (ho : o.op = .call { callee := .builtin .append, args := #[s, x], argTypes := #[25, 25] })
    (base : Nat) (v : Value) (k : Nat) (xs : List Value) (hs : a.eval s = v) (hown : w.ownsRow base 5 1 v k xs) (l : List Nat) (u : Value) (hx : a.eval x = u) (hsrc : Byt w u l) (hnil : NilOk u) (hk : k + l.length ≤ 1000000000000) (hbase : base ≤ w.heap.size)
    (h : ∀ v' w', w'.ownsRow base 5 1 v' (k + l.length) (xs ++ l.map byteV) → w.grownBy w' v.ownBlock → wpList Try.prog ops Q rest (a.put o.dst v') w') : wpList Try.prog ops Q (o :: rest) a w := by
  obtain ⟨i0, hi, hz0, hz1, hz2⟩ := info_parts info5
  obtain ⟨h8, A, cap, rfl, hcap, hcm, b, off, hA, hc⟩ := hsrc
  rcases A with _ | ad
  · have hl : l = [] := by
      rcases Nat.eq_zero_or_pos l.length with h0 | h0
      · exact List.eq_nil_of_length_eq_zero h0
      · have := (hA h0).1; cases this
    subst hl
    have hc0 : cap = 0 := hnil _ _ rfl
    subst hc0
    refine wpList_append_own_none hgd s x 25 ho base 5 i0 1 Try.underlying25 hi v k xs hs hown hx ?_
    exact h v w (by simpa using hown) (World.grownBy.refl w _)
  · refine wpList_append_own w hgd s x 25 ho base 5 i0 _ 1 1 Try.underlying25 hi hz0 hz1 hz2 rfl (by decide) v k xs hs hown ad l.length cap (l.map byteV) hx (by simp) ?_ (byteV_one l) (by unfold maxLen; omega) (by omega) hbase ?_
    · intro j u hu
      rw [List.getElem?_map] at hu
      obtain ⟨z, hz, rfl⟩ := Option.map_eq_some_iff.1 hu
      have hj := (List.getElem?_eq_some_iff.1 hz).1
      have hA1 := (hA (by omega)).1
      injection hA1 with hA1
      subst hA1
      have e : (⟨b, off, none⟩ : Addr).add j = ⟨b, off + j, none⟩ := by unfold Addr.add; split <;> simp_all
      rw [e]
      exact hc j z hz
    · exact fun v' w' h1 h2 _ => h v' w' h1 h2
theorem byt_of_own {w : World} {base n : Nat} {v : Value} {l : List Nat} (h : w.ownsRow base 5 1 v n (l.map byteV)) (h8 : B8 l) : Byt w v l := by
  have hn : n = l.length := by have := h.1; simp at this; omega
  subst hn
  refine ⟨h8, ?_⟩
  rcases h.2 with ⟨rfl, hn⟩ | ⟨g, cap, cur, rfl, hb, hcur, hcap, hcm, hs, ht⟩
  · have hl : l = [] := List.eq_nil_of_length_eq_zero hn
    subst hl
    exact ⟨none, 0, rfl, Nat.le_refl _, by unfold maxLen; omega, 0, 0, fun h => absurd h (by simp), fun i x h => by simp at h⟩
  · refine ⟨some ⟨g, 0, none⟩, cap, rfl, hcap, hcm, g, 0, fun _ => ⟨rfl, (h.lt g rfl).2⟩, fun i x hi => ?_⟩
    have hl := (List.getElem?_eq_some_iff.1 hi).1
    have h0 := h.cellAt i (by omega)
    rw [List.getElem?_map, hi] at h0
    simp only [Nat.zero_add]
    exact h0
theorem own_nilOk {w : World} {base n : Nat} {v : Value} {xs : List Value} (h : w.ownsRow base 5 1 v n xs) : NilOk v := by
  rcases h.2 with ⟨rfl, _⟩ | ⟨g, cap, cur, rfl, _⟩
  · exact nilOk_nil
  · exact nilOk_some _ _ _
theorem own_form {w : World} {base n : Nat} {v : Value} {xs : List Value} (h : w.ownsRow base 5 1 v n xs) : ∃ A cap, v = .slice A n cap := by
  rcases h.2 with ⟨rfl, rfl⟩ | ⟨g, cap, cur, rfl, _⟩
  · exact ⟨none, 0, rfl⟩
  · exact ⟨_, _, rfl⟩
theorem own_empty (w : World) : (w.alloc (.cells #[] 5)).ownsRow w.heap.size 5 1 (.slice (some ⟨w.heap.size, 0, none⟩) 0 0) 0 [] :=
  ⟨rfl, .inr ⟨w.heap.size, 0, #[], rfl, Nat.le_refl _, heap_alloc_new w _, Nat.le_refl _, by unfold maxLen; omega, rfl, rfl⟩⟩
theorem below_own {B : Nat} {W w w' : World} {n : Nat} {v : Value} {xs : List Value} {base : Nat} (h : Below B W w) (hw : w.ownsRow base 5 1 v n xs) (hg : w.grownBy w' v.ownBlock) (hB : B ≤ w.heap.size) (hb : B ≤ base) : Below B W w' :=
  h.grown hg hB (fun k e => by have := (hw.lt k e).1; omega)
theorem own_snoc (l m : List Nat) : l.map byteV ++ m.map byteV = (l ++ m).map byteV := by rw [List.map_append]
theorem byt_new (w : World) (l : List Nat) (fr : Nat × Nat) (h8 : B8 l) (hl : l.length ≤ maxLen) : Byt (w.alloc (.cells (l.map fun (x : Nat) => Value.int .u8 (x : Int)).toArray 5 fr)) (.slice (some ⟨w.heap.size, 0, none⟩) l.length l.length) l := by
  refine ⟨h8, some ⟨w.heap.size, 0, none⟩, l.length, rfl, Nat.le_refl _, hl, w.heap.size, 0, fun _ => ⟨rfl, by simp⟩, fun i x hx => ?_⟩
  rw [Nat.zero_add, cell_of_row _ _ _ _ _ _ (heap_alloc_new _ _)]
  simp [hx]
def MadeY (w : World) (l : List Nat) (e : Ending) (w' : World) : Prop := ∃ v, e = .returned v ∧ Byt w' v l ∧ NilOk v ∧ Below w.heap.size w w'
theorem take_succ' {l : List Nat} {k x : Nat} (h : l[k]? = some x) : l.take (k + 1) = l.take k ++ [x] := by
  obtain ⟨hk, rfl⟩ := List.getElem?_eq_some_iff.1 h
  rw [List.take_succ_eq_append_getElem hk]
theorem byt_one (w : World) (z : Nat) (hz : z < 256) : Byt (w.alloc (.cells #[.int .u8 (z : Int)] 5)) (.slice (some ⟨w.heap.size, 0, none⟩) 1 1) [z] :=
  byt_new w [z] (0, 0) (fun x hx => by simp at hx; omega) (by unfold maxLen; simp)
theorem int_eq {a b : Int} (h : a = b) : Value.int .i64 a = .int .i64 b := by rw [h]
set_option maxHeartbeats 2000000 in
set_option maxRecDepth 100000 in
theorem clone_any (l : List Nat) (v : Value) (w : World) (hv : Byt w v l) (hn : NilOk v) (hl : l.length ≤ 900000000000) :
    Calls Try.prog 46 #[v] w fun e w' => ∃ v', e = .returned v' ∧ w'.ownsRow w.heap.size 5 1 v' l.length (l.map byteV) ∧ Below w.heap.size w w' := by
  obtain ⟨A, ca, rfl⟩ := byt_form hv
  have HV := hid hv
  have HN := hid hn
  rcases A with _ | ad
  · have hl0 : l = [] := by
      obtain ⟨_, A, cap, e, h1, h2, b, off, hA, _⟩ := hv
      rcases Nat.eq_zero_or_pos l.length with h0 | h0
      · exact List.eq_nil_of_length_eq_zero h0
      · have := (hA h0).1
        injection e with e1
        rw [← e1] at this
        cases this
    subst hl0
    have hc := hn _ _ rfl
    subst hc
    clear hv hn
    have hq := fun (w : World) (a : Option Addr) (n c : Nat) => Lib.run_eql_slice_nil (P := Try.prog) w 25 5 a n c 0 0 Try.underlying25
    go_enter Try.func46, Try.ntmps46
    go_wp2
    go_ret
    exact ⟨_, rfl, World.ownsRow_nil _ _ _ _, Below.refl _ _⟩
  · clear hv hn
    have hq := fun (w : World) (a : Option Addr) (n c : Nat) => Lib.run_eql_slice_nil (P := Try.prog) w 25 5 a n c 0 0 Try.underlying25
    go_enter Try.func46, Try.ntmps46
    go_wp2_with (at_builtin; refine append_byt rfl (.tmp 5) (.tmp 6) rfl w.heap.size _ 0 [] rfl (own_empty w) l _ rfl (HV.out.below (al1 _ _)) HN.out (by omega) (by simp) ?_; intro v1 w1 hown1 hg1; have HB1 := hid (below_own (al1 w _) (own_empty w) hg1 (by simp) (Nat.le_refl _)); have HO1 := hid hown1; clear hown1 hg1)
    obtain ⟨av, cv, rfl⟩ := own_form HO1.out
    go_wp2
    go_ret
    exact ⟨_, rfl, by have h := HO1.out; simpa using h, HB1.out⟩
/-- What a call that makes bytes of its own answers. -/
def MadeO (w : World) (l : List Nat) (e : Ending) (w' : World) : Prop := ∃ v, e = .returned v ∧ w'.ownsRow w.heap.size 5 1 v l.length (l.map byteV) ∧ Below w.heap.size w w'
theorem MadeO.made {w w' : World} {l : List Nat} {e : Ending} (h : MadeO w l e w') (h8 : B8 l) : MadeY w l e w' := by
  obtain ⟨v, rfl, ho, hb⟩ := h
  exact ⟨v, rfl, byt_of_own ho h8, own_nilOk ho, hb⟩
theorem byt_one_at (w : World) (b : Nat) (z : Int) (h : z = (b : Int)) (hz : b < 256) : Byt (w.alloc (.cells #[.int .u8 z] 5)) (.slice (some ⟨w.heap.size, 0, none⟩) 1 1) [b] := by
  subst h
  exact byt_one w b hz
/-- Of what was there, block g alone may have changed. -/
structure Upd (g : Nat) (w w' : World) : Prop where
  low : Below 0 w w'
  block : ∀ k, k < w.heap.size → k ≠ g → w'.heap[k]? = w.heap[k]?
theorem Upd.refl (g : Nat) (w : World) : Upd g w w := ⟨Below.refl _ _, fun _ _ _ => rfl⟩
theorem Upd.trans {g : Nat} {a b c : World} (h : Upd g a b) (k : Upd g b c) : Upd g a c :=
  ⟨h.low.trans k.low, fun i hi hg => (k.block i (Nat.lt_of_lt_of_le hi h.low.size) hg).trans (h.block i hi hg)⟩
theorem Upd.set {g : Nat} {a b : World} (h : Upd g a b) (i : Nat) (v : Value) : Upd g a (b.setCell ⟨g, i, none⟩ v) :=
  ⟨h.low.setCell (Nat.zero_le _) v, fun k hk hg => (Below.heap_setCell _ _ _ _ hg).trans (h.block k hk hg)⟩
theorem Upd.alloc {g : Nat} {a b : World} (h : Upd g a b) (o : Obj) : Upd g a (b.alloc o) :=
  ⟨h.low.alloc (Nat.zero_le _) o, fun k hk hg => (Below.heap_alloc _ _ _ (Nat.lt_of_lt_of_le hk h.low.size)).trans (h.block k hk hg)⟩
theorem Upd.drew {g : Nat} {a b : World} (h : Upd g a b) : Upd g a b.drew := ⟨h.low.drew, h.block⟩
theorem Upd.grown {g : Nat} {a b c : World} {row : Option Nat} (h : Upd g a b) (hg : b.grownBy c row) (hr : ∀ k, row = some k → a.heap.size ≤ k) : Upd g a c :=
  ⟨h.low.grown hg (Nat.zero_le _) (fun _ _ => Nat.zero_le _), fun k hk hkg => (hg.block k (Nat.lt_of_lt_of_le hk h.low.size) (fun e => by have := hr k e.symm; omega)).trans (h.block k hk hkg)⟩
theorem Upd.below {g B : Nat} {a b : World} (h : Upd g a b) (hg : B ≤ g) (hB : B ≤ a.heap.size) : Below B a b :=
  ⟨h.low.os, h.low.tape, h.low.output, h.low.size, fun k hk => h.block k (by omega) (by omega)⟩
theorem Upd.of_below {g : Nat} {a b c : World} (h : Upd g a b) (k : Below b.heap.size b c) : Upd g a c :=
  ⟨h.low.trans (k.mono (Nat.zero_le _)), fun i hi hg => (k.block i (Nat.lt_of_lt_of_le hi h.low.size)).trans (h.block i hi hg)⟩
theorem box_lt {w : World} {g : Nat} {o : Obj} (h : w.heap[g]? = some o) : g < w.heap.size := (Array.getElem?_eq_some_iff.1 h).1
theorem box_s0 {w : World} {g : Nat} {a b : Value} {t : TypeId} (h : w.heap[g]? = some (.cells #[a, b] t)) (v : Value) : (w.setCell ⟨g, 0, none⟩ v).heap[g]? = some (.cells #[v, b] t) := by
  show (w.heap.modify g _)[g]? = _
  obtain ⟨hlt, hk⟩ := Array.getElem?_eq_some_iff.1 h
  rw [Array.getElem?_eq_getElem (by rw [Array.size_modify]; exact hlt), Array.getElem_modify_self, hk]
  rfl
theorem box_s1 {w : World} {g : Nat} {a b : Value} {t : TypeId} (h : w.heap[g]? = some (.cells #[a, b] t)) (v : Value) : (w.setCell ⟨g, 1, none⟩ v).heap[g]? = some (.cells #[a, v] t) := by
  show (w.heap.modify g _)[g]? = _
  obtain ⟨hlt, hk⟩ := Array.getElem?_eq_some_iff.1 h
  rw [Array.getElem?_eq_getElem (by rw [Array.size_modify]; exact hlt), Array.getElem_modify_self, hk]
  rfl
theorem box_fr {w : World} {g : Nat} {cs : Array Value} {t : TypeId} (h : w.heap[g]? = some (.cells cs t)) (i : Nat) : w.frozen? ⟨g, i, none⟩ = false := by
  unfold World.frozen?
  rw [h]
  simp
def fromA (A : Option Addr) (c k : Nat) : Option Addr := if c = k then A else A.map (fun x => x.add k)
theorem run_slice_from (A : Option Addr) (n c k : Nat) (hk : k ≤ n) (W : World) : (Instr.slice 25 (.slice A n c) (some (.int .i64 (k : Int))) none none).run Try.prog W = .ok (.slice (fromA A c k) (n - k) (c - k)) W := by
  simp [Instr.slice, run_underlying Try.underlying25, Instr.sliceBounds, Sem.run_bind, run_sliceBound_if, fromA]
  intro h
  omega
theorem byt_from {w : World} {A : Option Addr} {cap k : Nat} {x : List Nat} (h : Byt w (.slice A x.length cap) x) (hk : k ≤ x.length) : Byt w (.slice (fromA A cap k) (x.length - k) (cap - k)) (x.drop k) := by
  obtain ⟨h8, A', cap', e, h1, h2, b, off, hA, hc⟩ := h
  injection e with e1 e2 e3
  subst e1 e3
  refine ⟨fun y hy => h8 y (List.mem_of_mem_drop hy), fromA A cap k, cap - k, by rw [List.length_drop], by rw [List.length_drop]; omega, by omega, b, off + k, fun h => ?_, fun i y hy => ?_⟩
  · rw [List.length_drop] at h
    obtain ⟨hA1, hA2⟩ := hA (by omega)
    refine ⟨?_, hA2⟩
    unfold fromA
    rw [if_neg (by omega), hA1]
    simp [Addr.add]
  · rw [List.getElem?_drop] at hy
    rw [Nat.add_assoc]
    exact hc _ _ hy
theorem byt_cap {w : World} {A : Option Addr} {n c : Nat} {l : List Nat} (h : Byt w (.slice A n c) l) : l.length ≤ c := by
  obtain ⟨_, A', c', e, h1, _⟩ := h
  injection e with _ _ e3
  omega
/-- Blocks with cells of type T are as they were. -/
def Keep (T : TypeId) (w w' : World) : Prop := ∀ (k : Nat) (cs : Array Value), w.heap[k]? = some (.cells cs T) → w'.heap[k]? = some (.cells cs T)
theorem Keep.trans {T : TypeId} {a b c : World} (h : Keep T a b) (k : Keep T b c) : Keep T a c := fun i cs hi => k i cs (h i cs hi)
theorem keep_below {T : TypeId} {a b : World} (h : Below a.heap.size a b) : Keep T a b := fun i _ hi => (h.block i (box_lt hi)).trans hi
theorem keep_grown {T E : TypeId} {st base n : Nat} {a b : World} {v : Value} {xs : List Value} (ho : a.ownsRow base E st v n xs) (hT : T ≠ E) (hg : a.grownBy b v.ownBlock) : Keep T a b := fun i cs hi => by
  refine (hg.block i (box_lt hi) ?_).trans hi
  rcases ho.2 with ⟨rfl, _⟩ | ⟨k, cap, cur, rfl, _, hgb, _⟩
  · simp [Value.ownBlock]
  · intro e
    obtain rfl : i = k := by simpa [Value.ownBlock] using e
    have := hi.symm.trans hgb
    simp at this
    exact hT this.2
theorem own_keep {T : TypeId} {st base n : Nat} {a b : World} {v : Value} {xs : List Value} (ho : a.ownsRow base T st v n xs) (h : Keep T a b) : b.ownsRow base T st v n xs := by
  refine ⟨ho.1, ?_⟩
  rcases ho.2 with h0 | ⟨k, cap, cur, e, hb, hgb, h2⟩
  · exact .inl h0
  · exact .inr ⟨k, cap, cur, e, hb, h _ _ hgb, h2⟩
theorem byt_none {w : World} {n c : Nat} {l : List Nat} (h : Byt w (.slice none n c) l) : l = [] := by
  obtain ⟨_, A, cap, e, h1, h2, b, off, hA, _⟩ := h
  injection e with e1
  rcases Nat.eq_zero_or_pos l.length with h0 | h0
  · exact List.eq_nil_of_length_eq_zero h0
  · have := (hA h0).1
    rw [← e1] at this
    cases this
def ints (l : List Nat) : List Int := l.map fun (x : Nat) => (x : Int)
set_option maxRecDepth 100000 in
theorem byt_conv {w : World} {A : Option Addr} {n c : Nat} {l : List Nat} (h : Byt w (.slice A n c) l) : (convert 25 9 (.slice A n c)).run Try.prog w = .ok (.string (strOfNums (ints l))) w := by
  obtain ⟨h8, A', c', e, h1, h2, b, off, hA, hc⟩ := h
  injection e with e1 e2 e3
  subst e1 e2 e3
  rcases Nat.eq_zero_or_pos l.length with hn | hn
  · have hl : l = [] := List.eq_nil_of_length_eq_zero hn
    subst hl
    exact run_convert_bytes_zero w 25 5 Try.underlying25 Try.underlying5 A c 9 Try.underlying9
  · obtain ⟨rfl, _⟩ := hA hn
    refine run_convert_bytes_arg (P := Try.prog) w 25 5 Try.underlying25 Try.underlying5 b off l.length c (ints l) (by simp [ints]) (fun i hi => ?_) 9 Try.underlying9
    rw [hc i l[i] (List.getElem?_eq_getElem hi)]
    simp [ints, List.getD, hi]
theorem run_slice_to (A : Option Addr) (n c k : Nat) (hk : k ≤ c) (W : World) : (Instr.slice 25 (.slice A n c) none (some (.int .i64 (k : Int))) none).run Try.prog W = .ok (.slice A k c) W := by
  simp [Instr.slice, run_underlying Try.underlying25, Instr.sliceBounds, Sem.run_bind, run_sliceBound_if]
  rw [if_pos hk]
  have e : (if c = 0 then A else Option.map (fun (x : Addr) => x.add 0) A) = A := by
    rcases A with _ | a
    · simp
    · simp [Addr.add]
  rw [e]
/-- The slice value v reads as rows of st cells each. -/
def Arr (w : World) (v : Value) (st : Nat) (rows : List (List Value)) : Prop :=
  ∃ A cap, v = .slice A rows.length cap ∧ rows.length ≤ cap ∧ cap ≤ maxLen ∧ ∃ b off, (0 < rows.length → A = some ⟨b, off, none⟩ ∧ b < w.heap.size) ∧ ∀ (i : Nat) (r : List Value), rows[i]? = some r → ∀ (j : Nat) (u : Value), r[j]? = some u → w.cell? ⟨b, off + i * st + j, none⟩ = some u
theorem Arr.below {w w' : World} {v : Value} {st : Nat} {rows : List (List Value)} (h : Arr w v st rows) (hb : Below w.heap.size w w') : Arr w' v st rows := by
  obtain ⟨A, cap, e, h1, h2, b, off, hA, hc⟩ := h
  refine ⟨A, cap, e, h1, h2, b, off, fun h => ⟨(hA h).1, Nat.lt_of_lt_of_le (hA h).2 hb.size⟩, fun i r hi j u hj => ?_⟩
  have hl := (List.getElem?_eq_some_iff.1 hi).1
  exact (hb.cell (p := ⟨b, _, none⟩) (hA (by omega)).2).trans (hc i r hi j u hj)
theorem arr_form {w : World} {v : Value} {st : Nat} {rows : List (List Value)} (h : Arr w v st rows) : ∃ A cap, v = .slice A rows.length cap := by
  obtain ⟨A, cap, e, _⟩ := h
  exact ⟨A, cap, e⟩
theorem arr_nil (w : World) (st : Nat) : Arr w (.slice none 0 0) st [] := ⟨none, 0, rfl, Nat.le_refl _, by unfold maxLen; omega, 0, 0, fun h => absurd h (by simp), fun i r h => by simp at h⟩
def cSec (s : List Nat) : List Value := s.map byteV
/-- Sectors of eight bytes. -/
def Secs (ll : List (List Nat)) : Prop := ∀ s ∈ ll, s.length = 8 ∧ B8 s
/-- The value v reads as the sectors ll; as the extents; as the writes. -/
def Sec (w : World) (v : Value) (ll : List (List Nat)) : Prop := Secs ll ∧ Arr w v 8 (ll.map cSec)
theorem Sec.below {w w' : World} {v : Value} {ll : List (List Nat)} (h : Sec w v ll) (hb : Below w.heap.size w w') : Sec w' v ll := ⟨h.1, h.2.below hb⟩
theorem sec_form {w : World} {v : Value} {ll : List (List Nat)} (h : Sec w v ll) : ∃ A c, v = .slice A ll.length c := by
  obtain ⟨A, c, e⟩ := arr_form h.2
  rw [List.length_map] at e
  exact ⟨A, c, e⟩
theorem list8 {α : Type} {s : List α} (h : s.length = 8) : ∃ x0 x1 x2 x3 x4 x5 x6 x7, s = [x0, x1, x2, x3, x4, x5, x6, x7] := by
  match s, h with
  | [x0, x1, x2, x3, x4, x5, x6, x7], _ => exact ⟨x0, x1, x2, x3, x4, x5, x6, x7, rfl⟩
theorem info41 : (Try.prog.info? 52).map (fun i => (i.zero, i.size, i.bytes)) = some (some (.agg #[.int .u8 0, .int .u8 0, .int .u8 0, .int .u8 0, .int .u8 0, .int .u8 0, .int .u8 0, .int .u8 0]), 8, 8) := by kernel_rfl
theorem bytes_inj : ∀ {p x : List Nat}, p.map byteV = x.map byteV → p = x
  | [], [], _ => rfl
  | [], _ :: _, h => by simp at h
  | _ :: _, [], h => by simp at h
  | a :: p, b :: x, h => by
    rw [List.map_cons, List.map_cons] at h
    injection h with h1 h2
    unfold byteV at h1
    injection h1 with _ h1
    rw [show a = b by omega, bytes_inj h2]
theorem flat_getG {α : Type} {st : Nat} {rows : List (List α)} (h : ∀ r ∈ rows, r.length = st) : ∀ {i j : Nat} {r : List α}, rows[i]? = some r → j < st → rows.flatten[i * st + j]? = r[j]? := by
  induction rows with
  | nil => intro i j r hr _; simp at hr
  | cons t rows ih =>
    intro i j r hr hj
    have ht := h t (List.mem_cons_self ..)
    rw [List.flatten_cons]
    rcases i with _ | i
    · simp at hr
      subst hr
      rw [List.getElem?_append_left (by omega)]
      simp
    · rw [List.getElem?_append_right (by rw [ht, Nat.succ_mul]; omega), ht]
      have e : (i + 1) * st + j - st = i * st + j := by rw [Nat.succ_mul]; omega
      rw [e]
      exact ih (fun u hu => h u (List.mem_cons_of_mem _ hu)) (by simpa using hr) hj
theorem arr_at {w : World} {g : Nat} {T : TypeId} {st n c : Nat} {rows : List (List Value)} {fr : Nat × Nat} {cs : Array Value} (h : ∀ r ∈ rows, r.length = st) (hn : n = rows.length) (hc : n ≤ c) (hm : c ≤ maxLen) (hg : w.heap[g]? = some (.cells cs T fr)) (hcs : ∀ (k : Nat) (u : Value), rows.flatten[k]? = some u → cs[k]? = some u) : Arr w (.slice (some ⟨g, 0, none⟩) n c) st rows := by
  subst hn
  refine ⟨_, _, rfl, hc, hm, g, 0, fun _ => ⟨rfl, box_lt hg⟩, fun i r hr j u hu => ?_⟩
  have hj : j < st := by rw [← h r (List.mem_of_getElem? hr)]; exact (List.getElem?_eq_some_iff.1 hu).1
  rw [Nat.zero_add, cell_of_row _ _ _ _ _ _ hg]
  exact hcs _ _ ((flat_getG h hr hj).trans hu)
theorem arr_of_own {E : TypeId} {st base n : Nat} {w : World} {v : Value} {rows : List (List Value)} (ho : w.ownsRow base E st v n rows.flatten) (hn : rows.length = n) (hr : ∀ r ∈ rows, r.length = st) : Arr w v st rows := by
  rcases ho.2 with ⟨rfl, h0⟩ | ⟨g, cap, cur, rfl, _, hg, hc, hm, hs, ht⟩
  · obtain rfl : rows = [] := List.eq_nil_of_length_eq_zero (by omega)
    exact arr_nil _ _
  · refine arr_at hr hn.symm hc hm hg (fun k u hu => ?_)
    rw [← ht, List.getElem?_take] at hu
    split at hu
    · simpa using hu
    · cases hu
def SaysQ (b : Bool) (w : World) (e : Ending) (w' : World) : Prop := e = .returned (.bool b) ∧ ∃ m, w' = w.drewN m
theorem cell_byte {x : Nat} (h : x < 256) : Extern.Stop.cell (UInt8.ofNat x) = byteV x := by
  unfold Extern.Stop.cell byteV
  rw [UInt8.toNat_ofNat', Nat.mod_eq_of_lt h]
  rfl
theorem map_cells {l : List Nat} (h : B8 l) : (l.map UInt8.ofNat).map Extern.Stop.cell = l.map byteV := by
  rw [List.map_map]
  exact List.map_congr_left (fun x hx => cell_byte (h x hx))
theorem size5 (w : World) : (sizeOf 5).run Try.prog w = .ok 1 w := by kernel_rfl
theorem map_u8_inj {l m : List Nat} (hl : B8 l) (hm : B8 m) : (l.map UInt8.ofNat == m.map UInt8.ofNat) = (l == m) := by
  rw [Bool.eq_iff_iff, beq_iff_eq, beq_iff_eq]
  refine ⟨fun h => ?_, fun h => by rw [h]⟩
  have h2 := congrArg (List.map UInt8.toNat) h
  rw [List.map_map, List.map_map] at h2
  have e : ∀ k : List Nat, B8 k → k.map (UInt8.toNat ∘ UInt8.ofNat) = k := fun k hk => by
    conv => rhs; rw [← List.map_id k]
    exact List.map_congr_left (fun x hx => by
      show (UInt8.ofNat x).toNat = x
      rw [UInt8.toNat_ofNat', Nat.mod_eq_of_lt (hk x hx)])
  rw [e l hl, e m hm] at h2
  exact h2
theorem eql_bytes (t n : Nat) (ht : Try.prog.underlying t = some (.array n 5)) (l m : List Nat) (hl : B8 l) (hm : B8 m) (h1 : l.length = n) (h2 : m.length = n) (w : World) :
    (Op.equalIn 10000 t (.agg (l.map byteV).toArray) (.agg (m.map byteV).toArray)).run Try.prog w = .ok (l == m) w := by
  have h := run_equalIn_bytes (P := Try.prog) w 9998 t 5 n ht Try.underlying5 size5 (l.map UInt8.ofNat) (m.map UInt8.ofNat) (by rw [List.length_map]; exact h1) (by rw [List.length_map]; exact h2)
  rw [map_cells hl, map_cells hm, map_u8_inj hl hm] at h
  exact h
theorem eql_sec (x y : List Nat) (hx : x.length = 8) (hy : y.length = 8) (h8 : B8 x) (h8' : B8 y) (W : World) : (Op.equalIn 10000 52 (.agg (cSec x).toArray) (.agg (cSec y).toArray)).run Try.prog W = .ok (decide (x = y)) W := by
  have h := eql_bytes 52 8 Try.underlying52 x y h8 h8' hx hy W
  have e : (x == y) = decide (x = y) := by rw [Bool.eq_iff_iff]; simp
  rw [e] at h
  exact h
set_option maxHeartbeats 2000000 in
set_option maxRecDepth 100000 in
theorem eqSame_any (xs ys : List (List Nat)) (v u : Value) (w : World) (hv : Arr w v 8 (xs.map cSec)) (hu : Arr w u 8 (ys.map cSec)) (hok1 : Secs xs) (hok2 : Secs ys) :
    Calls Try.prog 16 #[v, u] w (SaysQ (decide (xs = ys)) w) := by
  obtain ⟨C1, k1, rfl, hcap1, hcm1, b1, o1, hA1, hc1⟩ := hv
  obtain ⟨C2, k2, rfl, hcap2, hcm2, b2, o2, hA2, hc2⟩ := hu
  unfold maxLen at hcm1 hcm2
  rw [List.length_map] at hcap1 hA1 hcap2 hA2 ⊢
  rw [List.length_map]
  have HC1 := hid hc1
  have HC2 := hid hc2
  have HOK1 := hid hok1
  have HOK2 := hid hok2
  clear hok1 hok2
  clear hc1 hc2
  by_cases hlen : xs.length = ys.length
  · have d1 : ((xs.length : Int) != (ys.length : Int)) = false := by rw [hlen]; simp
    have HLEN := hid hlen
    clear hlen
    go_enter Try.func16, Try.ntmps16
    go_wp2
    go_loopw [5] (fun i wr => ∃ k : Nat, k ≤ xs.length ∧ i = .int .i64 (k : Int) ∧ Hid (xs.take k = ys.take k) ∧ ∃ q, wr = w.drewN q) (fun i _ => xs.length - (Go.RowKit.intOf i).toNat)
    case atStart => exact ⟨0, by omega, rfl, hid (by simp), 0, rfl⟩
    case round =>
      obtain ⟨k, hk, rfl, HT, q, rfl⟩ := hrel
      by_cases hkl : k < xs.length
      · have hl2 : k < ys.length := by have := HLEN.out; omega
        obtain ⟨e1, hb1⟩ := hA1 (by omega)
        obtain ⟨e2, hb2⟩ := hA2 (by omega)
        subst e1 e2
        obtain ⟨x, hx⟩ : ∃ x, xs[k]? = some x := ⟨xs[k], List.getElem?_eq_getElem hkl⟩
        obtain ⟨y, hy⟩ : ∃ y, ys[k]? = some y := ⟨ys[k], List.getElem?_eq_getElem hl2⟩
        have hr1 : ∀ (j : Nat) (z : Value), (cSec x)[j]? = some z → w.cell? ⟨b1, o1 + k * 8 + j, none⟩ = some z := fun j z hz => HC1.out k _ (by rw [List.getElem?_map, hx]; rfl) j z hz
        have hr2 : ∀ (j : Nat) (z : Value), (cSec y)[j]? = some z → w.cell? ⟨b2, o2 + k * 8 + j, none⟩ = some z := fun j z hz => HC2.out k _ (by rw [List.getElem?_map, hy]; rfl) j z hz
        have hnext : x = y → xs.take (k + 1) = ys.take (k + 1) := fun h => by
          obtain ⟨h1, h3⟩ := List.getElem?_eq_some_iff.1 hx
          obtain ⟨h2, h4⟩ := List.getElem?_eq_some_iff.1 hy
          rw [List.take_succ_eq_append_getElem h1, List.take_succ_eq_append_getElem h2, HT.out, h3, h4, h]
        have hdiff : x ≠ y → decide (xs = ys) = false := fun h => decide_eq_false (fun e => by rw [e, hy] at hx; injection hx with hx; exact h hx.symm)
        have hxo := HOK1.out _ (List.mem_of_getElem? hx)
        have hyo := HOK2.out _ (List.mem_of_getElem? hy)
        obtain ⟨x0, x1, x2, x3, x4, x5, x6, x7, rfl⟩ := list8 hxo.1
        obtain ⟨y0, y1, y2, y3, y4, y5, y6, y7, rfl⟩ := list8 hyo.1
        have heq := fun (W : World) => eql_sec [x0, x1, x2, x3, x4, x5, x6, x7] [y0, y1, y2, y3, y4, y5, y6, y7] rfl rfl hxo.2 hyo.2 W
        have q0 : w.cell? ⟨b1, o1 + k * 8 + 0, none⟩ = some (.int .u8 (x0 : Int)) := hr1 0 _ rfl
        have p0 : w.cell? ⟨b2, o2 + k * 8 + 0, none⟩ = some (.int .u8 (y0 : Int)) := hr2 0 _ rfl
        have q1 : w.cell? ⟨b1, o1 + k * 8 + 1, none⟩ = some (.int .u8 (x1 : Int)) := hr1 1 _ rfl
        have p1 : w.cell? ⟨b2, o2 + k * 8 + 1, none⟩ = some (.int .u8 (y1 : Int)) := hr2 1 _ rfl
        have q2 : w.cell? ⟨b1, o1 + k * 8 + 2, none⟩ = some (.int .u8 (x2 : Int)) := hr1 2 _ rfl
        have p2 : w.cell? ⟨b2, o2 + k * 8 + 2, none⟩ = some (.int .u8 (y2 : Int)) := hr2 2 _ rfl
        have q3 : w.cell? ⟨b1, o1 + k * 8 + 3, none⟩ = some (.int .u8 (x3 : Int)) := hr1 3 _ rfl
        have p3 : w.cell? ⟨b2, o2 + k * 8 + 3, none⟩ = some (.int .u8 (y3 : Int)) := hr2 3 _ rfl
        have q4 : w.cell? ⟨b1, o1 + k * 8 + 4, none⟩ = some (.int .u8 (x4 : Int)) := hr1 4 _ rfl
        have p4 : w.cell? ⟨b2, o2 + k * 8 + 4, none⟩ = some (.int .u8 (y4 : Int)) := hr2 4 _ rfl
        have q5 : w.cell? ⟨b1, o1 + k * 8 + 5, none⟩ = some (.int .u8 (x5 : Int)) := hr1 5 _ rfl
        have p5 : w.cell? ⟨b2, o2 + k * 8 + 5, none⟩ = some (.int .u8 (y5 : Int)) := hr2 5 _ rfl
        have q6 : w.cell? ⟨b1, o1 + k * 8 + 6, none⟩ = some (.int .u8 (x6 : Int)) := hr1 6 _ rfl
        have p6 : w.cell? ⟨b2, o2 + k * 8 + 6, none⟩ = some (.int .u8 (y6 : Int)) := hr2 6 _ rfl
        have q7 : w.cell? ⟨b1, o1 + k * 8 + 7, none⟩ = some (.int .u8 (x7 : Int)) := hr1 7 _ rfl
        have p7 : w.cell? ⟨b2, o2 + k * 8 + 7, none⟩ = some (.int .u8 (y7 : Int)) := hr2 7 _ rfl
        rw [Nat.add_zero] at q0 p0
        obtain ⟨bb, hbb⟩ : ∃ bb, decide ([x0, x1, x2, x3, x4, x5, x6, x7] = [y0, y1, y2, y3, y4, y5, y6, y7]) = bb := ⟨_, rfl⟩
        rw [hbb] at heq
        have heq2 : ∀ W : World, (Op.equalIn 10000 52 (.agg #[.int .u8 (x0 : Int), .int .u8 (x1 : Int), .int .u8 (x2 : Int), .int .u8 (x3 : Int), .int .u8 (x4 : Int), .int .u8 (x5 : Int), .int .u8 (x6 : Int), .int .u8 (x7 : Int)]) (.agg #[.int .u8 (y0 : Int), .int .u8 (y1 : Int), .int .u8 (y2 : Int), .int .u8 (y3 : Int), .int .u8 (y4 : Int), .int .u8 (y5 : Int), .int .u8 (y6 : Int), .int .u8 (y7 : Int)])).run Try.prog W = .ok bb W := heq
        clear heq hxo hyo
        clear hr1 hr2 hx hy
        by_cases hxy : bb = true
        · have HN := hid (hnext (of_decide_eq_true (hbb.trans hxy)))
          subst hxy
          clear hbb
          clear hnext hdiff
          go_wp2_with fail
          go_quiet (fail)
          go_wp2
          go_roundw
          case rel => exact ⟨k + 1, by omega, by go_num, HN, _, rfl⟩
          case measure => simp [Go.RowKit.intOf]; omega
        · have HD := hid (hdiff (of_decide_eq_false (hbb.trans (by simpa using hxy))))
          have hxf : bb = false := by simpa using hxy
          subst hxf
          clear hbb hxy
          clear hnext hdiff
          go_wp2_with fail
          go_quiet (fail)
          go_wp2
          go_ret
          exact ⟨(congrArg (fun b => Ending.returned (Value.bool b)) HD.out).symm, q + nq, by simp⟩
      · obtain rfl : k = xs.length := by omega
        have hall : xs = ys := by have h := HT.out; rwa [List.take_length, HLEN.out, List.take_length] at h
        have HD := hid (decide_eq_true hall)
        clear hall
        go_wp2
        go_ret
        exact ⟨(congrArg (fun b => Ending.returned (Value.bool b)) HD.out).symm, _, rfl⟩
  · have d1 : ((xs.length : Int) != (ys.length : Int)) = true := by rw [bne_iff_ne]; omega
    have HD : Hid (decide (xs = ys) = false) := hid (decide_eq_false (fun e => hlen (by rw [e])))
    clear hlen
    go_enter Try.func16, Try.ntmps16
    go_wp2
    go_ret
    exact ⟨(congrArg (fun b => Ending.returned (Value.bool b)) HD.out).symm, 0, rfl⟩
abbrev Sect := List Nat
/-- The sector s lies at an offset of a block. -/
def Sc (w : World) (b o : Nat) (s : List Nat) : Prop := ∀ (j : Nat) (u : Value), (cSec s)[j]? = some u → w.cell? ⟨b, o + j, none⟩ = some u
theorem Sc.facts {w : World} {b o x0 x1 x2 x3 x4 x5 x6 x7 : Nat} (h : Sc w b o [x0, x1, x2, x3, x4, x5, x6, x7]) :
    w.cell? ⟨b, o, none⟩ = some (.int .u8 (x0 : Int)) ∧ w.cell? ⟨b, o + 1, none⟩ = some (.int .u8 (x1 : Int)) ∧ w.cell? ⟨b, o + 2, none⟩ = some (.int .u8 (x2 : Int)) ∧ w.cell? ⟨b, o + 3, none⟩ = some (.int .u8 (x3 : Int)) ∧
    w.cell? ⟨b, o + 4, none⟩ = some (.int .u8 (x4 : Int)) ∧ w.cell? ⟨b, o + 5, none⟩ = some (.int .u8 (x5 : Int)) ∧ w.cell? ⟨b, o + 6, none⟩ = some (.int .u8 (x6 : Int)) ∧ w.cell? ⟨b, o + 7, none⟩ = some (.int .u8 (x7 : Int)) :=
  ⟨h 0 _ rfl, h 1 _ rfl, h 2 _ rfl, h 3 _ rfl, h 4 _ rfl, h 5 _ rfl, h 6 _ rfl, h 7 _ rfl⟩
theorem Sc.below {w w' : World} {b o : Nat} {s : List Nat} (h : Sc w b o s) (hlt : b < w.heap.size) (hb : Below w.heap.size w w') : Sc w' b o s :=
  fun j u hj => (hb.cell (p := ⟨b, o + j, none⟩) hlt).trans (h j u hj)
/-- A list of sectors that is not empty lies in a block. -/
theorem sec_at {w : World} {v : Value} {l : List (List Nat)} (h : Sec w v l) (h0 : l ≠ []) : ∃ b off cap, v = .slice (some ⟨b, off, none⟩) l.length cap ∧ l.length ≤ cap ∧ cap ≤ maxLen ∧ b < w.heap.size ∧ ∀ (i : Nat) (s : List Nat), l[i]? = some s → Sc w b (off + i * 8) s := by
  obtain ⟨_, A, cap, rfl, h1, h2, b, off, hA, hc⟩ := h
  rw [List.length_map] at hA h1
  obtain ⟨rfl, hb⟩ := hA (List.length_pos_iff.2 h0)
  exact ⟨b, off, cap, by rw [List.length_map], h1, h2, hb, fun i s hs j u hu => hc i _ (by rw [List.getElem?_map, hs]; rfl) j u hu⟩
theorem boxed_kept {W W' : World} {g : Nat} {T : TypeId} {v : Value} {row : Option Nat} (h : Boxed W g T v) (hg : W.grownBy W' row) (hr : ∀ r, row = some r → ∃ o : Obj, W.heap[r]? = some o ∧ o.isCells = false) : Boxed W' g T v := by
  refine (hg.block g h.lt (fun e => ?_)).trans h
  obtain ⟨o, ho, hc⟩ := hr g e.symm
  rw [show W.heap[g]? = _ from h] at ho
  cases ho
  cases hc
theorem keep_set {W : World} {g i : Nat} {T E : TypeId} {u v : Value} (h : Boxed W g E u) (hT : T ≠ E) : Keep T W (W.setCell ⟨g, i, none⟩ v) := fun k cs hk => by
  refine (Below.heap_setCell W ⟨g, i, none⟩ v k (fun e => ?_)).trans hk
  have e' : k = g := e
  subst e'
  rw [show W.heap[k]? = _ from h] at hk
  cases hk
  exact hT rfl
theorem byt_upto {w : World} {A : Option Addr} {n c : Nat} {l : List Nat} (h : Byt w (.slice A n c) l) (k : Nat) : Byt w (.slice A (l.take k).length c) (l.take k) := by
  obtain ⟨h8, A', cap, e, h1, h2, b, off, hA, hc⟩ := h
  injection e with e1 e2 e3
  subst e1 e3
  refine ⟨fun x hx => h8 x (List.mem_of_mem_take hx), A, c, rfl, by rw [List.length_take]; omega, h2, b, off, fun h => hA (by rw [List.length_take] at h; omega), fun i x hx => ?_⟩
  rw [List.getElem?_take] at hx
  split at hx
  · exact hc i x hx
  · cases hx
theorem below_both_drewN {B : Nat} {w0 w : World} (h : Below B w0 w) (n : Nat) : Below B w0 (w.drewN n) := ⟨h.os, h.tape, h.output, h.size, h.block⟩
/-- The panic with an error's number. -/
def Pan (er : Int) (e : Ending) : Prop := e = .panicked [{ v := .iface 29 (.int .i64 er), recovered := false }]
theorem set_mid {α : Type} (p r : List α) (z x : α) : (p ++ z :: r).set p.length x = p ++ x :: r := by simp
theorem set8 {α : Type} (p r : List α) (z0 z1 z2 z3 z4 z5 z6 z7 x0 x1 x2 x3 x4 x5 x6 x7 : α) (n : Nat) (hn : n = p.length) :
    ((((((((p ++ z0 :: z1 :: z2 :: z3 :: z4 :: z5 :: z6 :: z7 :: r).set n x0).set (n + 1) x1).set (n + 2) x2).set (n + 3) x3).set (n + 4) x4).set (n + 5) x5).set (n + 6) x6).set (n + 7) x7 = p ++ x0 :: x1 :: x2 :: x3 :: x4 :: x5 :: x6 :: x7 :: r := by
  subst hn
  simp
theorem box_set {w : World} {g : Nat} {cs : List Value} {t : TypeId} (h : w.heap[g]? = some (.cells cs.toArray t)) (i : Nat) (v : Value) : (w.setCell ⟨g, i, none⟩ v).heap[g]? = some (.cells (cs.set i v).toArray t) := by
  show (w.heap.modify g _)[g]? = _
  obtain ⟨hlt, hk⟩ := Array.getElem?_eq_some_iff.1 h
  rw [Array.getElem?_eq_getElem (by rw [Array.size_modify]; exact hlt), Array.getElem_modify_self, hk]
  simp
def zv8 : List Value := [.int .u8 0, .int .u8 0, .int .u8 0, .int .u8 0, .int .u8 0, .int .u8 0, .int .u8 0, .int .u8 0]
/-- n sectors, of which the first have been laid. -/
def laid (l : List Sect) (m : Nat) : List Value := (l.map cSec).flatten ++ (List.replicate m zv8).flatten
theorem flat_cells {l : List Sect} (h : Secs l) : (l.map cSec).flatten.length = 8 * l.length := by
  induction l with
  | nil => rfl
  | cons a l ih =>
    rw [List.map_cons, List.flatten_cons, List.length_append, ih (fun s hs => h s (List.mem_cons_of_mem _ hs)), List.length_cons]
    have := (h a (List.mem_cons_self ..)).1
    unfold cSec
    rw [List.length_map]
    omega
set_option maxRecDepth 100000 in
theorem made_secs (n : Nat) : madeCells (Value.agg #[.int .u8 0, .int .u8 0, .int .u8 0, .int .u8 0, .int .u8 0, .int .u8 0, .int .u8 0, .int .u8 0]).cells (n * 8) = (laid [] n).toArray := by
  have hz : ∀ i : Nat, (#[.int .u8 0, .int .u8 0, .int .u8 0, .int .u8 0, .int .u8 0, .int .u8 0, .int .u8 0, .int .u8 0] : Array Value)[i % 8]! = .int .u8 0 := fun i => by
    have h : i % 8 = 0 ∨ i % 8 = 1 ∨ i % 8 = 2 ∨ i % 8 = 3 ∨ i % 8 = 4 ∨ i % 8 = 5 ∨ i % 8 = 6 ∨ i % 8 = 7 := by omega
    rcases h with h | h | h | h | h | h | h | h <;> rw [h] <;> rfl
  have hf : ∀ n : Nat, (List.replicate n zv8).flatten = List.replicate (n * 8) (.int .u8 0) := fun n => by
    induction n with
    | zero => rfl
    | succ n ih =>
      rw [List.replicate_succ, List.flatten_cons, ih, show (n + 1) * 8 = 8 + n * 8 by omega, ← List.replicate_append_replicate]
      rfl
  apply Array.ext'
  unfold madeCells
  rw [Array.toList_map, Array.toList_range]
  unfold laid
  rw [hf]
  apply List.ext_getElem?
  intro i
  rw [List.getElem?_map]
  simp only [List.map_nil, List.flatten_nil, List.nil_append]
  rcases Nat.lt_or_ge i (n * 8) with h | h
  · rw [List.getElem?_range h, List.getElem?_replicate, if_pos h]
    exact congrArg some (hz i)
  · rw [List.getElem?_eq_none (by rw [List.length_range]; exact h), List.getElem?_eq_none (by rw [List.length_replicate]; exact h)]
    rfl
theorem byt_cap' {w : World} {A : Option Addr} {n c : Nat} {l : List Nat} (h : Byt w (.slice A n c) l) : n ≤ c := by
  obtain ⟨_, A', c', e, h1, _⟩ := h
  injection e with _ e2 e3
  omega
theorem byt_at {w : World} {A : Option Addr} {n c : Nat} {l : List Nat} (h : Byt w (.slice A n c) l) (hp : 0 < l.length) : ∃ b off, A = some ⟨b, off, none⟩ ∧ b < w.heap.size ∧ ∀ (i x : Nat), l[i]? = some x → w.cell? ⟨b, off + i, none⟩ = some (.int .u8 (x : Int)) := by
  obtain ⟨_, A', c', e, _, _, b, off, hA, hc⟩ := h
  injection e with e1
  subst e1
  exact ⟨b, off, (hA hp).1, (hA hp).2, hc⟩
theorem Upd.new {g : Nat} {a b : World} (h : Upd g a b) {c i : Nat} (hc : a.heap.size ≤ c) (u : Value) : Upd g a (b.setCell ⟨c, i, none⟩ u) :=
  ⟨h.low.setCell (Nat.zero_le _) u, fun k hk hg => (Below.heap_setCell _ _ _ _ (show k ≠ c by omega)).trans (h.block k hk hg)⟩
theorem nilOk_if {p : Prop} [Decidable p] (a b : Addr) (n c : Nat) : NilOk (.slice (if p then some a else some b) n c) := by
  split <;> exact nilOk_some _ _ _
theorem cells_one (l : List Sect) : ∀ u ∈ (l.map cSec).flatten, u.oneCell' = true := fun u hu => by
  obtain ⟨x, hx, hu⟩ := List.mem_flatten.1 hu
  obtain ⟨s, _, rfl⟩ := List.mem_map.1 hx
  exact byteV_one s u hu
theorem add_at' (b k : Nat) : (⟨b, 0, none⟩ : Addr).add k = ⟨b, k, none⟩ := by unfold Addr.add; split <;> simp_all
theorem keep_updc {T E : TypeId} {g : Nat} {a b : World} {x : Array Value} (h : Upd g a b) (hg : a.heap[g]? = some (.cells x E)) (hT : T ≠ E) : Keep T a b := fun i cs hi => by
  refine (h.block i (box_lt hi) (fun e => ?_)).trans hi
  subst e
  rw [hg] at hi
  cases hi
  exact hT rfl
theorem own_some {w : World} {base n c : Nat} {A : Option Addr} {xs : List Value} (h : w.ownsRow base 52 8 (.slice A n c) n xs) (hn : 0 < n) : ∃ b, A = some ⟨b, 0, none⟩ := by
  rcases h.2 with ⟨_, h0⟩ | ⟨g, cap, cur, e, _⟩
  · omega
  · injection e with e1
    exact ⟨g, e1⟩
theorem own_cells {w : World} {base n c b : Nat} {xs : List Value} (h : w.ownsRow base 52 8 (.slice (some ⟨b, 0, none⟩) n c) n xs) {j : Nat} {u : Value} (hj : xs[j]? = some u) : w.cell? ((⟨b, 0, none⟩ : Addr).add j) = some u := by
  rcases h.2 with ⟨e, _⟩ | ⟨g, cap, cur, e, _, hg, _, _, _, ht⟩
  · cases e
  · injection e with e1
    injection e1 with e1
    injection e1 with e1
    subst e1
    rw [add_at', cell_of_row _ _ _ _ _ _ hg]
    rw [← ht, List.getElem?_take] at hj
    split at hj
    · simpa using hj
    · cases hj
theorem und41 : Try.prog.underlying 52 = some (.array 8 5) := by kernel_rfl
theorem size41 : (Try.prog.info? 52).map (·.size) = some 8 := by kernel_rfl
set_option maxRecDepth 100000 in
theorem append_secs {ops : Array Oper} {rest : List Oper} {o : Oper} {a : Act} {w : World} {Q : Exit → Act → World → Prop} (hgd : o.guard = none) (s x : Operand) (ho : o.op = .call { callee := .builtin .append, args := #[s, x], argTypes := #[28, 28] })
    (base : Nat) (v : Value) (n : Nat) (olds : List Value) (hs : a.eval s = v) (hown : w.ownsRow base 52 8 v n olds) (l : List Sect) (ad : Addr) (m c : Nat) (hm : l.length = m) (hl : Secs l) (hx : a.eval x = .slice (some ad) m c)
    (hc : ∀ j u, (l.map cSec).flatten[j]? = some u → w.cell? (ad.add j) = some u) (b1 : n + m ≤ 100000000) (hbase : base ≤ w.heap.size)
    (h : ∀ v' w', w'.ownsRow base 52 8 v' (n + m) (olds ++ (l.map cSec).flatten) → w.grownBy w' v.ownBlock → wpList Try.prog ops Q rest (a.put o.dst v') w') : wpList Try.prog ops Q (o :: rest) a w := by
  obtain ⟨i0, hi, hz0, hz1, hz2⟩ := info_parts info41
  exact wpList_append_own w hgd s x 28 ho base 52 i0 _ 8 8 Try.underlying28 hi hz0 hz1 hz2 rfl (by decide) v n olds hs hown ad m c _ hx (by rw [flat_cells hl]; omega) hc (cells_one l) (by unfold maxLen; omega) (by omega) hbase (fun v' w' h1 h2 _ => h v' w' h1 h2)
theorem own_none41 (w : World) (base : Nat) : w.ownsRow base 52 8 (.slice none 0 0) 0 [] := World.ownsRow_nil _ _ _ _
end Go.Proofs.Ytcmmkeadbedooaa
