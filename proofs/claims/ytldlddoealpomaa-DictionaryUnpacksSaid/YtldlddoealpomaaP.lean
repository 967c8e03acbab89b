/- The reader in its box: fail, number. -/
import Derived.Test.YtldlddoealpomaaF
namespace Go.Proofs.Ytldlddoealpomaa
open Go.RowKit Go.Lib

/-- Of what was there, block g alone may have changed. -/
structure Upd (g : Nat) (w w' : World) : Prop where
  low : Below 0 w w'
  block : ∀ k, k < w.heap.size → k ≠ g → w'.heap[k]? = w.heap[k]?
theorem Upd.refl (g : Nat) (w : World) : Upd g w w := ⟨Below.refl _ _, fun _ _ _ => rfl⟩
theorem Upd.trans {g : Nat} {a b c : World} (h : Upd g a b) (k : Upd g b c) : Upd g a c :=
  ⟨h.low.trans k.low, fun i hi hg => (k.block i (Nat.lt_of_lt_of_le hi h.low.size) hg).trans (h.block i hi hg)⟩
theorem Upd.set {g : Nat} {a b : World} (h : Upd g a b) (i : Nat) (v : Value) : Upd g a (b.setCell ⟨g, i, none⟩ v) :=
  ⟨h.low.setCell (Nat.zero_le _) v, fun k hk hg => (Below.heap_setCell _ _ _ _ hg).trans (h.block k hk hg)⟩
theorem Upd.alloc {g : Nat} {a b : World} (h : Upd g a b) (o : Obj) : Upd g a (b.alloc o) :=
  ⟨h.low.alloc (Nat.zero_le _) o, fun k hk hg => (Below.heap_alloc _ _ _ (Nat.lt_of_lt_of_le hk h.low.size)).trans (h.block k hk hg)⟩
theorem Upd.drew {g : Nat} {a b : World} (h : Upd g a b) : Upd g a b.drew := ⟨h.low.drew, h.block⟩
theorem Upd.grown {g : Nat} {a b c : World} {row : Option Nat} (h : Upd g a b) (hg : b.grownBy c row) (hr : ∀ k, row = some k → a.heap.size ≤ k) : Upd g a c :=
  ⟨h.low.grown hg (Nat.zero_le _) (fun _ _ => Nat.zero_le _), fun k hk hkg => (hg.block k (Nat.lt_of_lt_of_le hk h.low.size) (fun e => by have := hr k e.symm; omega)).trans (h.block k hk hkg)⟩
theorem Upd.below {g B : Nat} {a b : World} (h : Upd g a b) (hg : B ≤ g) (hB : B ≤ a.heap.size) : Below B a b :=
  ⟨h.low.os, h.low.tape, h.low.output, h.low.size, fun k hk => h.block k (by omega) (by omega)⟩
theorem Upd.of_below {g : Nat} {a b c : World} (h : Upd g a b) (k : Below b.heap.size b c) : Upd g a c :=
  ⟨h.low.trans (k.mono (Nat.zero_le _)), fun i hi hg => (k.block i (Nat.lt_of_lt_of_le hi h.low.size)).trans (h.block i hi hg)⟩

/-- The reader in block g has s left to be read, and the error er. -/
def Rd (w0 w : World) (g : Nat) (s : List Nat) (er : Int) : Prop := ∃ v, w.heap[g]? = some (.cells #[v, .int .i64 er] 126) ∧ Byt w0 v s ∧ NilOk v
theorem box_lt {w : World} {g : Nat} {o : Obj} (h : w.heap[g]? = some o) : g < w.heap.size := (Array.getElem?_eq_some_iff.1 h).1
theorem box_s0 {w : World} {g : Nat} {a b : Value} {t : TypeId} (h : w.heap[g]? = some (.cells #[a, b] t)) (v : Value) : (w.setCell ⟨g, 0, none⟩ v).heap[g]? = some (.cells #[v, b] t) := by
  show (w.heap.modify g _)[g]? = _
  obtain ⟨hlt, hk⟩ := Array.getElem?_eq_some_iff.1 h
  rw [Array.getElem?_eq_getElem (by rw [Array.size_modify]; exact hlt), Array.getElem_modify_self, hk]
  rfl
theorem box_s1 {w : World} {g : Nat} {a b : Value} {t : TypeId} (h : w.heap[g]? = some (.cells #[a, b] t)) (v : Value) : (w.setCell ⟨g, 1, none⟩ v).heap[g]? = some (.cells #[a, v] t) := by
  show (w.heap.modify g _)[g]? = _
  obtain ⟨hlt, hk⟩ := Array.getElem?_eq_some_iff.1 h
  rw [Array.getElem?_eq_getElem (by rw [Array.size_modify]; exact hlt), Array.getElem_modify_self, hk]
  rfl
theorem box_fr {w : World} {g : Nat} {cs : Array Value} {t : TypeId} (h : w.heap[g]? = some (.cells cs t)) (i : Nat) : w.frozen? ⟨g, i, none⟩ = false := by
  unfold World.frozen?
  rw [h]
  simp

def Failed (w0 w : World) (g : Nat) (er : Int) (e : Ending) (w' : World) : Prop := (∃ v, e = .returned v) ∧ Upd g w w' ∧ Rd w0 w' g [] er
set_option maxHeartbeats 2000000 in
set_option maxRecDepth 100000 in
theorem fail_new (s : List Nat) (er : Int) (g : Nat) (w0 w : World) (hr : Rd w0 w g s 0) :
    Calls Try.prog 77 #[.pointer (some ⟨g, 0, none⟩), .int .i64 er] w (Failed w0 w g er) := by
  obtain ⟨v, hb, hv, hn⟩ := hr
  have c1 : w.cell? ⟨g, 1, none⟩ = some (.int .i64 0) := cell_of_row _ _ 1 _ _ _ hb
  have c0 : w.cell? ⟨g, 0, none⟩ = some v := cell_of_row _ _ 0 _ _ _ hb
  have f1 := box_fr hb 1
  have f0 := box_fr hb 0
  have HB := hid hb
  clear hb
  go_enter Try.func77, Try.ntmps77
  go_wp2
  go_end0
  exact ⟨⟨_, rfl⟩, ((Upd.refl g w).set 1 _).set 0 _, _, box_s0 (box_s1 HB.out _) _, byt_nil _, nilOk_nil⟩
set_option maxHeartbeats 2000000 in
set_option maxRecDepth 100000 in
theorem fail_old (s : List Nat) (er er' : Int) (g : Nat) (w0 w : World) (hr : Rd w0 w g s er') (he : er' ≠ 0) :
    Calls Try.prog 77 #[.pointer (some ⟨g, 0, none⟩), .int .i64 er] w (Failed w0 w g er') := by
  obtain ⟨v, hb, hv, hn⟩ := hr
  have c1 : w.cell? ⟨g, 1, none⟩ = some (.int .i64 er') := cell_of_row _ _ 1 _ _ _ hb
  have c0 : w.cell? ⟨g, 0, none⟩ = some v := cell_of_row _ _ 0 _ _ _ hb
  have f1 := box_fr hb 1
  have f0 := box_fr hb 0
  have d1 : (er' == 0) = false := by simpa using he
  have HB := hid hb
  clear hb he
  go_enter Try.func77, Try.ntmps77
  go_wp2
  go_end0
  exact ⟨⟨_, rfl⟩, (Upd.refl g w).set 0 _, _, box_s0 HB.out _, byt_nil _, nilOk_nil⟩
end Go.Proofs.Ytldlddoealpomaa
