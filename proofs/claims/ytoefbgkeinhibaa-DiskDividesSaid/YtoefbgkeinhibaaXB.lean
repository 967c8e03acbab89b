/- Contracts that read a list of extents: Check and Same. -/
import Derived.Test.YtoefbgkeinhibaaXA
import Derived.LoopTactic
namespace Go.Proofs.Ytoefbgkeinhibaa.Xt
open Go.RowKit

/-- The value v reads as the list l, in memory that is there. -/
def Ext (w : World) (v : Value) (l : List (Int × Int)) : Prop :=
  (∀ e ∈ l, R64 e.1 ∧ R64 e.2) ∧ ∃ A cap, v = .slice A l.length cap ∧ l.length ≤ cap ∧ cap ≤ maxLen ∧
    ∃ b off, (0 < l.length → A = some ⟨b, off, none⟩ ∧ b < w.heap.size) ∧ ∀ i e, l[i]? = some e →
      w.cell? ⟨b, off + i * 2, none⟩ = some (.int .i64 e.1) ∧ w.cell? ⟨b, off + i * 2 + 1, none⟩ = some (.int .i64 e.2)

theorem Ext.below {w w' : World} {v : Value} {l : List (Int × Int)} (h : Ext w v l) (hb : Below w.heap.size w w') : Ext w' v l := by
  obtain ⟨hr, A, cap, hv, h1, h2, b, off, hA, hc⟩ := h
  refine ⟨hr, A, cap, hv, h1, h2, b, off, fun h0 => ⟨(hA h0).1, Nat.lt_of_lt_of_le (hA h0).2 hb.size⟩, fun i e hi => ?_⟩
  have hlt : b < w.heap.size := (hA (Nat.lt_of_le_of_lt (Nat.zero_le _) (List.getElem?_eq_some_iff.1 hi).1)).2
  exact ⟨(hb.cell (p := ⟨b, _, none⟩) hlt).trans (hc i e hi).1, (hb.cell (p := ⟨b, _, none⟩) hlt).trans (hc i e hi).2⟩

theorem ret_int {a b : Int} (h : a = b) : Ending.returned (.int .i64 a) = .returned (.int .i64 b) := by rw [h]

theorem box_cell {W w1 : World} {t : TypeId} {cs : Array Value} (hb : Below (W.alloc (.cells cs t)).heap.size (W.alloc (.cells cs t)) w1) (i : Nat) : w1.cell? ⟨W.heap.size, i, none⟩ = cs[i]? := by
  rw [hb.cell (p := ⟨W.heap.size, i, none⟩) (by simp)]
  exact cell_of_row _ _ _ cs t (0, 0) (heap_alloc_new W _)
theorem box_frozen {W w1 : World} {t : TypeId} {cs : Array Value} (hb : Below (W.alloc (.cells cs t)).heap.size (W.alloc (.cells cs t)) w1) (i : Nat) : w1.frozen? ⟨W.heap.size, i, none⟩ = false := by
  rw [hb.frozen (p := ⟨W.heap.size, i, none⟩) (by simp)]
  have h := heap_alloc_new W (.cells cs t)
  unfold World.frozen?
  rw [h]
  simp
theorem below_drewN {B : Nat} {a w : World} (h : Below B a w) (n : Nat) : Below B a (w.drewN n) := ⟨h.os, h.tape, h.output, h.size, h.block⟩
theorem below_more {B : Nat} {W w1 : World} {o : Obj} (hb : Below (W.alloc o).heap.size (W.alloc o) w1) (h : B ≤ W.heap.size) : Below B W w1 :=
  (((Below.refl B W).alloc h o).trans (hb.mono (by simp; omega)))

end Go.Proofs.Ytoefbgkeinhibaa.Xt
