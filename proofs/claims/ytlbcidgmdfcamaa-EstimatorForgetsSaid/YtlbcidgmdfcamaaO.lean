/- Lists of steps as an argument. -/
import Derived.Test.YtlbcidgmdfcamaaI0
import Derived.Test.YtlbcidgmdfcamaaN
namespace Go.Proofs.Ytlbcidgmdfcamaa
open Go.RowKit Go.Lib
/-- A step: a timeout that has passed, or a sample. -/
abbrev Sq := Bool × Nat
def cSq (x : Sq) : List Value := [.bool x.1, .int .u16 (x.2 : Int)]
/-- The value v reads as the steps l. -/
def Sqs (w : World) (v : Value) (l : List Sq) : Prop := (∀ x ∈ l, x.2 < 65536) ∧ Arr w v 2 (l.map cSq)
theorem Sqs.below {w w' : World} {v : Value} {l : List Sq} (h : Sqs w v l) (hb : Below w.heap.size w w') : Sqs w' v l := ⟨h.1, h.2.below hb⟩
theorem sqs_form {w : World} {v : Value} {l : List Sq} (h : Sqs w v l) : ∃ A c, v = .slice A l.length c ∧ l.length ≤ 9223372036854775807 := by
  obtain ⟨A, c, e, h1, h2, _⟩ := h.2
  rw [List.length_map] at e h1
  exact ⟨A, c, e, by unfold maxLen at h2; omega⟩
theorem sqs_at {w : World} {A : Option Addr} {n c : Nat} {l : List Sq} (h : Sqs w (.slice A n c) l) {k : Nat} {x : Sq} (hx : l[k]? = some x) :
    ∃ b off, A = some ⟨b, off, none⟩ ∧ b < w.heap.size ∧ x.2 < 65536 ∧ w.cell? ⟨b, off + k * 2, none⟩ = some (.bool x.1) ∧ w.cell? ⟨b, off + k * 2 + 1, none⟩ = some (.int .u16 (x.2 : Int)) := by
  have hl := (List.getElem?_eq_some_iff.1 hx).1
  obtain ⟨b, off, e, hb, hc⟩ := arr_at1 h.2 (by rw [List.length_map]; omega)
  have hr : (l.map cSq)[k]? = some (cSq x) := by rw [List.getElem?_map, hx]; rfl
  exact ⟨b, off, e, hb, h.1 x (List.mem_of_getElem? hx), hc k _ hr 0 _ rfl, hc k _ hr 1 _ rfl⟩
end Go.Proofs.Ytlbcidgmdfcamaa
