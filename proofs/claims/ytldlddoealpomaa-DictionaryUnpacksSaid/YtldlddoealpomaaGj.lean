/- small; what a law answers. -/
import Derived.Test.YtldlddoealpomaaGi
namespace Go.Proofs.Ytldlddoealpomaa
open Go.RowKit Go.Lib

set_option maxHeartbeats 4000000 in
set_option maxRecDepth 100000 in
theorem small_any (ns : List (Option Addr × Nat × Nat)) (r c : Nat) (w : World) (hr : w.heap[r]? = some (.cells (ns.map fun x => Value.slice x.1 x.2.1 x.2.2).toArray 22)) (hl : ns.length ≤ 100) (hm : ∀ x ∈ ns, x.2.1 ≤ 9223372036854775807) :
    Calls Try.prog 11 #[.slice (some ⟨r, 0, none⟩) ns.length c] w (fun e w' => e = .returned (.bool (decide (∀ x ∈ ns, x.2.1 ≤ 400))) ∧ w = w') := by
  obtain ⟨n, hn⟩ : ∃ n, ns.length = n := ⟨_, rfl⟩
  have HN := hid hn
  have HR := hid hr
  have HM := hid hm
  rw [hn] at hl ⊢
  obtain ⟨bb, hbb⟩ : ∃ bb, decide (∀ x ∈ ns, x.2.1 ≤ 400) = bb := ⟨_, rfl⟩
  have HBB := hid hbb
  rw [hbb]
  clear hn hr hm hbb
  go_enter Try.func11, Try.ntmps11
  go_wp2_with fail
  go_loopw [3] (fun j wr => wr = w ∧ ∃ k : Nat, k ≤ n ∧ j = .int .i64 (k : Int) ∧ Hid (∀ x ∈ ns.take k, x.2.1 ≤ 400)) (fun j _ => n - (Go.RowKit.intOf j).toNat)
  case atStart => exact ⟨rfl, 0, Nat.zero_le _, rfl, hid (fun x hx => by simp at hx)⟩
  case round =>
    obtain ⟨hw, k, hk, rfl, HK⟩ := hrel
    subst hw
    by_cases hkn : k < n
    · have hkc : (k : Int) < (n : Int) := by omega
      obtain ⟨x, hx⟩ : ∃ x, ns[k]? = some x := ⟨ns[k]'(by rw [HN.out]; exact hkn), List.getElem?_eq_getElem _⟩
      have hxm := HM.out x (List.mem_of_getElem? hx)
      have c0 : wr.cell? ⟨r, k, none⟩ = some (.slice x.1 x.2.1 x.2.2) := by
        rw [show (⟨r, k, none⟩ : Addr) = ⟨r, k, none⟩ from rfl, cell_of_row _ _ _ _ _ _ HR.out]
        simp [hx]
      have HX := hid hx
      obtain ⟨m, hmm⟩ : ∃ m, x.2.1 = m := ⟨_, rfl⟩
      have HMM := hid hmm
      rw [hmm] at c0 hxm
      clear hx hmm
      by_cases hbig : 400 < m
      · have d1 : (400 : Int) < (m : Int) := by omega
        obtain rfl : false = bb := by rw [← HBB.out]; exact (decide_eq_false (fun h => by have := h x (List.mem_of_getElem? HX.out); rw [HMM.out] at this; omega)).symm
        go_wp2_with fail
        go_ret
        exact ⟨rfl, rfl⟩
      · have d1 : ¬ (400 : Int) < (m : Int) := by omega
        go_wp2_with fail
        go_roundw
        case rel => exact ⟨trivial, k + 1, by omega, by go_num, hid (fun y hy => by
          rw [show ns.take (k + 1) = ns.take k ++ [x] by obtain ⟨hlt, rfl⟩ := List.getElem?_eq_some_iff.1 HX.out; rw [List.take_succ_eq_append_getElem hlt], List.mem_append, List.mem_singleton] at hy
          rcases hy with hy | rfl
          · exact HK.out y hy
          · rw [HMM.out]; omega)⟩
        case measure => simp [Go.RowKit.intOf]; omega
    · obtain rfl : k = n := by omega
      obtain rfl : true = bb := by rw [← HBB.out]; exact (decide_eq_true (fun y hy => HK.out y (by rw [List.take_of_length_le (by rw [HN.out]; omega)]; exact hy))).symm
      go_wp2_with fail
      go_ret
      exact ⟨rfl, rfl⟩
/-- What a law answers. -/
def GoodB (w : World) (e : Ending) (w' : World) : Prop := e = .returned (.bool true) ∧ Below w.heap.size w w'
end Go.Proofs.Ytldlddoealpomaa
