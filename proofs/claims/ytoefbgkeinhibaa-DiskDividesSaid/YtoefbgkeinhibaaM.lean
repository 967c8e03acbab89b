/- SameInts of equal lists (from link); the laws' builders of operations: sync 38, sector 39, write 40. -/
import Derived.Test.YtoefbgkeinhibaaL
namespace Go.Proofs.Ytoefbgkeinhibaa
open Go.RowKit Go.Lib
def TrueQ (w : World) (e : Ending) (w' : World) : Prop := e = .returned (.bool true) ∧ Below w.heap.size w w'
set_option maxHeartbeats 4000000 in
set_option maxRecDepth 100000 in
theorem sameInts_any (l : List Int) (v u : Value) (w : World) (hv : Ints w v l) (hu : Ints w u l) (hl : l.length ≤ 1000000) : Calls Try.prog 33 #[v, u] w (TrueQ w) := by
  obtain ⟨A, c, rfl⟩ := ints_form hv
  obtain ⟨B, d, rfl⟩ := ints_form hu
  obtain ⟨N, hN⟩ : ∃ N, l.length = N := ⟨_, rfl⟩
  rw [hN] at hv hu hl ⊢
  have HV := hid hv
  have HU := hid hu
  have HN := hid hN
  have d1 : ((N : Int) != (N : Int)) = false := by simp
  clear hv hu hN
  go_enter Try.func33, Try.ntmps33
  go_wp2
  go_loopw [5] (fun i wr => ∃ k : Nat, k ≤ N ∧ i = .int .i64 (k : Int) ∧ ∃ q, wr = w.drewN q) (fun i _ => N - (Go.RowKit.intOf i).toNat)
  case atStart => exact ⟨0, by omega, rfl, 0, rfl⟩
  case round =>
    obtain ⟨k, hk, rfl, q, rfl⟩ := hrel
    by_cases hkl : k < N
    · have hkl' : (k : Int) < (N : Int) := by omega
      obtain ⟨b, off, rfl, hbl, hc⟩ := ints_cells HV.out (by rw [HN.out]; omega)
      obtain ⟨b2, off2, rfl, hbl2, hc2⟩ := ints_cells HU.out (by rw [HN.out]; omega)
      obtain ⟨x, hx⟩ : ∃ x, l[k]? = some x := ⟨l[k]'(by rw [HN.out]; exact hkl), List.getElem?_eq_getElem _⟩
      have p0 := hc k x hx
      have q0 := hc2 k x hx
      have dx : (x != x) = false := by simp
      clear hc hc2 hx
      go_wp2_with fail
      go_quiet (fail)
      go_wp2_with fail
      go_roundw
      case rel => exact ⟨k + 1, by omega, by go_num, _, rfl⟩
      case measure => simp [Go.RowKit.intOf]; omega
    · obtain rfl : k = N := by omega
      go_wp2
      go_ret
      exact ⟨rfl, below_both_drewN (Below.refl _ _) q⟩
theorem results_c {fn : Func} {p : Tmp} {ty : TypeId} (h : fn.results = #[.cell p ty]) (tmps : Array Value) (w : World) (g : Nat) (v : Value)
    (hp : tmps.getD p undef = .pointer (some ⟨g, 0, none⟩)) (hlv : (loadVar ty ⟨g, 0, none⟩).run Try.prog w = .ok v w) :
    (results fn tmps).run Try.prog w = .ok v w := by
  have hp' : tmps[p]?.getD undef = .pointer (some ⟨g, 0, none⟩) := by simpa using hp
  simp [results, h, hp', asAddr, hlv]
set_option maxRecDepth 100000 in
theorem syncOp_any (w : World) : Calls Try.prog 38 #[] w fun e w' => e = .returned (.agg #[.int .i64 1, .int .i64 0, .slice none 0 0]) ∧ Below w.heap.size w w' := by
  obtain ⟨g, hg⟩ : ∃ g, w.heap.size = g := ⟨_, rfl⟩
  obtain ⟨W1, hW1⟩ : ∃ X, w.alloc (.cells #[.int .i64 0, .int .i64 0, .slice none 0 0] 27) = X := ⟨_, rfl⟩
  have HB1 : Hid (Below w.heap.size w W1) := hid (by rw [← hW1]; exact al1 _ _)
  have HY1 : Hid (W1.heap[g]? = some (.cells #[.int .i64 0, .int .i64 0, .slice none 0 0] 27)) := hid (by rw [← hW1, ← hg]; exact heap_alloc_new _ _)
  have hge : w.heap.size ≤ g := Nat.le_of_eq hg
  have HW1 := hid hW1
  have HG := hid hg
  clear hW1 hg
  have y0 := cell_of_row _ _ 0 _ _ _ HY1.out
  have f0 := box_fr HY1.out 0
  have y1 := cell_of_row _ _ 1 _ _ _ HY1.out
  have f1 := box_fr HY1.out 1
  have y2 := cell_of_row _ _ 2 _ _ _ HY1.out
  have f2 := box_fr HY1.out 2
  go_enter Try.func38, Try.ntmps38
  go_upto_region 1 with fail
  rw [HW1.out, HG.out]
  go_wp2_with fail
  refine bodyPost_ret (results_c rfl _ _ g _ rfl (run_loadVar_row _ g 27 27 #[.int .i64 1, .int .i64 0, .slice none 0 0] (0, 0) _ (box_set (cs := [.int .i64 1, .int .i64 0, .slice none 0 0]) (box_set (cs := [.int .i64 1, .int .i64 0, .slice none 0 0]) (box_set (cs := [.int .i64 0, .int .i64 0, .slice none 0 0]) HY1.out 0 _) 1 _) 2 _) Try.underlying27 rfl rfl)) rfl ?_
  exact ⟨rfl, ((HB1.out.setCell hge _).setCell hge _).setCell hge _⟩
set_option maxRecDepth 100000 in
theorem writeOp_any (at_ : Int) (A : Option Addr) (n c : Nat) (w : World) : Calls Try.prog 40 #[.int .i64 at_, .slice A n c] w fun e w' => e = .returned (.agg #[.int .i64 0, .int .i64 at_, .slice A n c]) ∧ Below w.heap.size w w' := by
  obtain ⟨g, hg⟩ : ∃ g, w.heap.size = g := ⟨_, rfl⟩
  obtain ⟨W1, hW1⟩ : ∃ X, w.alloc (.cells #[.int .i64 0, .int .i64 0, .slice none 0 0] 27) = X := ⟨_, rfl⟩
  have HB1 : Hid (Below w.heap.size w W1) := hid (by rw [← hW1]; exact al1 _ _)
  have HY1 : Hid (W1.heap[g]? = some (.cells #[.int .i64 0, .int .i64 0, .slice none 0 0] 27)) := hid (by rw [← hW1, ← hg]; exact heap_alloc_new _ _)
  have hge : w.heap.size ≤ g := Nat.le_of_eq hg
  have HW1 := hid hW1
  have HG := hid hg
  clear hW1 hg
  have y0 := cell_of_row _ _ 0 _ _ _ HY1.out
  have f0 := box_fr HY1.out 0
  have y1 := cell_of_row _ _ 1 _ _ _ HY1.out
  have f1 := box_fr HY1.out 1
  have y2 := cell_of_row _ _ 2 _ _ _ HY1.out
  have f2 := box_fr HY1.out 2
  go_enter Try.func40, Try.ntmps40
  go_upto_region 1 with fail
  rw [HW1.out, HG.out]
  go_wp2_with fail
  refine bodyPost_ret (results_c rfl _ _ g _ rfl (run_loadVar_row _ g 27 27 #[.int .i64 0, .int .i64 at_, .slice A n c] (0, 0) _ (box_set (cs := [.int .i64 0, .int .i64 at_, .slice none 0 0]) (box_set (cs := [.int .i64 0, .int .i64 0, .slice none 0 0]) (box_set (cs := [.int .i64 0, .int .i64 0, .slice none 0 0]) HY1.out 0 _) 1 _) 2 _) Try.underlying27 rfl rfl)) rfl ?_
  exact ⟨rfl, ((HB1.out.setCell hge _).setCell hge _).setCell hge _⟩
set_option maxRecDepth 100000 in
theorem sectorOf_any (b : Nat) (w : World) : Calls Try.prog 39 #[.int .u8 (b : Int)] w fun e w' => e = .returned (.agg #[.int .u8 (b : Int), .int .u8 0, .int .u8 0, .int .u8 0, .int .u8 0, .int .u8 0, .int .u8 0, .int .u8 0]) ∧ Below w.heap.size w w' := by
  obtain ⟨g, hg⟩ : ∃ g, w.heap.size = g := ⟨_, rfl⟩
  obtain ⟨W1, hW1⟩ : ∃ X, w.alloc (.cells #[.int .u8 0, .int .u8 0, .int .u8 0, .int .u8 0, .int .u8 0, .int .u8 0, .int .u8 0, .int .u8 0] 73) = X := ⟨_, rfl⟩
  have HB1 : Hid (Below w.heap.size w W1) := hid (by rw [← hW1]; exact al1 _ _)
  have HY1 : Hid (W1.heap[g]? = some (.cells #[.int .u8 0, .int .u8 0, .int .u8 0, .int .u8 0, .int .u8 0, .int .u8 0, .int .u8 0, .int .u8 0] 73)) := hid (by rw [← hW1, ← hg]; exact heap_alloc_new _ _)
  have hge : w.heap.size ≤ g := Nat.le_of_eq hg
  have HW1 := hid hW1
  have HG := hid hg
  clear hW1 hg
  have y0 := cell_of_row _ _ 0 _ _ _ HY1.out
  have f0 := box_fr HY1.out 0
  have y1 := cell_of_row _ _ 1 _ _ _ HY1.out
  have f1 := box_fr HY1.out 1
  have y2 := cell_of_row _ _ 2 _ _ _ HY1.out
  have f2 := box_fr HY1.out 2
  have y3 := cell_of_row _ _ 3 _ _ _ HY1.out
  have f3 := box_fr HY1.out 3
  have y4 := cell_of_row _ _ 4 _ _ _ HY1.out
  have f4 := box_fr HY1.out 4
  have y5 := cell_of_row _ _ 5 _ _ _ HY1.out
  have f5 := box_fr HY1.out 5
  have y6 := cell_of_row _ _ 6 _ _ _ HY1.out
  have f6 := box_fr HY1.out 6
  have y7 := cell_of_row _ _ 7 _ _ _ HY1.out
  have f7 := box_fr HY1.out 7
  go_enter Try.func39, Try.ntmps39
  go_upto_region 1 with fail
  rw [HW1.out, HG.out]
  go_wp2_with fail
  refine bodyPost_ret (results_c rfl _ _ g _ rfl (run_loadVar_row _ g 73 73 #[.int .u8 (b : Int), .int .u8 0, .int .u8 0, .int .u8 0, .int .u8 0, .int .u8 0, .int .u8 0, .int .u8 0] (0, 0) _ (box_set (cs := [.int .u8 (b : Int), .int .u8 0, .int .u8 0, .int .u8 0, .int .u8 0, .int .u8 0, .int .u8 0, .int .u8 0]) (box_set (cs := [.int .u8 (b : Int), .int .u8 0, .int .u8 0, .int .u8 0, .int .u8 0, .int .u8 0, .int .u8 0, .int .u8 0]) (box_set (cs := [.int .u8 (b : Int), .int .u8 0, .int .u8 0, .int .u8 0, .int .u8 0, .int .u8 0, .int .u8 0, .int .u8 0]) (box_set (cs := [.int .u8 (b : Int), .int .u8 0, .int .u8 0, .int .u8 0, .int .u8 0, .int .u8 0, .int .u8 0, .int .u8 0]) (box_set (cs := [.int .u8 (b : Int), .int .u8 0, .int .u8 0, .int .u8 0, .int .u8 0, .int .u8 0, .int .u8 0, .int .u8 0]) (box_set (cs := [.int .u8 (b : Int), .int .u8 0, .int .u8 0, .int .u8 0, .int .u8 0, .int .u8 0, .int .u8 0, .int .u8 0]) (box_set (cs := [.int .u8 (b : Int), .int .u8 0, .int .u8 0, .int .u8 0, .int .u8 0, .int .u8 0, .int .u8 0, .int .u8 0]) (box_set (cs := [.int .u8 0, .int .u8 0, .int .u8 0, .int .u8 0, .int .u8 0, .int .u8 0, .int .u8 0, .int .u8 0]) HY1.out 0 _) 1 _) 2 _) 3 _) 4 _) 5 _) 6 _) 7 _) Try.underlying73 rfl rfl)) rfl ?_
  exact ⟨rfl, (((((((HB1.out.setCell hge _).setCell hge _).setCell hge _).setCell hge _).setCell hge _).setCell hge _).setCell hge _).setCell hge _⟩
end Go.Proofs.Ytoefbgkeinhibaa
