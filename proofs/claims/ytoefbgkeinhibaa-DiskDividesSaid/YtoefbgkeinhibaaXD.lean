/- The ends of the extents of two lists, sorted. -/
import Derived.Test.YtoefbgkeinhibaaXB
import Derived.Test.YtoefbgkeinhibaaXS
import Derived.Laws.Tables
import Derived.Maps.AppendAt
import Derived.KernelRfl
namespace Go.Proofs.Ytoefbgkeinhibaa.Xt
open Go.RowKit Go.Shelf Go.Lib Go.Sort

theorem build132 (a b c : Int) (w : World) : (Instr.build 132 #[(0, .int .i64 a), (1, .int .i64 b), (2, .int .i64 c)]).run Try.prog w = .ok (.agg #[.int .i64 a, .int .i64 b, .int .i64 c]) w := run_build w 132 _ _ (by kernel_rfl)
theorem build29 (a b : Int) (w : World) : (Instr.build 29 #[(0, .int .i64 a), (1, .int .i64 b)]).run Try.prog w = .ok (.agg #[.int .i64 a, .int .i64 b]) w := run_build w 29 _ _ (by kernel_rfl)
theorem build137 (A B : Option Addr) (n c m d : Nat) (w : World) : (Instr.build 137 #[(0, .slice A n c), (1, .slice B m d)]).run Try.prog w = .ok (.agg #[.slice A n c, .slice B m d]) w := run_build w 137 _ _ (by kernel_rfl)
theorem index137_0 (A B : Option Addr) (n c m d : Nat) (w : World) : (Instr.index 137 (.agg #[.slice A n c, .slice B m d]) (.int .i64 0)).run Try.prog w = .ok (.slice A n c) w := by kernel_rfl
theorem index137_1 (A B : Option Addr) (n c m d : Nat) (w : World) : (Instr.index 137 (.agg #[.slice A n c, .slice B m d]) (.int .i64 1)).run Try.prog w = .ok (.slice B m d) w := by kernel_rfl
theorem info132 : (Try.prog.info? 132).map (fun i => (i.zero, i.size, i.bytes)) = some (some (.agg #[.int .i64 0, .int .i64 0, .int .i64 0]), 3, 24) := by kernel_rfl
theorem info29 : (Try.prog.info? 29).map (fun i => (i.zero, i.size, i.bytes)) = some (some (.agg #[.int .i64 0, .int .i64 0]), 2, 16) := by kernel_rfl

def enc3 (e : Edge) : List Value := [.int .i64 e.1, .int .i64 e.2.1, .int .i64 e.2.2]
def eflat (d : List Edge) : List Value := d.flatMap enc3
theorem eflat_length (d : List Edge) : (eflat d).length = d.length * 3 := by
  induction d with
  | nil => rfl
  | cons e r ih => simp only [eflat, List.flatMap_cons, List.length_append, List.length_cons] at ih ⊢; simp [enc3, ih]; omega
theorem eflat_append (a b : List Edge) : eflat (a ++ b) = eflat a ++ eflat b := by simp [eflat]

def cmpI (x y : Int) : Int := if x < y then -1 else if y < x then 1 else 0

set_option maxHeartbeats 400000 in
theorem cmp_any (x y : Int) (W : World) : Calls Try.prog 80 #[.int .i64 x, .int .i64 y] W fun e w' => e = .returned (.int .i64 (cmpI x y)) ∧ W = w' := by
  have hx : (x != x) = false := by simp
  have hy : (y != y) = false := by simp
  by_cases h : x < y
  · have hc : cmpI x y = -1 := by simp [cmpI, h]
    rw [hc]
    clear hc
    go_enter Try.func80, Try.ntmps80
    go_wp2
    go_ret
    exact ⟨rfl, rfl⟩
  · by_cases h' : y < x
    · have hc : cmpI x y = 1 := by simp [cmpI, h, h']
      rw [hc]
      clear hc
      go_enter Try.func80, Try.ntmps80
      go_wp2
      go_ret
      exact ⟨rfl, rfl⟩
    · have hc : cmpI x y = 0 := by simp [cmpI, h, h']
      rw [hc]
      clear hc
      go_enter Try.func80, Try.ntmps80
      go_wp2
      go_ret
      exact ⟨rfl, rfl⟩

set_option maxHeartbeats 400000 in
theorem less_any (x y : Edge) (W : World) : Calls Try.prog 79 #[.agg #[.int .i64 x.1, .int .i64 x.2.1, .int .i64 x.2.2], .agg #[.int .i64 y.1, .int .i64 y.2.1, .int .i64 y.2.2]] W fun e w' => e = .returned (.int .i64 (cmpI x.1 y.1)) ∧ ∃ q os', w' = grow (W.drewN q) os' := by
  go_enter Try.func79, Try.ntmps79
  go_wp2_with (go_at_call 80; refine (cmp_any _ _ _).mono ?_; rintro e w' ⟨rfl, rfl⟩)
  go_ret
  exact ⟨rfl, 0, _, by rw [alloc_eq_grow, alloc_eq_grow, grow_grow]; rfl⟩

theorem lt_edge (x y : Edge) : ltOf (fun x y : Edge => cmpI x.1 y.1) x y = decide (x.1 < y.1) := by
  unfold ltOf cmpI
  by_cases h1 : x.1 < y.1
  · simp [h1]
  · by_cases h2 : y.1 < x.1 <;> simp [h1, h2]
theorem swo_edge : SWO (ltOf fun x y : Edge => cmpI x.1 y.1) where
  irrefl x := by rw [lt_edge]; simp
  trans x y z h1 h2 := by rw [lt_edge] at *; simp at *; omega
  ntrans x y z h1 h2 := by rw [lt_edge] at *; simp at *; omega
theorem edge_lays (blk off size : Nat) (w : World) : CmpLays Try.prog 79 #[] enc3 3 (fun x y : Edge => cmpI x.1 y.1) blk off size w :=
  fun _ _ _ _ x y => less_any x y _

set_option maxHeartbeats 1000000 in
theorem sortE_any (blk off cap : Nat) (d : Array Edge) (w : World) (hH : HoldsK enc3 3 w blk off d) (hblk : blk < w.heap.size) (hsz : d.size < 4611686018427387904) :
    Calls Try.prog 78 #[.slice (some ⟨blk, off, none⟩) d.size cap, .func (.func 79) #[] #[]] w fun e w' => e = .returned (.tuple #[]) ∧ ∃ (d' : Array Edge) (n : Nat) (os : Array Obj), PermIn 0 d.size d d' ∧ SortedIn (ltOf fun x y : Edge => cmpI x.1 y.1) 0 d.size d' ∧ w' = sortWorldK enc3 3 w blk off n d' os := by
  have eg : ∀ args w, (callFunc 79 args).run Try.prog w = .ok (.enter 79 args) w := enters_of Try.func79 (by kernel_rfl) rfl
  have hcon := AnyQ.slices_SortFunc Try.sortE 3 Try.isAgg132 Try.sizeOf132 enc3 (fun _ => rfl) (fun x v hv => by simp [enc3] at hv; rcases hv with rfl | rfl | rfl <;> rfl) (fun x y : Edge => cmpI x.1 y.1) swo_edge 79 #[] blk off cap d w eg (edge_lays blk off d.size w) hH hblk hsz
  exact hcon
end Go.Proofs.Ytoefbgkeinhibaa.Xt
