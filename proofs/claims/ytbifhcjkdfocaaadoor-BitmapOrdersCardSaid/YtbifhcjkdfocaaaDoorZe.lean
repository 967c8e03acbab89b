/- SameExtents at equal lists. -/
import Derived.Test.YtbifhcjkdfocaaaDoorX
import Derived.Test.YtbifhcjkdfocaaaDoorV
import Derived.Laws.StructEq
import Derived.KernelRfl
namespace Go.Proofs.YtbifhcjkdfocaaaDoor
open Go.RowKit

theorem fields39 : Tryd.prog.underlying 39 = some (.struct (Tryd.prog.fieldsOf 39)) := by kernel_rfl
theorem stood39 : Tryd.prog.stoodInHeld 39 = false := by kernel_rfl
@[go_sem] theorem guard39 : Tryd.prog.eqGuardType Tryd.prog.depth 39 = false := by kernel_rfl
theorem eq39 (a b : Int) (w : World) : (Op.equalIn 10000 39 (.agg #[.int .i64 a, .int .i64 b]) (.agg #[.int .i64 a, .int .i64 b])).run Tryd.prog w = .ok true w := by
  have u3 := Tryd.underlying3
  rw [show (10000 : Nat) = 9999 + 1 from rfl, run_equalIn_agg w 9999 39 _ _ fields39 stood39]
  simp only [Program.fieldsOf, Tryd.underlying39]
  go_simp
  all_goals simp
theorem neq39 (a b : Int) (w : World) : (binOp .neq 39 (.agg #[.int .i64 a, .int .i64 b]) (.agg #[.int .i64 a, .int .i64 b])).run Tryd.prog w = .ok (.bool false) w := by
  rw [run_neq_struct, eq39]; rfl
set_option maxHeartbeats 2000000 in
theorem sameExt_true (l : List (Int × Int)) (v u : Value) (w : World) (hv : Ext w v l) (hu : Ext w u l) (hl : l.length ≤ 10000) :
    Calls Tryd.prog 36 #[v, u] w fun e w' => e = .returned (.bool true) ∧ Below w.heap.size w w' := by
  obtain ⟨hr, A, cap, rfl, hcap, hcm, b, off, hA, hc⟩ := hv
  obtain ⟨hr', A', cap', rfl, hcap', hcm', b', off', hA', hc'⟩ := hu
  have HC := hid hc
  have HC' := hid hc'
  clear hc hc' hr hr'
  go_enter Tryd.func36, Tryd.ntmps36
  go_wp2
  go_loopw [5] (fun i wr => ∃ (k : Nat), k ≤ l.length ∧ i = .int .i64 k ∧ ∃ q, wr = w.drewN q) (fun i _ => l.length - (intOf i).toNat)
  case atStart => exact ⟨0, Nat.zero_le _, rfl, 0, rfl⟩
  case round =>
    obtain ⟨k, hk, rfl, q, rfl⟩ := hrel
    by_cases hlt : k < l.length
    · obtain ⟨hA1, hb⟩ := hA (by omega)
      subst hA1
      obtain ⟨hA1', hb'⟩ := hA' (by omega)
      subst hA1'
      obtain ⟨⟨s, n⟩, he⟩ : ∃ e, l[k]? = some e := ⟨l[k], List.getElem?_eq_getElem hlt⟩
      have hc1 := (HC.out k _ he).1
      have hc2 := (HC.out k _ he).2
      have hc3 := (HC'.out k _ he).1
      have hc4 := (HC'.out k _ he).2
      clear he
      dsimp only at hc1 hc2 hc3 hc4
      have hq := fun W => neq39 s n W
      go_wp2
      go_quiet (fail)
      go_wp2
      go_roundw
      case rel => exact ⟨k + 1, by omega, by go_num, _, rfl⟩
      case measure => simp [intOf]; omega
    · obtain rfl : k = l.length := by omega
      go_wp2
      go_ret
      exact ⟨rfl, below_drewN (Below.refl _ _) _⟩
end Go.Proofs.YtbifhcjkdfocaaaDoor
