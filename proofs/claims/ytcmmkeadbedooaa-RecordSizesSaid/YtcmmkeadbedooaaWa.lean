/- The law RecordSizes. -/
import Derived.Test.YtcmmkeadbedooaaU
namespace Go.Proofs.Ytcmmkeadbedooaa
open Go.RowKit Go.Lib

theorem sizes_walk (n : Int) (w : World) (_h : (Lit.int .i64 n).wf = true) :
    Calls Try.prog 3 #[.int .i64 n] w fun e w' => e = .returned (.bool true) ∧ Below w.heap.size w w' := by
  go_enter Try.func3, Try.ntmps3
  go_wp2_with fail
  refine (awake_any w).mono ?_
  rintro e w1 ⟨rfl, hb1⟩
  have HB1 := hid hb1
  clear hb1
  go_wp2_with fail
  refine (size_any n _).mono ?_
  rintro e w' ⟨rfl, rfl⟩
  go_wp2_with fail
  refine (rsize_any n _).mono ?_
  rintro e w' ⟨rfl, rfl⟩
  have d : (szI n == szI n) = true := by simp
  go_wp2
  go_ret
  exact ⟨rfl, HB1.out⟩
end Go.Proofs.Ytcmmkeadbedooaa
