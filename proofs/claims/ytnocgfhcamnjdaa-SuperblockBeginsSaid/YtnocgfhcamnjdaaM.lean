/- SameInts of equal lists (from link); the laws' builders of operations: sync 38, sector 78, write 40. -/
import Derived.Test.YtnocgfhcamnjdaaL
namespace Go.Proofs.Ytnocgfhcamnjdaa
open Go.RowKit Go.Lib
def TrueQ (w : World) (e : Ending) (w' : World) : Prop := e = .returned (.bool true) ∧ Below w.heap.size w w'

theorem results_c {fn : Func} {p : Tmp} {ty : TypeId} (h : fn.results = #[.cell p ty]) (tmps : Array Value) (w : World) (g : Nat) (v : Value)
    (hp : tmps.getD p undef = .pointer (some ⟨g, 0, none⟩)) (hlv : (loadVar ty ⟨g, 0, none⟩).run Try.prog w = .ok v w) :
    (results fn tmps).run Try.prog w = .ok v w := by
  have hp' : tmps[p]?.getD undef = .pointer (some ⟨g, 0, none⟩) := by simpa using hp
  simp [results, h, hp', asAddr, hlv]



end Go.Proofs.Ytnocgfhcamnjdaa
