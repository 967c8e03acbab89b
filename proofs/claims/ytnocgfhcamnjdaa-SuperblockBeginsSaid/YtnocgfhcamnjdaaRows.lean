/-
  No cell of these rows narrows 'for every input' (looked for: loops, veiled, ifaces, maps, wideKeys, modest, calm, conditions, laid).
  DERIVED. THE GIVEN ROWS OF THIS SEAT. 7 by the template 'for every input the law returns true; each argument reads behind the call as it read before'; 0 by the template 'total and deterministic' (their statements: YtnocgfhcamnjdaaTotals.lean).
  GIVEN WITH THE SEED: the statements are not yours to turn. If you find one false, say at which input.
  Laid BY PROGRAM, IN A SANDBOX (cutbox-rows.mjs): the forced cells as the released guide's own fill.sh prints them over the translation 6722d18a1d991604… (all of the seat's roots in one cut). By AI agents, Wed Nov 11 2026. No macro, syntax, notation, axiom, sorry.
-/
import Derived.Test.YtnocgfhcamnjdaaChecked
import GoSem.Claim
import GoSem.ClaimJoined
import GoSem.ClaimMapViews
import Derived.JoinedTies
import Derived.KernelRfl
namespace Go.Proofs.Ytnocgfhcamnjdaa
/- THE CELL 'sum', in the pinned program and in every row, IS THE sha256 OF THE DUMP (.gsa) THAT YtnocgfhcamnjdaaProg.lean LOADS. Nothing in Lean hashes anything: it is a label: what it is worth is what the hold of that sum in a sandbox is worth. -/
noncomputable def Try.pinned : Pinned := { name := "ytnocgfhcamnjdaa", sum := "6722d18a1d991604dc9664ad2c4af1b8f01916ac71f241f14129123f3ac911e8", checked := Try.checked }
namespace Rows
def none {H : Type} : Left H := { results := [], args := [] }

/-- 'standbylaw12.SuperblockFormats': WHATEVER THE INPUT: true; the input reads as it did. -/
def superblockFormatsSpec : ChangeSpec := { name := "superblockFormats", fn := fun _ => fun
  | [d1, d2] => { results := [.lit (.bool true)], args := [d1, d2] }
  | _ => none }
def superblockFormatsRow : OpenClaim := { program := "ytnocgfhcamnjdaa", sum := "6722d18a1d991604dc9664ad2c4af1b8f01916ac71f241f14129123f3ac911e8", func := "standby/standbylaw12.SuperblockFormats", spec := "superblockFormats", unfollowed := true, recurses := true, apart := false }
def SuperblockFormatsSaid : Prop := superblockFormatsRow.holds Try.pinned (OpenSpec.ofChange superblockFormatsSpec)

/-- ITS FALSE NEIGHBOUR: 'it returns false'. Refute it at one input. -/
def superblockFormatsWrong : ChangeSpec := { name := "superblockFormats", fn := fun _ => fun
  | [d1, d2] => { results := [.lit (.bool false)], args := [d1, d2] }
  | _ => none }
def SuperblockFormatsWrongFalsely : Prop := superblockFormatsRow.holds Try.pinned (OpenSpec.ofChange superblockFormatsWrong)

/-- 'standbylaw12.SuperblockLoads': WHATEVER THE INPUT: true; the input reads as it did. -/
def superblockLoadsSpec : ChangeSpec := { name := "superblockLoads", fn := fun _ => fun
  | [d1, d2] => { results := [.lit (.bool true)], args := [d1, d2] }
  | _ => none }
def superblockLoadsRow : OpenClaim := { program := "ytnocgfhcamnjdaa", sum := "6722d18a1d991604dc9664ad2c4af1b8f01916ac71f241f14129123f3ac911e8", func := "standby/standbylaw12.SuperblockLoads", spec := "superblockLoads", unfollowed := true, recurses := true, apart := false }
def SuperblockLoadsSaid : Prop := superblockLoadsRow.holds Try.pinned (OpenSpec.ofChange superblockLoadsSpec)

/-- ITS FALSE NEIGHBOUR: 'it returns false'. Refute it at one input. -/
def superblockLoadsWrong : ChangeSpec := { name := "superblockLoads", fn := fun _ => fun
  | [d1, d2] => { results := [.lit (.bool false)], args := [d1, d2] }
  | _ => none }
def SuperblockLoadsWrongFalsely : Prop := superblockLoadsRow.holds Try.pinned (OpenSpec.ofChange superblockLoadsWrong)

/-- 'standbylaw12.SuperblockStores': WHATEVER THE INPUT: true; the input reads as it did. -/
def superblockStoresSpec : ChangeSpec := { name := "superblockStores", fn := fun _ => fun
  | [d1, d2, d3] => { results := [.lit (.bool true)], args := [d1, d2, d3] }
  | _ => none }
def superblockStoresRow : OpenClaim := { program := "ytnocgfhcamnjdaa", sum := "6722d18a1d991604dc9664ad2c4af1b8f01916ac71f241f14129123f3ac911e8", func := "standby/standbylaw12.SuperblockStores", spec := "superblockStores", unfollowed := true, recurses := true, apart := false }
def SuperblockStoresSaid : Prop := superblockStoresRow.holds Try.pinned (OpenSpec.ofChange superblockStoresSpec)

/-- ITS FALSE NEIGHBOUR: 'it returns false'. Refute it at one input. -/
def superblockStoresWrong : ChangeSpec := { name := "superblockStores", fn := fun _ => fun
  | [d1, d2, d3] => { results := [.lit (.bool false)], args := [d1, d2, d3] }
  | _ => none }
def SuperblockStoresWrongFalsely : Prop := superblockStoresRow.holds Try.pinned (OpenSpec.ofChange superblockStoresWrong)

/-- 'standbylaw12.SuperblockInterrupts': WHATEVER THE INPUT: true; the input reads as it did. -/
def superblockInterruptsSpec : ChangeSpec := { name := "superblockInterrupts", fn := fun _ => fun
  | [d1, d2] => { results := [.lit (.bool true)], args := [d1, d2] }
  | _ => none }
def superblockInterruptsRow : OpenClaim := { program := "ytnocgfhcamnjdaa", sum := "6722d18a1d991604dc9664ad2c4af1b8f01916ac71f241f14129123f3ac911e8", func := "standby/standbylaw12.SuperblockInterrupts", spec := "superblockInterrupts", unfollowed := true, recurses := true, apart := false }
def SuperblockInterruptsSaid : Prop := superblockInterruptsRow.holds Try.pinned (OpenSpec.ofChange superblockInterruptsSpec)

/-- ITS FALSE NEIGHBOUR: 'it returns false'. Refute it at one input. -/
def superblockInterruptsWrong : ChangeSpec := { name := "superblockInterrupts", fn := fun _ => fun
  | [d1, d2] => { results := [.lit (.bool false)], args := [d1, d2] }
  | _ => none }
def SuperblockInterruptsWrongFalsely : Prop := superblockInterruptsRow.holds Try.pinned (OpenSpec.ofChange superblockInterruptsWrong)

/-- 'standbylaw12.SuperblockGrows': WHATEVER THE INPUT: true; the input reads as it did. -/
def superblockGrowsSpec : ChangeSpec := { name := "superblockGrows", fn := fun _ => fun
  | [d1, d2] => { results := [.lit (.bool true)], args := [d1, d2] }
  | _ => none }
def superblockGrowsRow : OpenClaim := { program := "ytnocgfhcamnjdaa", sum := "6722d18a1d991604dc9664ad2c4af1b8f01916ac71f241f14129123f3ac911e8", func := "standby/standbylaw12.SuperblockGrows", spec := "superblockGrows", unfollowed := true, recurses := true, apart := false }
def SuperblockGrowsSaid : Prop := superblockGrowsRow.holds Try.pinned (OpenSpec.ofChange superblockGrowsSpec)

/-- ITS FALSE NEIGHBOUR: 'it returns false'. Refute it at one input. -/
def superblockGrowsWrong : ChangeSpec := { name := "superblockGrows", fn := fun _ => fun
  | [d1, d2] => { results := [.lit (.bool false)], args := [d1, d2] }
  | _ => none }
def SuperblockGrowsWrongFalsely : Prop := superblockGrowsRow.holds Try.pinned (OpenSpec.ofChange superblockGrowsWrong)

/-- 'standbylaw12.SuperblockKeeps': WHATEVER THE INPUT: true; the input reads as it did. -/
def superblockKeepsSpec : ChangeSpec := { name := "superblockKeeps", fn := fun _ => fun
  | [d1, d2] => { results := [.lit (.bool true)], args := [d1, d2] }
  | _ => none }
def superblockKeepsRow : OpenClaim := { program := "ytnocgfhcamnjdaa", sum := "6722d18a1d991604dc9664ad2c4af1b8f01916ac71f241f14129123f3ac911e8", func := "standby/standbylaw12.SuperblockKeeps", spec := "superblockKeeps", unfollowed := true, recurses := true, apart := false }
def SuperblockKeepsSaid : Prop := superblockKeepsRow.holds Try.pinned (OpenSpec.ofChange superblockKeepsSpec)

/-- ITS FALSE NEIGHBOUR: 'it returns false'. Refute it at one input. -/
def superblockKeepsWrong : ChangeSpec := { name := "superblockKeeps", fn := fun _ => fun
  | [d1, d2] => { results := [.lit (.bool false)], args := [d1, d2] }
  | _ => none }
def SuperblockKeepsWrongFalsely : Prop := superblockKeepsRow.holds Try.pinned (OpenSpec.ofChange superblockKeepsWrong)

/-- 'standbylaw12.SuperblockBegins': WHATEVER THE INPUT: true; the input reads as it did. -/
def superblockBeginsSpec : ChangeSpec := { name := "superblockBegins", fn := fun _ => fun
  | [d1, d2, d3] => { results := [.lit (.bool true)], args := [d1, d2, d3] }
  | _ => none }
def superblockBeginsRow : OpenClaim := { program := "ytnocgfhcamnjdaa", sum := "6722d18a1d991604dc9664ad2c4af1b8f01916ac71f241f14129123f3ac911e8", func := "standby/standbylaw12.SuperblockBegins", spec := "superblockBegins", unfollowed := true, recurses := true, apart := false }
def SuperblockBeginsSaid : Prop := superblockBeginsRow.holds Try.pinned (OpenSpec.ofChange superblockBeginsSpec)

/-- ITS FALSE NEIGHBOUR: 'it returns false'. Refute it at one input. -/
def superblockBeginsWrong : ChangeSpec := { name := "superblockBegins", fn := fun _ => fun
  | [d1, d2, d3] => { results := [.lit (.bool false)], args := [d1, d2, d3] }
  | _ => none }
def SuperblockBeginsWrongFalsely : Prop := superblockBeginsRow.holds Try.pinned (OpenSpec.ofChange superblockBeginsWrong)

/- THE SECOND FORM. 'bulk': how many values and letters a reading holds, each counted each time it is reached (what is shared counts as often as it is met; a slice's spare places count too). A statement '..UptoSaid' is the law's where the arguments, and the package variables that the reading takes, are together of bulk at most 1048576: NARROWER than '..Said'. Prove '..Said' where nothing that the law and all that it calls make is longer than what came in: it says more and counts as full. Else prove '..UptoSaid'. A law counts once. -/
mutual
def uptoBulk {H : Type} : DataW H → Nat
  | .lit (.string bytes) => bytes.length + 1
  | .lit _ => 1
  | .nil => 1
  | .ptr d => uptoBulk d + 1
  | .slice elems spare => uptoBulkAll elems + uptoBulkAll spare + 1
  | .agg parts => uptoBulkAll parts + 1
  | .iface _ d => uptoBulk d + 1
  | .map entries => uptoBulkEntries entries + 1
  | .held _ => 1
def uptoBulkAll {H : Type} : List (DataW H) → Nat
  | [] => 0
  | d :: r => uptoBulk d + uptoBulkAll r
def uptoBulkEntries {H : Type} : List (Lit × DataW H) → Nat
  | [] => 0
  | x :: r => uptoBulkEntry x + uptoBulkEntries r
def uptoBulkEntry {H : Type} : Lit × DataW H → Nat
  | (.string bytes, d) => bytes.length + uptoBulk d + 1
  | (_, d) => uptoBulk d + 1
 end
def uptoSmall : (H : Type) → List (DataW H) → Bool := fun _ ds => decide (uptoBulkAll ds ≤ 1048576)
def OpenSpec.upto (s : _root_.Go.ChangeSpec) : _root_.Go.OpenSpec := { _root_.Go.OpenSpec.ofChange s with cond := some uptoSmall }

/-- 'standbylaw12.SuperblockFormats', WHERE WHAT IT READS IS OF BULK AT MOST 1048576: true; the input reads as it did. -/
def superblockFormatsUptoRow : OpenClaim := { program := "ytnocgfhcamnjdaa", sum := "6722d18a1d991604dc9664ad2c4af1b8f01916ac71f241f14129123f3ac911e8", func := "standby/standbylaw12.SuperblockFormats", spec := "superblockFormats", unfollowed := true, recurses := true, apart := false, narrowed := true }
def SuperblockFormatsUptoSaid : Prop := superblockFormatsUptoRow.holds Try.pinned (OpenSpec.upto superblockFormatsSpec)

/-- 'standbylaw12.SuperblockLoads', WHERE WHAT IT READS IS OF BULK AT MOST 1048576: true; the input reads as it did. -/
def superblockLoadsUptoRow : OpenClaim := { program := "ytnocgfhcamnjdaa", sum := "6722d18a1d991604dc9664ad2c4af1b8f01916ac71f241f14129123f3ac911e8", func := "standby/standbylaw12.SuperblockLoads", spec := "superblockLoads", unfollowed := true, recurses := true, apart := false, narrowed := true }
def SuperblockLoadsUptoSaid : Prop := superblockLoadsUptoRow.holds Try.pinned (OpenSpec.upto superblockLoadsSpec)

/-- 'standbylaw12.SuperblockStores', WHERE WHAT IT READS IS OF BULK AT MOST 1048576: true; the input reads as it did. -/
def superblockStoresUptoRow : OpenClaim := { program := "ytnocgfhcamnjdaa", sum := "6722d18a1d991604dc9664ad2c4af1b8f01916ac71f241f14129123f3ac911e8", func := "standby/standbylaw12.SuperblockStores", spec := "superblockStores", unfollowed := true, recurses := true, apart := false, narrowed := true }
def SuperblockStoresUptoSaid : Prop := superblockStoresUptoRow.holds Try.pinned (OpenSpec.upto superblockStoresSpec)

/-- 'standbylaw12.SuperblockInterrupts', WHERE WHAT IT READS IS OF BULK AT MOST 1048576: true; the input reads as it did. -/
def superblockInterruptsUptoRow : OpenClaim := { program := "ytnocgfhcamnjdaa", sum := "6722d18a1d991604dc9664ad2c4af1b8f01916ac71f241f14129123f3ac911e8", func := "standby/standbylaw12.SuperblockInterrupts", spec := "superblockInterrupts", unfollowed := true, recurses := true, apart := false, narrowed := true }
def SuperblockInterruptsUptoSaid : Prop := superblockInterruptsUptoRow.holds Try.pinned (OpenSpec.upto superblockInterruptsSpec)

/-- 'standbylaw12.SuperblockGrows', WHERE WHAT IT READS IS OF BULK AT MOST 1048576: true; the input reads as it did. -/
def superblockGrowsUptoRow : OpenClaim := { program := "ytnocgfhcamnjdaa", sum := "6722d18a1d991604dc9664ad2c4af1b8f01916ac71f241f14129123f3ac911e8", func := "standby/standbylaw12.SuperblockGrows", spec := "superblockGrows", unfollowed := true, recurses := true, apart := false, narrowed := true }
def SuperblockGrowsUptoSaid : Prop := superblockGrowsUptoRow.holds Try.pinned (OpenSpec.upto superblockGrowsSpec)

/-- 'standbylaw12.SuperblockKeeps', WHERE WHAT IT READS IS OF BULK AT MOST 1048576: true; the input reads as it did. -/
def superblockKeepsUptoRow : OpenClaim := { program := "ytnocgfhcamnjdaa", sum := "6722d18a1d991604dc9664ad2c4af1b8f01916ac71f241f14129123f3ac911e8", func := "standby/standbylaw12.SuperblockKeeps", spec := "superblockKeeps", unfollowed := true, recurses := true, apart := false, narrowed := true }
def SuperblockKeepsUptoSaid : Prop := superblockKeepsUptoRow.holds Try.pinned (OpenSpec.upto superblockKeepsSpec)

/-- 'standbylaw12.SuperblockBegins', WHERE WHAT IT READS IS OF BULK AT MOST 1048576: true; the input reads as it did. -/
def superblockBeginsUptoRow : OpenClaim := { program := "ytnocgfhcamnjdaa", sum := "6722d18a1d991604dc9664ad2c4af1b8f01916ac71f241f14129123f3ac911e8", func := "standby/standbylaw12.SuperblockBegins", spec := "superblockBegins", unfollowed := true, recurses := true, apart := false, narrowed := true }
def SuperblockBeginsUptoSaid : Prop := superblockBeginsUptoRow.holds Try.pinned (OpenSpec.upto superblockBeginsSpec)

end Rows
end Go.Proofs.Ytnocgfhcamnjdaa
