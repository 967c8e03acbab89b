/-
  No cell of these rows narrows 'for every input' (looked for: loops, veiled, ifaces, maps, wideKeys, modest, calm, conditions, laid).
  DERIVED. THE GIVEN ROWS OF THIS SEAT. 8 by the template 'for every input the law returns true; each argument reads behind the call as it read before'; 0 by the template 'total and deterministic' (their statements: YtoefbgkeinhibaaTotals.lean).
  GIVEN WITH THE SEED: the statements are not yours to turn. If you find one false, say at which input.
  Laid BY PROGRAM, IN A SANDBOX (cutbox-rows.mjs): the forced cells as the released guide's own fill.sh prints them over the translation 3545ead53d058056… (all of the seat's roots in one cut). By AI agents, Wed Nov 11 2026. No macro, syntax, notation, axiom, sorry.
-/
import Derived.Test.YtoefbgkeinhibaaChecked
import GoSem.Claim
import GoSem.ClaimJoined
import GoSem.ClaimMapViews
import Derived.JoinedTies
import Derived.KernelRfl
namespace Go.Proofs.Ytoefbgkeinhibaa
/- THE CELL 'sum', in the pinned program and in every row, IS THE sha256 OF THE DUMP (.gsa) THAT YtoefbgkeinhibaaProg.lean LOADS. Nothing in Lean hashes anything: it is a label: what it is worth is what the hold of that sum in a sandbox is worth. -/
noncomputable def Try.pinned : Pinned := { name := "ytoefbgkeinhibaa", sum := "3545ead53d05805681a5dc725066c4d3ac5bcc28756b6aa57698ea96b664c656", checked := Try.checked }
namespace Rows
def none {H : Type} : Left H := { results := [], args := [] }

/-- 'standbylaw09.DiskWrites': WHATEVER THE INPUT: true; the input reads as it did. -/
def diskWritesSpec : ChangeSpec := { name := "diskWrites", fn := fun _ => fun
  | [d1, d2, d3] => { results := [.lit (.bool true)], args := [d1, d2, d3] }
  | _ => none }
def diskWritesRow : OpenClaim := { program := "ytoefbgkeinhibaa", sum := "3545ead53d05805681a5dc725066c4d3ac5bcc28756b6aa57698ea96b664c656", func := "standby/standbylaw09.DiskWrites", spec := "diskWrites", unfollowed := true, recurses := true, apart := false }
def DiskWritesSaid : Prop := diskWritesRow.holds Try.pinned (OpenSpec.ofChange diskWritesSpec)

/-- ITS FALSE NEIGHBOUR: 'it returns false'. Refute it at one input. -/
def diskWritesWrong : ChangeSpec := { name := "diskWrites", fn := fun _ => fun
  | [d1, d2, d3] => { results := [.lit (.bool false)], args := [d1, d2, d3] }
  | _ => none }
def DiskWritesWrongFalsely : Prop := diskWritesRow.holds Try.pinned (OpenSpec.ofChange diskWritesWrong)

/-- 'standbylaw09.DiskSyncs': WHATEVER THE INPUT: true; the input reads as it did. -/
def diskSyncsSpec : ChangeSpec := { name := "diskSyncs", fn := fun _ => fun
  | [d1, d2] => { results := [.lit (.bool true)], args := [d1, d2] }
  | _ => none }
def diskSyncsRow : OpenClaim := { program := "ytoefbgkeinhibaa", sum := "3545ead53d05805681a5dc725066c4d3ac5bcc28756b6aa57698ea96b664c656", func := "standby/standbylaw09.DiskSyncs", spec := "diskSyncs", unfollowed := true, recurses := true, apart := false }
def DiskSyncsSaid : Prop := diskSyncsRow.holds Try.pinned (OpenSpec.ofChange diskSyncsSpec)

/-- ITS FALSE NEIGHBOUR: 'it returns false'. Refute it at one input. -/
def diskSyncsWrong : ChangeSpec := { name := "diskSyncs", fn := fun _ => fun
  | [d1, d2] => { results := [.lit (.bool false)], args := [d1, d2] }
  | _ => none }
def DiskSyncsWrongFalsely : Prop := diskSyncsRow.holds Try.pinned (OpenSpec.ofChange diskSyncsWrong)

/-- 'standbylaw09.DiskRuns': WHATEVER THE INPUT: true; the input reads as it did. -/
def diskRunsSpec : ChangeSpec := { name := "diskRuns", fn := fun _ => fun
  | [d1, d2, d3] => { results := [.lit (.bool true)], args := [d1, d2, d3] }
  | _ => none }
def diskRunsRow : OpenClaim := { program := "ytoefbgkeinhibaa", sum := "3545ead53d05805681a5dc725066c4d3ac5bcc28756b6aa57698ea96b664c656", func := "standby/standbylaw09.DiskRuns", spec := "diskRuns", unfollowed := true, recurses := true, apart := false }
def DiskRunsSaid : Prop := diskRunsRow.holds Try.pinned (OpenSpec.ofChange diskRunsSpec)

/-- ITS FALSE NEIGHBOUR: 'it returns false'. Refute it at one input. -/
def diskRunsWrong : ChangeSpec := { name := "diskRuns", fn := fun _ => fun
  | [d1, d2, d3] => { results := [.lit (.bool false)], args := [d1, d2, d3] }
  | _ => none }
def DiskRunsWrongFalsely : Prop := diskRunsRow.holds Try.pinned (OpenSpec.ofChange diskRunsWrong)

/-- 'standbylaw09.DiskInterrupts': WHATEVER THE INPUT: true; the input reads as it did. -/
def diskInterruptsSpec : ChangeSpec := { name := "diskInterrupts", fn := fun _ => fun
  | [d1, d2, d3] => { results := [.lit (.bool true)], args := [d1, d2, d3] }
  | _ => none }
def diskInterruptsRow : OpenClaim := { program := "ytoefbgkeinhibaa", sum := "3545ead53d05805681a5dc725066c4d3ac5bcc28756b6aa57698ea96b664c656", func := "standby/standbylaw09.DiskInterrupts", spec := "diskInterrupts", unfollowed := true, recurses := true, apart := false }
def DiskInterruptsSaid : Prop := diskInterruptsRow.holds Try.pinned (OpenSpec.ofChange diskInterruptsSpec)

/-- ITS FALSE NEIGHBOUR: 'it returns false'. Refute it at one input. -/
def diskInterruptsWrong : ChangeSpec := { name := "diskInterrupts", fn := fun _ => fun
  | [d1, d2, d3] => { results := [.lit (.bool false)], args := [d1, d2, d3] }
  | _ => none }
def DiskInterruptsWrongFalsely : Prop := diskInterruptsRow.holds Try.pinned (OpenSpec.ofChange diskInterruptsWrong)

/-- 'standbylaw09.DiskReturns': WHATEVER THE INPUT: true; the input reads as it did. -/
def diskReturnsSpec : ChangeSpec := { name := "diskReturns", fn := fun _ => fun
  | [d1, d2, d3] => { results := [.lit (.bool true)], args := [d1, d2, d3] }
  | _ => none }
def diskReturnsRow : OpenClaim := { program := "ytoefbgkeinhibaa", sum := "3545ead53d05805681a5dc725066c4d3ac5bcc28756b6aa57698ea96b664c656", func := "standby/standbylaw09.DiskReturns", spec := "diskReturns", unfollowed := true, recurses := true, apart := false }
def DiskReturnsSaid : Prop := diskReturnsRow.holds Try.pinned (OpenSpec.ofChange diskReturnsSpec)

/-- ITS FALSE NEIGHBOUR: 'it returns false'. Refute it at one input. -/
def diskReturnsWrong : ChangeSpec := { name := "diskReturns", fn := fun _ => fun
  | [d1, d2, d3] => { results := [.lit (.bool false)], args := [d1, d2, d3] }
  | _ => none }
def DiskReturnsWrongFalsely : Prop := diskReturnsRow.holds Try.pinned (OpenSpec.ofChange diskReturnsWrong)

/-- 'standbylaw09.DiskSurvives': WHATEVER THE INPUT: true; the input reads as it did. -/
def diskSurvivesSpec : ChangeSpec := { name := "diskSurvives", fn := fun _ => fun
  | [d1, d2, d3] => { results := [.lit (.bool true)], args := [d1, d2, d3] }
  | _ => none }
def diskSurvivesRow : OpenClaim := { program := "ytoefbgkeinhibaa", sum := "3545ead53d05805681a5dc725066c4d3ac5bcc28756b6aa57698ea96b664c656", func := "standby/standbylaw09.DiskSurvives", spec := "diskSurvives", unfollowed := true, recurses := true, apart := false }
def DiskSurvivesSaid : Prop := diskSurvivesRow.holds Try.pinned (OpenSpec.ofChange diskSurvivesSpec)

/-- ITS FALSE NEIGHBOUR: 'it returns false'. Refute it at one input. -/
def diskSurvivesWrong : ChangeSpec := { name := "diskSurvives", fn := fun _ => fun
  | [d1, d2, d3] => { results := [.lit (.bool false)], args := [d1, d2, d3] }
  | _ => none }
def DiskSurvivesWrongFalsely : Prop := diskSurvivesRow.holds Try.pinned (OpenSpec.ofChange diskSurvivesWrong)

/-- 'standbylaw09.DiskChooses': WHATEVER THE INPUT: true; the input reads as it did. -/
def diskChoosesSpec : ChangeSpec := { name := "diskChooses", fn := fun _ => fun
  | [d1, d2, d3] => { results := [.lit (.bool true)], args := [d1, d2, d3] }
  | _ => none }
def diskChoosesRow : OpenClaim := { program := "ytoefbgkeinhibaa", sum := "3545ead53d05805681a5dc725066c4d3ac5bcc28756b6aa57698ea96b664c656", func := "standby/standbylaw09.DiskChooses", spec := "diskChooses", unfollowed := true, recurses := true, apart := false }
def DiskChoosesSaid : Prop := diskChoosesRow.holds Try.pinned (OpenSpec.ofChange diskChoosesSpec)

/-- ITS FALSE NEIGHBOUR: 'it returns false'. Refute it at one input. -/
def diskChoosesWrong : ChangeSpec := { name := "diskChooses", fn := fun _ => fun
  | [d1, d2, d3] => { results := [.lit (.bool false)], args := [d1, d2, d3] }
  | _ => none }
def DiskChoosesWrongFalsely : Prop := diskChoosesRow.holds Try.pinned (OpenSpec.ofChange diskChoosesWrong)

/-- 'standbylaw09.DiskDivides': WHATEVER THE INPUT: true; the input reads as it did. -/
def diskDividesSpec : ChangeSpec := { name := "diskDivides", fn := fun _ => fun
  | [d1, d2, d3] => { results := [.lit (.bool true)], args := [d1, d2, d3] }
  | _ => none }
def diskDividesRow : OpenClaim := { program := "ytoefbgkeinhibaa", sum := "3545ead53d05805681a5dc725066c4d3ac5bcc28756b6aa57698ea96b664c656", func := "standby/standbylaw09.DiskDivides", spec := "diskDivides", unfollowed := true, recurses := true, apart := false }
def DiskDividesSaid : Prop := diskDividesRow.holds Try.pinned (OpenSpec.ofChange diskDividesSpec)

/-- ITS FALSE NEIGHBOUR: 'it returns false'. Refute it at one input. -/
def diskDividesWrong : ChangeSpec := { name := "diskDivides", fn := fun _ => fun
  | [d1, d2, d3] => { results := [.lit (.bool false)], args := [d1, d2, d3] }
  | _ => none }
def DiskDividesWrongFalsely : Prop := diskDividesRow.holds Try.pinned (OpenSpec.ofChange diskDividesWrong)

/- THE SECOND FORM. 'bulk': how many values and letters a reading holds, each counted each time it is reached (what is shared counts as often as it is met; a slice's spare places count too). A statement '..UptoSaid' is the law's where the arguments, and the package variables that the reading takes, are together of bulk at most 1048576: NARROWER than '..Said'. Prove '..Said' where nothing that the law and all that it calls make is longer than what came in: it says more and counts as full. Else prove '..UptoSaid'. A law counts once. -/
mutual
def uptoBulk {H : Type} : DataW H → Nat
  | .lit (.string bytes) => bytes.length + 1
  | .lit _ => 1
  | .nil => 1
  | .ptr d => uptoBulk d + 1
  | .slice elems spare => uptoBulkAll elems + uptoBulkAll spare + 1
  | .agg parts => uptoBulkAll parts + 1
  | .iface _ d => uptoBulk d + 1
  | .map entries => uptoBulkEntries entries + 1
  | .held _ => 1
def uptoBulkAll {H : Type} : List (DataW H) → Nat
  | [] => 0
  | d :: r => uptoBulk d + uptoBulkAll r
def uptoBulkEntries {H : Type} : List (Lit × DataW H) → Nat
  | [] => 0
  | x :: r => uptoBulkEntry x + uptoBulkEntries r
def uptoBulkEntry {H : Type} : Lit × DataW H → Nat
  | (.string bytes, d) => bytes.length + uptoBulk d + 1
  | (_, d) => uptoBulk d + 1
 end
def uptoSmall : (H : Type) → List (DataW H) → Bool := fun _ ds => decide (uptoBulkAll ds ≤ 1048576)
def OpenSpec.upto (s : _root_.Go.ChangeSpec) : _root_.Go.OpenSpec := { _root_.Go.OpenSpec.ofChange s with cond := some uptoSmall }

/-- 'standbylaw09.DiskWrites', WHERE WHAT IT READS IS OF BULK AT MOST 1048576: true; the input reads as it did. -/
def diskWritesUptoRow : OpenClaim := { program := "ytoefbgkeinhibaa", sum := "3545ead53d05805681a5dc725066c4d3ac5bcc28756b6aa57698ea96b664c656", func := "standby/standbylaw09.DiskWrites", spec := "diskWrites", unfollowed := true, recurses := true, apart := false, narrowed := true }
def DiskWritesUptoSaid : Prop := diskWritesUptoRow.holds Try.pinned (OpenSpec.upto diskWritesSpec)

/-- 'standbylaw09.DiskSyncs', WHERE WHAT IT READS IS OF BULK AT MOST 1048576: true; the input reads as it did. -/
def diskSyncsUptoRow : OpenClaim := { program := "ytoefbgkeinhibaa", sum := "3545ead53d05805681a5dc725066c4d3ac5bcc28756b6aa57698ea96b664c656", func := "standby/standbylaw09.DiskSyncs", spec := "diskSyncs", unfollowed := true, recurses := true, apart := false, narrowed := true }
def DiskSyncsUptoSaid : Prop := diskSyncsUptoRow.holds Try.pinned (OpenSpec.upto diskSyncsSpec)

/-- 'standbylaw09.DiskRuns', WHERE WHAT IT READS IS OF BULK AT MOST 1048576: true; the input reads as it did. -/
def diskRunsUptoRow : OpenClaim := { program := "ytoefbgkeinhibaa", sum := "3545ead53d05805681a5dc725066c4d3ac5bcc28756b6aa57698ea96b664c656", func := "standby/standbylaw09.DiskRuns", spec := "diskRuns", unfollowed := true, recurses := true, apart := false, narrowed := true }
def DiskRunsUptoSaid : Prop := diskRunsUptoRow.holds Try.pinned (OpenSpec.upto diskRunsSpec)

/-- 'standbylaw09.DiskInterrupts', WHERE WHAT IT READS IS OF BULK AT MOST 1048576: true; the input reads as it did. -/
def diskInterruptsUptoRow : OpenClaim := { program := "ytoefbgkeinhibaa", sum := "3545ead53d05805681a5dc725066c4d3ac5bcc28756b6aa57698ea96b664c656", func := "standby/standbylaw09.DiskInterrupts", spec := "diskInterrupts", unfollowed := true, recurses := true, apart := false, narrowed := true }
def DiskInterruptsUptoSaid : Prop := diskInterruptsUptoRow.holds Try.pinned (OpenSpec.upto diskInterruptsSpec)

/-- 'standbylaw09.DiskReturns', WHERE WHAT IT READS IS OF BULK AT MOST 1048576: true; the input reads as it did. -/
def diskReturnsUptoRow : OpenClaim := { program := "ytoefbgkeinhibaa", sum := "3545ead53d05805681a5dc725066c4d3ac5bcc28756b6aa57698ea96b664c656", func := "standby/standbylaw09.DiskReturns", spec := "diskReturns", unfollowed := true, recurses := true, apart := false, narrowed := true }
def DiskReturnsUptoSaid : Prop := diskReturnsUptoRow.holds Try.pinned (OpenSpec.upto diskReturnsSpec)

/-- 'standbylaw09.DiskSurvives', WHERE WHAT IT READS IS OF BULK AT MOST 1048576: true; the input reads as it did. -/
def diskSurvivesUptoRow : OpenClaim := { program := "ytoefbgkeinhibaa", sum := "3545ead53d05805681a5dc725066c4d3ac5bcc28756b6aa57698ea96b664c656", func := "standby/standbylaw09.DiskSurvives", spec := "diskSurvives", unfollowed := true, recurses := true, apart := false, narrowed := true }
def DiskSurvivesUptoSaid : Prop := diskSurvivesUptoRow.holds Try.pinned (OpenSpec.upto diskSurvivesSpec)

/-- 'standbylaw09.DiskChooses', WHERE WHAT IT READS IS OF BULK AT MOST 1048576: true; the input reads as it did. -/
def diskChoosesUptoRow : OpenClaim := { program := "ytoefbgkeinhibaa", sum := "3545ead53d05805681a5dc725066c4d3ac5bcc28756b6aa57698ea96b664c656", func := "standby/standbylaw09.DiskChooses", spec := "diskChooses", unfollowed := true, recurses := true, apart := false, narrowed := true }
def DiskChoosesUptoSaid : Prop := diskChoosesUptoRow.holds Try.pinned (OpenSpec.upto diskChoosesSpec)

/-- 'standbylaw09.DiskDivides', WHERE WHAT IT READS IS OF BULK AT MOST 1048576: true; the input reads as it did. -/
def diskDividesUptoRow : OpenClaim := { program := "ytoefbgkeinhibaa", sum := "3545ead53d05805681a5dc725066c4d3ac5bcc28756b6aa57698ea96b664c656", func := "standby/standbylaw09.DiskDivides", spec := "diskDivides", unfollowed := true, recurses := true, apart := false, narrowed := true }
def DiskDividesUptoSaid : Prop := diskDividesUptoRow.holds Try.pinned (OpenSpec.upto diskDividesSpec)

end Rows
end Go.Proofs.Ytoefbgkeinhibaa
