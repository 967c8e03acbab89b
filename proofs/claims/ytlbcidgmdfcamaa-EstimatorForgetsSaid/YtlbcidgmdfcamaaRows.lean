/-
  No cell of these rows narrows 'for every input' (looked for: loops, veiled, ifaces, maps, wideKeys, modest, calm, conditions, laid).
  DERIVED. THE GIVEN ROWS OF THIS SEAT. 7 by the template 'for every input the law returns true; each argument reads behind the call as it read before'; 0 by the template 'total and deterministic' (their statements: YtlbcidgmdfcamaaTotals.lean).
  GIVEN WITH THE SEED: the statements are not yours to turn. If you find one false, say at which input.
  Laid BY PROGRAM, IN A SANDBOX (cutbox-rows.mjs): the forced cells as the released guide's own fill.sh prints them over the translation 43753ae92a575be7… (all of the seat's roots in one cut). By AI agents, Wed Nov 11 2026. No macro, syntax, notation, axiom, sorry.
-/
import Derived.Test.YtlbcidgmdfcamaaChecked
import GoSem.Claim
import GoSem.ClaimJoined
import GoSem.ClaimMapViews
import Derived.JoinedTies
import Derived.KernelRfl
namespace Go.Proofs.Ytlbcidgmdfcamaa
/- THE CELL 'sum', in the pinned program and in every row, IS THE sha256 OF THE DUMP (.gsa) THAT YtlbcidgmdfcamaaProg.lean LOADS. Nothing in Lean hashes anything: it is a label: what it is worth is what the hold of that sum in a sandbox is worth. -/
noncomputable def Try.pinned : Pinned := { name := "ytlbcidgmdfcamaa", sum := "43753ae92a575be7c8e2ac45e40bb449c28446e91448483dd31fe5c447f7f4cd", checked := Try.checked }
namespace Rows
def none {H : Type} : Left H := { results := [], args := [] }

/-- 'standbylaw28.EstimatorSamples': WHATEVER THE INPUT: true; the input reads as it did. -/
def estimatorSamplesSpec : ChangeSpec := { name := "estimatorSamples", fn := fun _ => fun
  | [d1, d2] => { results := [.lit (.bool true)], args := [d1, d2] }
  | _ => none }
def estimatorSamplesRow : OpenClaim := { program := "ytlbcidgmdfcamaa", sum := "43753ae92a575be7c8e2ac45e40bb449c28446e91448483dd31fe5c447f7f4cd", func := "standby/standbylaw28.EstimatorSamples", spec := "estimatorSamples", apart := false }
def EstimatorSamplesSaid : Prop := estimatorSamplesRow.holds Try.pinned (OpenSpec.ofChange estimatorSamplesSpec)

/-- ITS FALSE NEIGHBOUR: 'it returns false'. Refute it at one input. -/
def estimatorSamplesWrong : ChangeSpec := { name := "estimatorSamples", fn := fun _ => fun
  | [d1, d2] => { results := [.lit (.bool false)], args := [d1, d2] }
  | _ => none }
def EstimatorSamplesWrongFalsely : Prop := estimatorSamplesRow.holds Try.pinned (OpenSpec.ofChange estimatorSamplesWrong)

/-- 'standbylaw28.EstimatorTimes': WHATEVER THE INPUT: true; the input reads as it did. -/
def estimatorTimesSpec : ChangeSpec := { name := "estimatorTimes", fn := fun _ => fun
  | [d] => { results := [.lit (.bool true)], args := [d] }
  | _ => none }
def estimatorTimesRow : OpenClaim := { program := "ytlbcidgmdfcamaa", sum := "43753ae92a575be7c8e2ac45e40bb449c28446e91448483dd31fe5c447f7f4cd", func := "standby/standbylaw28.EstimatorTimes", spec := "estimatorTimes", apart := false }
def EstimatorTimesSaid : Prop := estimatorTimesRow.holds Try.pinned (OpenSpec.ofChange estimatorTimesSpec)

/-- ITS FALSE NEIGHBOUR: 'it returns false'. Refute it at one input. -/
def estimatorTimesWrong : ChangeSpec := { name := "estimatorTimes", fn := fun _ => fun
  | [d] => { results := [.lit (.bool false)], args := [d] }
  | _ => none }
def EstimatorTimesWrongFalsely : Prop := estimatorTimesRow.holds Try.pinned (OpenSpec.ofChange estimatorTimesWrong)

/-- 'standbylaw28.EstimatorBounds': WHATEVER THE INPUT: true; the input reads as it did. -/
def estimatorBoundsSpec : ChangeSpec := { name := "estimatorBounds", fn := fun _ => fun
  | [d] => { results := [.lit (.bool true)], args := [d] }
  | _ => none }
def estimatorBoundsRow : OpenClaim := { program := "ytlbcidgmdfcamaa", sum := "43753ae92a575be7c8e2ac45e40bb449c28446e91448483dd31fe5c447f7f4cd", func := "standby/standbylaw28.EstimatorBounds", spec := "estimatorBounds", apart := false }
def EstimatorBoundsSaid : Prop := estimatorBoundsRow.holds Try.pinned (OpenSpec.ofChange estimatorBoundsSpec)

/-- ITS FALSE NEIGHBOUR: 'it returns false'. Refute it at one input. -/
def estimatorBoundsWrong : ChangeSpec := { name := "estimatorBounds", fn := fun _ => fun
  | [d] => { results := [.lit (.bool false)], args := [d] }
  | _ => none }
def EstimatorBoundsWrongFalsely : Prop := estimatorBoundsRow.holds Try.pinned (OpenSpec.ofChange estimatorBoundsWrong)

/-- 'standbylaw28.EstimatorExceeds': WHATEVER THE INPUT: true; the input reads as it did. -/
def estimatorExceedsSpec : ChangeSpec := { name := "estimatorExceeds", fn := fun _ => fun
  | [d] => { results := [.lit (.bool true)], args := [d] }
  | _ => none }
def estimatorExceedsRow : OpenClaim := { program := "ytlbcidgmdfcamaa", sum := "43753ae92a575be7c8e2ac45e40bb449c28446e91448483dd31fe5c447f7f4cd", func := "standby/standbylaw28.EstimatorExceeds", spec := "estimatorExceeds", apart := false }
def EstimatorExceedsSaid : Prop := estimatorExceedsRow.holds Try.pinned (OpenSpec.ofChange estimatorExceedsSpec)

/-- ITS FALSE NEIGHBOUR: 'it returns false'. Refute it at one input. -/
def estimatorExceedsWrong : ChangeSpec := { name := "estimatorExceeds", fn := fun _ => fun
  | [d] => { results := [.lit (.bool false)], args := [d] }
  | _ => none }
def EstimatorExceedsWrongFalsely : Prop := estimatorExceedsRow.holds Try.pinned (OpenSpec.ofChange estimatorExceedsWrong)

/-- 'standbylaw28.EstimatorSettles': WHATEVER THE INPUT: true; the input reads as it did. -/
def estimatorSettlesSpec : ChangeSpec := { name := "estimatorSettles", fn := fun _ => fun
  | [d] => { results := [.lit (.bool true)], args := [d] }
  | _ => none }
def estimatorSettlesRow : OpenClaim := { program := "ytlbcidgmdfcamaa", sum := "43753ae92a575be7c8e2ac45e40bb449c28446e91448483dd31fe5c447f7f4cd", func := "standby/standbylaw28.EstimatorSettles", spec := "estimatorSettles", apart := false }
def EstimatorSettlesSaid : Prop := estimatorSettlesRow.holds Try.pinned (OpenSpec.ofChange estimatorSettlesSpec)

/-- ITS FALSE NEIGHBOUR: 'it returns false'. Refute it at one input. -/
def estimatorSettlesWrong : ChangeSpec := { name := "estimatorSettles", fn := fun _ => fun
  | [d] => { results := [.lit (.bool false)], args := [d] }
  | _ => none }
def EstimatorSettlesWrongFalsely : Prop := estimatorSettlesRow.holds Try.pinned (OpenSpec.ofChange estimatorSettlesWrong)

/-- 'standbylaw28.EstimatorForgets': WHATEVER THE INPUT: true; the input reads as it did. -/
def estimatorForgetsSpec : ChangeSpec := { name := "estimatorForgets", fn := fun _ => fun
  | [d1, d2] => { results := [.lit (.bool true)], args := [d1, d2] }
  | _ => none }
def estimatorForgetsRow : OpenClaim := { program := "ytlbcidgmdfcamaa", sum := "43753ae92a575be7c8e2ac45e40bb449c28446e91448483dd31fe5c447f7f4cd", func := "standby/standbylaw28.EstimatorForgets", spec := "estimatorForgets", apart := false }
def EstimatorForgetsSaid : Prop := estimatorForgetsRow.holds Try.pinned (OpenSpec.ofChange estimatorForgetsSpec)

/-- ITS FALSE NEIGHBOUR: 'it returns false'. Refute it at one input. -/
def estimatorForgetsWrong : ChangeSpec := { name := "estimatorForgets", fn := fun _ => fun
  | [d1, d2] => { results := [.lit (.bool false)], args := [d1, d2] }
  | _ => none }
def EstimatorForgetsWrongFalsely : Prop := estimatorForgetsRow.holds Try.pinned (OpenSpec.ofChange estimatorForgetsWrong)

/-- 'standbylaw28.EstimatorOrders': WHATEVER THE INPUT: true; the input reads as it did. -/
def estimatorOrdersSpec : ChangeSpec := { name := "estimatorOrders", fn := fun _ => fun
  | [d1, d2, d3] => { results := [.lit (.bool true)], args := [d1, d2, d3] }
  | _ => none }
def estimatorOrdersRow : OpenClaim := { program := "ytlbcidgmdfcamaa", sum := "43753ae92a575be7c8e2ac45e40bb449c28446e91448483dd31fe5c447f7f4cd", func := "standby/standbylaw28.EstimatorOrders", spec := "estimatorOrders", apart := false }
def EstimatorOrdersSaid : Prop := estimatorOrdersRow.holds Try.pinned (OpenSpec.ofChange estimatorOrdersSpec)

/-- ITS FALSE NEIGHBOUR: 'it returns false'. Refute it at one input. -/
def estimatorOrdersWrong : ChangeSpec := { name := "estimatorOrders", fn := fun _ => fun
  | [d1, d2, d3] => { results := [.lit (.bool false)], args := [d1, d2, d3] }
  | _ => none }
def EstimatorOrdersWrongFalsely : Prop := estimatorOrdersRow.holds Try.pinned (OpenSpec.ofChange estimatorOrdersWrong)

/- THE SECOND FORM. 'bulk': how many values and letters a reading holds, each counted each time it is reached (what is shared counts as often as it is met; a slice's spare places count too). A statement '..UptoSaid' is the law's where the arguments, and the package variables that the reading takes, are together of bulk at most 1048576: NARROWER than '..Said'. Prove '..Said' where nothing that the law and all that it calls make is longer than what came in: it says more and counts as full. Else prove '..UptoSaid'. A law counts once. -/
mutual
def uptoBulk {H : Type} : DataW H → Nat
  | .lit (.string bytes) => bytes.length + 1
  | .lit _ => 1
  | .nil => 1
  | .ptr d => uptoBulk d + 1
  | .slice elems spare => uptoBulkAll elems + uptoBulkAll spare + 1
  | .agg parts => uptoBulkAll parts + 1
  | .iface _ d => uptoBulk d + 1
  | .map entries => uptoBulkEntries entries + 1
  | .held _ => 1
def uptoBulkAll {H : Type} : List (DataW H) → Nat
  | [] => 0
  | d :: r => uptoBulk d + uptoBulkAll r
def uptoBulkEntries {H : Type} : List (Lit × DataW H) → Nat
  | [] => 0
  | x :: r => uptoBulkEntry x + uptoBulkEntries r
def uptoBulkEntry {H : Type} : Lit × DataW H → Nat
  | (.string bytes, d) => bytes.length + uptoBulk d + 1
  | (_, d) => uptoBulk d + 1
 end
def uptoSmall : (H : Type) → List (DataW H) → Bool := fun _ ds => decide (uptoBulkAll ds ≤ 1048576)
def OpenSpec.upto (s : _root_.Go.ChangeSpec) : _root_.Go.OpenSpec := { _root_.Go.OpenSpec.ofChange s with cond := some uptoSmall }

/-- 'standbylaw28.EstimatorSamples', WHERE WHAT IT READS IS OF BULK AT MOST 1048576: true; the input reads as it did. -/
def estimatorSamplesUptoRow : OpenClaim := { program := "ytlbcidgmdfcamaa", sum := "43753ae92a575be7c8e2ac45e40bb449c28446e91448483dd31fe5c447f7f4cd", func := "standby/standbylaw28.EstimatorSamples", spec := "estimatorSamples", apart := false, narrowed := true }
def EstimatorSamplesUptoSaid : Prop := estimatorSamplesUptoRow.holds Try.pinned (OpenSpec.upto estimatorSamplesSpec)

/-- 'standbylaw28.EstimatorTimes', WHERE WHAT IT READS IS OF BULK AT MOST 1048576: true; the input reads as it did. -/
def estimatorTimesUptoRow : OpenClaim := { program := "ytlbcidgmdfcamaa", sum := "43753ae92a575be7c8e2ac45e40bb449c28446e91448483dd31fe5c447f7f4cd", func := "standby/standbylaw28.EstimatorTimes", spec := "estimatorTimes", apart := false, narrowed := true }
def EstimatorTimesUptoSaid : Prop := estimatorTimesUptoRow.holds Try.pinned (OpenSpec.upto estimatorTimesSpec)

/-- 'standbylaw28.EstimatorBounds', WHERE WHAT IT READS IS OF BULK AT MOST 1048576: true; the input reads as it did. -/
def estimatorBoundsUptoRow : OpenClaim := { program := "ytlbcidgmdfcamaa", sum := "43753ae92a575be7c8e2ac45e40bb449c28446e91448483dd31fe5c447f7f4cd", func := "standby/standbylaw28.EstimatorBounds", spec := "estimatorBounds", apart := false, narrowed := true }
def EstimatorBoundsUptoSaid : Prop := estimatorBoundsUptoRow.holds Try.pinned (OpenSpec.upto estimatorBoundsSpec)

/-- 'standbylaw28.EstimatorExceeds', WHERE WHAT IT READS IS OF BULK AT MOST 1048576: true; the input reads as it did. -/
def estimatorExceedsUptoRow : OpenClaim := { program := "ytlbcidgmdfcamaa", sum := "43753ae92a575be7c8e2ac45e40bb449c28446e91448483dd31fe5c447f7f4cd", func := "standby/standbylaw28.EstimatorExceeds", spec := "estimatorExceeds", apart := false, narrowed := true }
def EstimatorExceedsUptoSaid : Prop := estimatorExceedsUptoRow.holds Try.pinned (OpenSpec.upto estimatorExceedsSpec)

/-- 'standbylaw28.EstimatorSettles', WHERE WHAT IT READS IS OF BULK AT MOST 1048576: true; the input reads as it did. -/
def estimatorSettlesUptoRow : OpenClaim := { program := "ytlbcidgmdfcamaa", sum := "43753ae92a575be7c8e2ac45e40bb449c28446e91448483dd31fe5c447f7f4cd", func := "standby/standbylaw28.EstimatorSettles", spec := "estimatorSettles", apart := false, narrowed := true }
def EstimatorSettlesUptoSaid : Prop := estimatorSettlesUptoRow.holds Try.pinned (OpenSpec.upto estimatorSettlesSpec)

/-- 'standbylaw28.EstimatorForgets', WHERE WHAT IT READS IS OF BULK AT MOST 1048576: true; the input reads as it did. -/
def estimatorForgetsUptoRow : OpenClaim := { program := "ytlbcidgmdfcamaa", sum := "43753ae92a575be7c8e2ac45e40bb449c28446e91448483dd31fe5c447f7f4cd", func := "standby/standbylaw28.EstimatorForgets", spec := "estimatorForgets", apart := false, narrowed := true }
def EstimatorForgetsUptoSaid : Prop := estimatorForgetsUptoRow.holds Try.pinned (OpenSpec.upto estimatorForgetsSpec)

/-- 'standbylaw28.EstimatorOrders', WHERE WHAT IT READS IS OF BULK AT MOST 1048576: true; the input reads as it did. -/
def estimatorOrdersUptoRow : OpenClaim := { program := "ytlbcidgmdfcamaa", sum := "43753ae92a575be7c8e2ac45e40bb449c28446e91448483dd31fe5c447f7f4cd", func := "standby/standbylaw28.EstimatorOrders", spec := "estimatorOrders", apart := false, narrowed := true }
def EstimatorOrdersUptoSaid : Prop := estimatorOrdersUptoRow.holds Try.pinned (OpenSpec.upto estimatorOrdersSpec)

end Rows
end Go.Proofs.Ytlbcidgmdfcamaa
