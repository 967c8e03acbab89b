/-
  No cell of these rows narrows 'for every input' (looked for: loops, veiled, ifaces, maps, wideKeys, modest, calm, conditions, laid).
  DERIVED. THE GIVEN ROWS OF THIS SEAT. 8 by the template 'for every input the law returns true; each argument reads behind the call as it read before'; 0 by the template 'total and deterministic' (their statements: YtbcnikmhodkbfaaTotals.lean).
  GIVEN WITH THE SEED: the statements are not yours to turn. If you find one false, say at which input.
  Laid BY PROGRAM, IN A SANDBOX (cutbox-rows.mjs): the forced cells as the released guide's own fill.sh prints them over the translation b7d415cab60b90f1… (all of the seat's roots in one cut). By AI agents, Wed Nov 11 2026. No macro, syntax, notation, axiom, sorry.
-/
import Derived.Test.YtbcnikmhodkbfaaChecked
import GoSem.Claim
import GoSem.ClaimJoined
import GoSem.ClaimMapViews
import Derived.JoinedTies
import Derived.KernelRfl
namespace Go.Proofs.Ytbcnikmhodkbfaa
/- THE CELL 'sum', in the pinned program and in every row, IS THE sha256 OF THE DUMP (.gsa) THAT YtbcnikmhodkbfaaProg.lean LOADS. Nothing in Lean hashes anything: it is a label: what it is worth is what the hold of that sum in a sandbox is worth. -/
noncomputable def Try.pinned : Pinned := { name := "ytbcnikmhodkbfaa", sum := "b7d415cab60b90f172a9d12691efdb2648395e35eec109207bec92ad3ce46ed1", checked := Try.checked }
namespace Rows
def none {H : Type} : Left H := { results := [], args := [] }

/-- 'standbylaw07.ImageMakes': WHATEVER THE INPUT: true; the input reads as it did. -/
def imageMakesSpec : ChangeSpec := { name := "imageMakes", fn := fun _ => fun
  | [d1, d2] => { results := [.lit (.bool true)], args := [d1, d2] }
  | _ => none }
def imageMakesRow : OpenClaim := { program := "ytbcnikmhodkbfaa", sum := "b7d415cab60b90f172a9d12691efdb2648395e35eec109207bec92ad3ce46ed1", func := "standby/standbylaw07.ImageMakes", spec := "imageMakes", unfollowed := true, recurses := true, apart := false }
def ImageMakesSaid : Prop := imageMakesRow.holds Try.pinned (OpenSpec.ofChange imageMakesSpec)

/-- ITS FALSE NEIGHBOUR: 'it returns false'. Refute it at one input. -/
def imageMakesWrong : ChangeSpec := { name := "imageMakes", fn := fun _ => fun
  | [d1, d2] => { results := [.lit (.bool false)], args := [d1, d2] }
  | _ => none }
def ImageMakesWrongFalsely : Prop := imageMakesRow.holds Try.pinned (OpenSpec.ofChange imageMakesWrong)

/-- 'standbylaw07.ImageApplies': WHATEVER THE INPUT: true; the input reads as it did. -/
def imageAppliesSpec : ChangeSpec := { name := "imageApplies", fn := fun _ => fun
  | [d1, d2] => { results := [.lit (.bool true)], args := [d1, d2] }
  | _ => none }
def imageAppliesRow : OpenClaim := { program := "ytbcnikmhodkbfaa", sum := "b7d415cab60b90f172a9d12691efdb2648395e35eec109207bec92ad3ce46ed1", func := "standby/standbylaw07.ImageApplies", spec := "imageApplies", unfollowed := true, recurses := true, apart := false }
def ImageAppliesSaid : Prop := imageAppliesRow.holds Try.pinned (OpenSpec.ofChange imageAppliesSpec)

/-- ITS FALSE NEIGHBOUR: 'it returns false'. Refute it at one input. -/
def imageAppliesWrong : ChangeSpec := { name := "imageApplies", fn := fun _ => fun
  | [d1, d2] => { results := [.lit (.bool false)], args := [d1, d2] }
  | _ => none }
def ImageAppliesWrongFalsely : Prop := imageAppliesRow.holds Try.pinned (OpenSpec.ofChange imageAppliesWrong)

/-- 'standbylaw07.ImageReads': WHATEVER THE INPUT: true; the input reads as it did. -/
def imageReadsSpec : ChangeSpec := { name := "imageReads", fn := fun _ => fun
  | [d1, d2, d3] => { results := [.lit (.bool true)], args := [d1, d2, d3] }
  | _ => none }
def imageReadsRow : OpenClaim := { program := "ytbcnikmhodkbfaa", sum := "b7d415cab60b90f172a9d12691efdb2648395e35eec109207bec92ad3ce46ed1", func := "standby/standbylaw07.ImageReads", spec := "imageReads", unfollowed := true, recurses := true, apart := false }
def ImageReadsSaid : Prop := imageReadsRow.holds Try.pinned (OpenSpec.ofChange imageReadsSpec)

/-- ITS FALSE NEIGHBOUR: 'it returns false'. Refute it at one input. -/
def imageReadsWrong : ChangeSpec := { name := "imageReads", fn := fun _ => fun
  | [d1, d2, d3] => { results := [.lit (.bool false)], args := [d1, d2, d3] }
  | _ => none }
def ImageReadsWrongFalsely : Prop := imageReadsRow.holds Try.pinned (OpenSpec.ofChange imageReadsWrong)

/-- 'standbylaw07.ImageDiffers': WHATEVER THE INPUT: true; the input reads as it did. -/
def imageDiffersSpec : ChangeSpec := { name := "imageDiffers", fn := fun _ => fun
  | [d1, d2] => { results := [.lit (.bool true)], args := [d1, d2] }
  | _ => none }
def imageDiffersRow : OpenClaim := { program := "ytbcnikmhodkbfaa", sum := "b7d415cab60b90f172a9d12691efdb2648395e35eec109207bec92ad3ce46ed1", func := "standby/standbylaw07.ImageDiffers", spec := "imageDiffers", unfollowed := true, recurses := true, apart := false }
def ImageDiffersSaid : Prop := imageDiffersRow.holds Try.pinned (OpenSpec.ofChange imageDiffersSpec)

/-- ITS FALSE NEIGHBOUR: 'it returns false'. Refute it at one input. -/
def imageDiffersWrong : ChangeSpec := { name := "imageDiffers", fn := fun _ => fun
  | [d1, d2] => { results := [.lit (.bool false)], args := [d1, d2] }
  | _ => none }
def ImageDiffersWrongFalsely : Prop := imageDiffersRow.holds Try.pinned (OpenSpec.ofChange imageDiffersWrong)

/-- 'standbylaw07.ImageDigests': WHATEVER THE INPUT: true; the input reads as it did. -/
def imageDigestsSpec : ChangeSpec := { name := "imageDigests", fn := fun _ => fun
  | [d] => { results := [.lit (.bool true)], args := [d] }
  | _ => none }
def imageDigestsRow : OpenClaim := { program := "ytbcnikmhodkbfaa", sum := "b7d415cab60b90f172a9d12691efdb2648395e35eec109207bec92ad3ce46ed1", func := "standby/standbylaw07.ImageDigests", spec := "imageDigests", unfollowed := true, recurses := true, apart := false }
def ImageDigestsSaid : Prop := imageDigestsRow.holds Try.pinned (OpenSpec.ofChange imageDigestsSpec)

/-- ITS FALSE NEIGHBOUR: 'it returns false'. Refute it at one input. -/
def imageDigestsWrong : ChangeSpec := { name := "imageDigests", fn := fun _ => fun
  | [d] => { results := [.lit (.bool false)], args := [d] }
  | _ => none }
def ImageDigestsWrongFalsely : Prop := imageDigestsRow.holds Try.pinned (OpenSpec.ofChange imageDigestsWrong)

/-- 'standbylaw07.ImagePatches': WHATEVER THE INPUT: true; the input reads as it did. -/
def imagePatchesSpec : ChangeSpec := { name := "imagePatches", fn := fun _ => fun
  | [d1, d2] => { results := [.lit (.bool true)], args := [d1, d2] }
  | _ => none }
def imagePatchesRow : OpenClaim := { program := "ytbcnikmhodkbfaa", sum := "b7d415cab60b90f172a9d12691efdb2648395e35eec109207bec92ad3ce46ed1", func := "standby/standbylaw07.ImagePatches", spec := "imagePatches", unfollowed := true, recurses := true, apart := false }
def ImagePatchesSaid : Prop := imagePatchesRow.holds Try.pinned (OpenSpec.ofChange imagePatchesSpec)

/-- ITS FALSE NEIGHBOUR: 'it returns false'. Refute it at one input. -/
def imagePatchesWrong : ChangeSpec := { name := "imagePatches", fn := fun _ => fun
  | [d1, d2] => { results := [.lit (.bool false)], args := [d1, d2] }
  | _ => none }
def ImagePatchesWrongFalsely : Prop := imagePatchesRow.holds Try.pinned (OpenSpec.ofChange imagePatchesWrong)

/-- 'standbylaw07.ImageLast': WHATEVER THE INPUT: true; the input reads as it did. -/
def imageLastSpec : ChangeSpec := { name := "imageLast", fn := fun _ => fun
  | [d1, d2] => { results := [.lit (.bool true)], args := [d1, d2] }
  | _ => none }
def imageLastRow : OpenClaim := { program := "ytbcnikmhodkbfaa", sum := "b7d415cab60b90f172a9d12691efdb2648395e35eec109207bec92ad3ce46ed1", func := "standby/standbylaw07.ImageLast", spec := "imageLast", unfollowed := true, recurses := true, apart := false }
def ImageLastSaid : Prop := imageLastRow.holds Try.pinned (OpenSpec.ofChange imageLastSpec)

/-- ITS FALSE NEIGHBOUR: 'it returns false'. Refute it at one input. -/
def imageLastWrong : ChangeSpec := { name := "imageLast", fn := fun _ => fun
  | [d1, d2] => { results := [.lit (.bool false)], args := [d1, d2] }
  | _ => none }
def ImageLastWrongFalsely : Prop := imageLastRow.holds Try.pinned (OpenSpec.ofChange imageLastWrong)

/-- 'standbylaw07.ImageSteps': WHATEVER THE INPUT: true; the input reads as it did. -/
def imageStepsSpec : ChangeSpec := { name := "imageSteps", fn := fun _ => fun
  | [d1, d2, d3] => { results := [.lit (.bool true)], args := [d1, d2, d3] }
  | _ => none }
def imageStepsRow : OpenClaim := { program := "ytbcnikmhodkbfaa", sum := "b7d415cab60b90f172a9d12691efdb2648395e35eec109207bec92ad3ce46ed1", func := "standby/standbylaw07.ImageSteps", spec := "imageSteps", unfollowed := true, recurses := true, apart := false }
def ImageStepsSaid : Prop := imageStepsRow.holds Try.pinned (OpenSpec.ofChange imageStepsSpec)

/-- ITS FALSE NEIGHBOUR: 'it returns false'. Refute it at one input. -/
def imageStepsWrong : ChangeSpec := { name := "imageSteps", fn := fun _ => fun
  | [d1, d2, d3] => { results := [.lit (.bool false)], args := [d1, d2, d3] }
  | _ => none }
def ImageStepsWrongFalsely : Prop := imageStepsRow.holds Try.pinned (OpenSpec.ofChange imageStepsWrong)

/- THE SECOND FORM. 'bulk': how many values and letters a reading holds, each counted each time it is reached (what is shared counts as often as it is met; a slice's spare places count too). A statement '..UptoSaid' is the law's where the arguments, and the package variables that the reading takes, are together of bulk at most 1048576: NARROWER than '..Said'. Prove '..Said' where nothing that the law and all that it calls make is longer than what came in: it says more and counts as full. Else prove '..UptoSaid'. A law counts once. -/
mutual
def uptoBulk {H : Type} : DataW H → Nat
  | .lit (.string bytes) => bytes.length + 1
  | .lit _ => 1
  | .nil => 1
  | .ptr d => uptoBulk d + 1
  | .slice elems spare => uptoBulkAll elems + uptoBulkAll spare + 1
  | .agg parts => uptoBulkAll parts + 1
  | .iface _ d => uptoBulk d + 1
  | .map entries => uptoBulkEntries entries + 1
  | .held _ => 1
def uptoBulkAll {H : Type} : List (DataW H) → Nat
  | [] => 0
  | d :: r => uptoBulk d + uptoBulkAll r
def uptoBulkEntries {H : Type} : List (Lit × DataW H) → Nat
  | [] => 0
  | x :: r => uptoBulkEntry x + uptoBulkEntries r
def uptoBulkEntry {H : Type} : Lit × DataW H → Nat
  | (.string bytes, d) => bytes.length + uptoBulk d + 1
  | (_, d) => uptoBulk d + 1
 end
def uptoSmall : (H : Type) → List (DataW H) → Bool := fun _ ds => decide (uptoBulkAll ds ≤ 1048576)
def OpenSpec.upto (s : _root_.Go.ChangeSpec) : _root_.Go.OpenSpec := { _root_.Go.OpenSpec.ofChange s with cond := some uptoSmall }

/-- 'standbylaw07.ImageMakes', WHERE WHAT IT READS IS OF BULK AT MOST 1048576: true; the input reads as it did. -/
def imageMakesUptoRow : OpenClaim := { program := "ytbcnikmhodkbfaa", sum := "b7d415cab60b90f172a9d12691efdb2648395e35eec109207bec92ad3ce46ed1", func := "standby/standbylaw07.ImageMakes", spec := "imageMakes", unfollowed := true, recurses := true, apart := false, narrowed := true }
def ImageMakesUptoSaid : Prop := imageMakesUptoRow.holds Try.pinned (OpenSpec.upto imageMakesSpec)

/-- 'standbylaw07.ImageApplies', WHERE WHAT IT READS IS OF BULK AT MOST 1048576: true; the input reads as it did. -/
def imageAppliesUptoRow : OpenClaim := { program := "ytbcnikmhodkbfaa", sum := "b7d415cab60b90f172a9d12691efdb2648395e35eec109207bec92ad3ce46ed1", func := "standby/standbylaw07.ImageApplies", spec := "imageApplies", unfollowed := true, recurses := true, apart := false, narrowed := true }
def ImageAppliesUptoSaid : Prop := imageAppliesUptoRow.holds Try.pinned (OpenSpec.upto imageAppliesSpec)

/-- 'standbylaw07.ImageReads', WHERE WHAT IT READS IS OF BULK AT MOST 1048576: true; the input reads as it did. -/
def imageReadsUptoRow : OpenClaim := { program := "ytbcnikmhodkbfaa", sum := "b7d415cab60b90f172a9d12691efdb2648395e35eec109207bec92ad3ce46ed1", func := "standby/standbylaw07.ImageReads", spec := "imageReads", unfollowed := true, recurses := true, apart := false, narrowed := true }
def ImageReadsUptoSaid : Prop := imageReadsUptoRow.holds Try.pinned (OpenSpec.upto imageReadsSpec)

/-- 'standbylaw07.ImageDiffers', WHERE WHAT IT READS IS OF BULK AT MOST 1048576: true; the input reads as it did. -/
def imageDiffersUptoRow : OpenClaim := { program := "ytbcnikmhodkbfaa", sum := "b7d415cab60b90f172a9d12691efdb2648395e35eec109207bec92ad3ce46ed1", func := "standby/standbylaw07.ImageDiffers", spec := "imageDiffers", unfollowed := true, recurses := true, apart := false, narrowed := true }
def ImageDiffersUptoSaid : Prop := imageDiffersUptoRow.holds Try.pinned (OpenSpec.upto imageDiffersSpec)

/-- 'standbylaw07.ImageDigests', WHERE WHAT IT READS IS OF BULK AT MOST 1048576: true; the input reads as it did. -/
def imageDigestsUptoRow : OpenClaim := { program := "ytbcnikmhodkbfaa", sum := "b7d415cab60b90f172a9d12691efdb2648395e35eec109207bec92ad3ce46ed1", func := "standby/standbylaw07.ImageDigests", spec := "imageDigests", unfollowed := true, recurses := true, apart := false, narrowed := true }
def ImageDigestsUptoSaid : Prop := imageDigestsUptoRow.holds Try.pinned (OpenSpec.upto imageDigestsSpec)

/-- 'standbylaw07.ImagePatches', WHERE WHAT IT READS IS OF BULK AT MOST 1048576: true; the input reads as it did. -/
def imagePatchesUptoRow : OpenClaim := { program := "ytbcnikmhodkbfaa", sum := "b7d415cab60b90f172a9d12691efdb2648395e35eec109207bec92ad3ce46ed1", func := "standby/standbylaw07.ImagePatches", spec := "imagePatches", unfollowed := true, recurses := true, apart := false, narrowed := true }
def ImagePatchesUptoSaid : Prop := imagePatchesUptoRow.holds Try.pinned (OpenSpec.upto imagePatchesSpec)

/-- 'standbylaw07.ImageLast', WHERE WHAT IT READS IS OF BULK AT MOST 1048576: true; the input reads as it did. -/
def imageLastUptoRow : OpenClaim := { program := "ytbcnikmhodkbfaa", sum := "b7d415cab60b90f172a9d12691efdb2648395e35eec109207bec92ad3ce46ed1", func := "standby/standbylaw07.ImageLast", spec := "imageLast", unfollowed := true, recurses := true, apart := false, narrowed := true }
def ImageLastUptoSaid : Prop := imageLastUptoRow.holds Try.pinned (OpenSpec.upto imageLastSpec)

/-- 'standbylaw07.ImageSteps', WHERE WHAT IT READS IS OF BULK AT MOST 1048576: true; the input reads as it did. -/
def imageStepsUptoRow : OpenClaim := { program := "ytbcnikmhodkbfaa", sum := "b7d415cab60b90f172a9d12691efdb2648395e35eec109207bec92ad3ce46ed1", func := "standby/standbylaw07.ImageSteps", spec := "imageSteps", unfollowed := true, recurses := true, apart := false, narrowed := true }
def ImageStepsUptoSaid : Prop := imageStepsUptoRow.holds Try.pinned (OpenSpec.upto imageStepsSpec)

end Rows
end Go.Proofs.Ytbcnikmhodkbfaa
