/-
  No cell of these rows narrows 'for every input' (looked for: loops, veiled, ifaces, maps, wideKeys, modest, calm, conditions, laid).
  DERIVED. THE GIVEN ROWS OF THIS SEAT. 7 by the template 'for every input the law returns true; each argument reads behind the call as it read before'; 0 by the template 'total and deterministic' (their statements: YtkdladacmjkdoaaTotals.lean).
  GIVEN WITH THE SEED: the statements are not yours to turn. If you find one false, say at which input.
  Laid BY PROGRAM, IN A SANDBOX (cutbox-rows.mjs): the forced cells as the released guide's own fill.sh prints them over the translation 93f462ebb254a5df… (all of the seat's roots in one cut). By AI agents, Wed Nov 11 2026. No macro, syntax, notation, axiom, sorry.
-/
import Derived.Test.YtkdladacmjkdoaaChecked
import GoSem.Claim
import GoSem.ClaimJoined
import GoSem.ClaimMapViews
import Derived.JoinedTies
import Derived.KernelRfl
namespace Go.Proofs.Ytkdladacmjkdoaa
/- THE CELL 'sum', in the pinned program and in every row, IS THE sha256 OF THE DUMP (.gsa) THAT YtkdladacmjkdoaaProg.lean LOADS. Nothing in Lean hashes anything: it is a label: what it is worth is what the hold of that sum in a sandbox is worth. -/
noncomputable def Try.pinned : Pinned := { name := "ytkdladacmjkdoaa", sum := "93f462ebb254a5df5991fbfe23e2df98b18f33c1fb07b1205e7b519b2fbbcf5c", checked := Try.checked }
namespace Rows
def none {H : Type} : Left H := { results := [], args := [] }

/-- 'standbylaw26.SessionChecks': WHATEVER THE INPUT: true; the input reads as it did. -/
def sessionChecksSpec : ChangeSpec := { name := "sessionChecks", fn := fun _ => fun
  | [d1, d2, d3] => { results := [.lit (.bool true)], args := [d1, d2, d3] }
  | _ => none }
def sessionChecksRow : OpenClaim := { program := "ytkdladacmjkdoaa", sum := "93f462ebb254a5df5991fbfe23e2df98b18f33c1fb07b1205e7b519b2fbbcf5c", func := "standby/standbylaw26.SessionChecks", spec := "sessionChecks", unfollowed := true, recurses := true, apart := false }
def SessionChecksSaid : Prop := sessionChecksRow.holds Try.pinned (OpenSpec.ofChange sessionChecksSpec)

/-- ITS FALSE NEIGHBOUR: 'it returns false'. Refute it at one input. -/
def sessionChecksWrong : ChangeSpec := { name := "sessionChecks", fn := fun _ => fun
  | [d1, d2, d3] => { results := [.lit (.bool false)], args := [d1, d2, d3] }
  | _ => none }
def SessionChecksWrongFalsely : Prop := sessionChecksRow.holds Try.pinned (OpenSpec.ofChange sessionChecksWrong)

/-- 'standbylaw26.SessionDials': WHATEVER THE INPUT: true; the input reads as it did. -/
def sessionDialsSpec : ChangeSpec := { name := "sessionDials", fn := fun _ => fun
  | [d1, d2, d3] => { results := [.lit (.bool true)], args := [d1, d2, d3] }
  | _ => none }
def sessionDialsRow : OpenClaim := { program := "ytkdladacmjkdoaa", sum := "93f462ebb254a5df5991fbfe23e2df98b18f33c1fb07b1205e7b519b2fbbcf5c", func := "standby/standbylaw26.SessionDials", spec := "sessionDials", unfollowed := true, recurses := true, apart := false }
def SessionDialsSaid : Prop := sessionDialsRow.holds Try.pinned (OpenSpec.ofChange sessionDialsSpec)

/-- ITS FALSE NEIGHBOUR: 'it returns false'. Refute it at one input. -/
def sessionDialsWrong : ChangeSpec := { name := "sessionDials", fn := fun _ => fun
  | [d1, d2, d3] => { results := [.lit (.bool false)], args := [d1, d2, d3] }
  | _ => none }
def SessionDialsWrongFalsely : Prop := sessionDialsRow.holds Try.pinned (OpenSpec.ofChange sessionDialsWrong)

/-- 'standbylaw26.SessionReceives': WHATEVER THE INPUT: true; the input reads as it did. -/
def sessionReceivesSpec : ChangeSpec := { name := "sessionReceives", fn := fun _ => fun
  | [d1, d2, d3] => { results := [.lit (.bool true)], args := [d1, d2, d3] }
  | _ => none }
def sessionReceivesRow : OpenClaim := { program := "ytkdladacmjkdoaa", sum := "93f462ebb254a5df5991fbfe23e2df98b18f33c1fb07b1205e7b519b2fbbcf5c", func := "standby/standbylaw26.SessionReceives", spec := "sessionReceives", unfollowed := true, recurses := true, apart := false }
def SessionReceivesSaid : Prop := sessionReceivesRow.holds Try.pinned (OpenSpec.ofChange sessionReceivesSpec)

/-- ITS FALSE NEIGHBOUR: 'it returns false'. Refute it at one input. -/
def sessionReceivesWrong : ChangeSpec := { name := "sessionReceives", fn := fun _ => fun
  | [d1, d2, d3] => { results := [.lit (.bool false)], args := [d1, d2, d3] }
  | _ => none }
def SessionReceivesWrongFalsely : Prop := sessionReceivesRow.holds Try.pinned (OpenSpec.ofChange sessionReceivesWrong)

/-- 'standbylaw26.SessionGrows': WHATEVER THE INPUT: true; the input reads as it did. -/
def sessionGrowsSpec : ChangeSpec := { name := "sessionGrows", fn := fun _ => fun
  | [d1, d2] => { results := [.lit (.bool true)], args := [d1, d2] }
  | _ => none }
def sessionGrowsRow : OpenClaim := { program := "ytkdladacmjkdoaa", sum := "93f462ebb254a5df5991fbfe23e2df98b18f33c1fb07b1205e7b519b2fbbcf5c", func := "standby/standbylaw26.SessionGrows", spec := "sessionGrows", unfollowed := true, recurses := true, apart := false }
def SessionGrowsSaid : Prop := sessionGrowsRow.holds Try.pinned (OpenSpec.ofChange sessionGrowsSpec)

/-- ITS FALSE NEIGHBOUR: 'it returns false'. Refute it at one input. -/
def sessionGrowsWrong : ChangeSpec := { name := "sessionGrows", fn := fun _ => fun
  | [d1, d2] => { results := [.lit (.bool false)], args := [d1, d2] }
  | _ => none }
def SessionGrowsWrongFalsely : Prop := sessionGrowsRow.holds Try.pinned (OpenSpec.ofChange sessionGrowsWrong)

/-- 'standbylaw26.SessionStays': WHATEVER THE INPUT: true; the input reads as it did. -/
def sessionStaysSpec : ChangeSpec := { name := "sessionStays", fn := fun _ => fun
  | [d1, d2] => { results := [.lit (.bool true)], args := [d1, d2] }
  | _ => none }
def sessionStaysRow : OpenClaim := { program := "ytkdladacmjkdoaa", sum := "93f462ebb254a5df5991fbfe23e2df98b18f33c1fb07b1205e7b519b2fbbcf5c", func := "standby/standbylaw26.SessionStays", spec := "sessionStays", unfollowed := true, recurses := true, apart := false }
def SessionStaysSaid : Prop := sessionStaysRow.holds Try.pinned (OpenSpec.ofChange sessionStaysSpec)

/-- ITS FALSE NEIGHBOUR: 'it returns false'. Refute it at one input. -/
def sessionStaysWrong : ChangeSpec := { name := "sessionStays", fn := fun _ => fun
  | [d1, d2] => { results := [.lit (.bool false)], args := [d1, d2] }
  | _ => none }
def SessionStaysWrongFalsely : Prop := sessionStaysRow.holds Try.pinned (OpenSpec.ofChange sessionStaysWrong)

/-- 'standbylaw26.SessionConnects': WHATEVER THE INPUT: true; the input reads as it did. -/
def sessionConnectsSpec : ChangeSpec := { name := "sessionConnects", fn := fun _ => fun
  | [d1, d2, d3] => { results := [.lit (.bool true)], args := [d1, d2, d3] }
  | _ => none }
def sessionConnectsRow : OpenClaim := { program := "ytkdladacmjkdoaa", sum := "93f462ebb254a5df5991fbfe23e2df98b18f33c1fb07b1205e7b519b2fbbcf5c", func := "standby/standbylaw26.SessionConnects", spec := "sessionConnects", unfollowed := true, recurses := true, apart := false }
def SessionConnectsSaid : Prop := sessionConnectsRow.holds Try.pinned (OpenSpec.ofChange sessionConnectsSpec)

/-- ITS FALSE NEIGHBOUR: 'it returns false'. Refute it at one input. -/
def sessionConnectsWrong : ChangeSpec := { name := "sessionConnects", fn := fun _ => fun
  | [d1, d2, d3] => { results := [.lit (.bool false)], args := [d1, d2, d3] }
  | _ => none }
def SessionConnectsWrongFalsely : Prop := sessionConnectsRow.holds Try.pinned (OpenSpec.ofChange sessionConnectsWrong)

/-- 'standbylaw26.SessionAgrees': WHATEVER THE INPUT: true; the input reads as it did. -/
def sessionAgreesSpec : ChangeSpec := { name := "sessionAgrees", fn := fun _ => fun
  | [d1, d2, d3] => { results := [.lit (.bool true)], args := [d1, d2, d3] }
  | _ => none }
def sessionAgreesRow : OpenClaim := { program := "ytkdladacmjkdoaa", sum := "93f462ebb254a5df5991fbfe23e2df98b18f33c1fb07b1205e7b519b2fbbcf5c", func := "standby/standbylaw26.SessionAgrees", spec := "sessionAgrees", unfollowed := true, recurses := true, apart := false }
def SessionAgreesSaid : Prop := sessionAgreesRow.holds Try.pinned (OpenSpec.ofChange sessionAgreesSpec)

/-- ITS FALSE NEIGHBOUR: 'it returns false'. Refute it at one input. -/
def sessionAgreesWrong : ChangeSpec := { name := "sessionAgrees", fn := fun _ => fun
  | [d1, d2, d3] => { results := [.lit (.bool false)], args := [d1, d2, d3] }
  | _ => none }
def SessionAgreesWrongFalsely : Prop := sessionAgreesRow.holds Try.pinned (OpenSpec.ofChange sessionAgreesWrong)

/- THE SECOND FORM. 'bulk': how many values and letters a reading holds, each counted each time it is reached (what is shared counts as often as it is met; a slice's spare places count too). A statement '..UptoSaid' is the law's where the arguments, and the package variables that the reading takes, are together of bulk at most 1048576: NARROWER than '..Said'. Prove '..Said' where nothing that the law and all that it calls make is longer than what came in: it says more and counts as full. Else prove '..UptoSaid'. A law counts once. -/
mutual
def uptoBulk {H : Type} : DataW H → Nat
  | .lit (.string bytes) => bytes.length + 1
  | .lit _ => 1
  | .nil => 1
  | .ptr d => uptoBulk d + 1
  | .slice elems spare => uptoBulkAll elems + uptoBulkAll spare + 1
  | .agg parts => uptoBulkAll parts + 1
  | .iface _ d => uptoBulk d + 1
  | .map entries => uptoBulkEntries entries + 1
  | .held _ => 1
def uptoBulkAll {H : Type} : List (DataW H) → Nat
  | [] => 0
  | d :: r => uptoBulk d + uptoBulkAll r
def uptoBulkEntries {H : Type} : List (Lit × DataW H) → Nat
  | [] => 0
  | x :: r => uptoBulkEntry x + uptoBulkEntries r
def uptoBulkEntry {H : Type} : Lit × DataW H → Nat
  | (.string bytes, d) => bytes.length + uptoBulk d + 1
  | (_, d) => uptoBulk d + 1
 end
def uptoSmall : (H : Type) → List (DataW H) → Bool := fun _ ds => decide (uptoBulkAll ds ≤ 1048576)
def OpenSpec.upto (s : _root_.Go.ChangeSpec) : _root_.Go.OpenSpec := { _root_.Go.OpenSpec.ofChange s with cond := some uptoSmall }

/-- 'standbylaw26.SessionChecks', WHERE WHAT IT READS IS OF BULK AT MOST 1048576: true; the input reads as it did. -/
def sessionChecksUptoRow : OpenClaim := { program := "ytkdladacmjkdoaa", sum := "93f462ebb254a5df5991fbfe23e2df98b18f33c1fb07b1205e7b519b2fbbcf5c", func := "standby/standbylaw26.SessionChecks", spec := "sessionChecks", unfollowed := true, recurses := true, apart := false, narrowed := true }
def SessionChecksUptoSaid : Prop := sessionChecksUptoRow.holds Try.pinned (OpenSpec.upto sessionChecksSpec)

/-- 'standbylaw26.SessionDials', WHERE WHAT IT READS IS OF BULK AT MOST 1048576: true; the input reads as it did. -/
def sessionDialsUptoRow : OpenClaim := { program := "ytkdladacmjkdoaa", sum := "93f462ebb254a5df5991fbfe23e2df98b18f33c1fb07b1205e7b519b2fbbcf5c", func := "standby/standbylaw26.SessionDials", spec := "sessionDials", unfollowed := true, recurses := true, apart := false, narrowed := true }
def SessionDialsUptoSaid : Prop := sessionDialsUptoRow.holds Try.pinned (OpenSpec.upto sessionDialsSpec)

/-- 'standbylaw26.SessionReceives', WHERE WHAT IT READS IS OF BULK AT MOST 1048576: true; the input reads as it did. -/
def sessionReceivesUptoRow : OpenClaim := { program := "ytkdladacmjkdoaa", sum := "93f462ebb254a5df5991fbfe23e2df98b18f33c1fb07b1205e7b519b2fbbcf5c", func := "standby/standbylaw26.SessionReceives", spec := "sessionReceives", unfollowed := true, recurses := true, apart := false, narrowed := true }
def SessionReceivesUptoSaid : Prop := sessionReceivesUptoRow.holds Try.pinned (OpenSpec.upto sessionReceivesSpec)

/-- 'standbylaw26.SessionGrows', WHERE WHAT IT READS IS OF BULK AT MOST 1048576: true; the input reads as it did. -/
def sessionGrowsUptoRow : OpenClaim := { program := "ytkdladacmjkdoaa", sum := "93f462ebb254a5df5991fbfe23e2df98b18f33c1fb07b1205e7b519b2fbbcf5c", func := "standby/standbylaw26.SessionGrows", spec := "sessionGrows", unfollowed := true, recurses := true, apart := false, narrowed := true }
def SessionGrowsUptoSaid : Prop := sessionGrowsUptoRow.holds Try.pinned (OpenSpec.upto sessionGrowsSpec)

/-- 'standbylaw26.SessionStays', WHERE WHAT IT READS IS OF BULK AT MOST 1048576: true; the input reads as it did. -/
def sessionStaysUptoRow : OpenClaim := { program := "ytkdladacmjkdoaa", sum := "93f462ebb254a5df5991fbfe23e2df98b18f33c1fb07b1205e7b519b2fbbcf5c", func := "standby/standbylaw26.SessionStays", spec := "sessionStays", unfollowed := true, recurses := true, apart := false, narrowed := true }
def SessionStaysUptoSaid : Prop := sessionStaysUptoRow.holds Try.pinned (OpenSpec.upto sessionStaysSpec)

/-- 'standbylaw26.SessionConnects', WHERE WHAT IT READS IS OF BULK AT MOST 1048576: true; the input reads as it did. -/
def sessionConnectsUptoRow : OpenClaim := { program := "ytkdladacmjkdoaa", sum := "93f462ebb254a5df5991fbfe23e2df98b18f33c1fb07b1205e7b519b2fbbcf5c", func := "standby/standbylaw26.SessionConnects", spec := "sessionConnects", unfollowed := true, recurses := true, apart := false, narrowed := true }
def SessionConnectsUptoSaid : Prop := sessionConnectsUptoRow.holds Try.pinned (OpenSpec.upto sessionConnectsSpec)

/-- 'standbylaw26.SessionAgrees', WHERE WHAT IT READS IS OF BULK AT MOST 1048576: true; the input reads as it did. -/
def sessionAgreesUptoRow : OpenClaim := { program := "ytkdladacmjkdoaa", sum := "93f462ebb254a5df5991fbfe23e2df98b18f33c1fb07b1205e7b519b2fbbcf5c", func := "standby/standbylaw26.SessionAgrees", spec := "sessionAgrees", unfollowed := true, recurses := true, apart := false, narrowed := true }
def SessionAgreesUptoSaid : Prop := sessionAgreesUptoRow.holds Try.pinned (OpenSpec.upto sessionAgreesSpec)

end Rows
end Go.Proofs.Ytkdladacmjkdoaa
