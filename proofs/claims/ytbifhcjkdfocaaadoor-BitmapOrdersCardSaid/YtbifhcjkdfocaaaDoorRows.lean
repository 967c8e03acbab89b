/-
  NARROWER THAN 'FOR EVERY INPUT', by the rows' own cells (each row's printed sentence says how): BitmapMakes: laid · BitmapChanges: laid · BitmapCombines: laid · BitmapExtents: laid · BitmapReturns: laid · BitmapVisits: laid · BitmapCounts: laid · BitmapOrders: laid.
  DERIVED. THE GIVEN ROWS OF THIS SEAT. 8 by the template 'for every input the law returns true; each argument reads behind the call as it read before'; 0 by the template 'total and deterministic' (their statements: YtbifhcjkdfocaaaDoorTotals.lean).
  GIVEN WITH THE SEED: the statements are not yours to turn. If you find one false, say at which input.
  Laid BY PROGRAM, IN A SANDBOX (cutbox-rows.mjs): the forced cells as the released guide's own fill.sh prints them over the translation 92bfb8642cca0a4e… (all of the seat's roots in one cut). By AI agents, Wed Nov 11 2026. No macro, syntax, notation, axiom, sorry.
-/
import Derived.Test.YtbifhcjkdfocaaaDoorChecked
import GoSem.Claim
import GoSem.ClaimJoined
import GoSem.ClaimMapViews
import Derived.JoinedTies
import Derived.KernelRfl
namespace Go.Proofs.YtbifhcjkdfocaaaDoor
/- THE CELL 'sum', in the pinned program and in every row, IS THE sha256 OF THE DUMP (.gsa) THAT YtbifhcjkdfocaaaDoorProg.lean LOADS. Nothing in Lean hashes anything: it is a label: what it is worth is what the hold of that sum in a sandbox is worth. -/
noncomputable def Tryd.pinned : Pinned := { name := "ytbifhcjkdfocaaadoor", sum := "92bfb8642cca0a4e522cc0266e17931d8c595c08451b24da256dd6596ecb5d5a", checked := Tryd.checked }
namespace Rows
def none {H : Type} : Left H := { results := [], args := [] }

/- WHAT THE LISTED PACKAGE-LEVEL VARIABLES READ AS WHEN THE CALL BEGINS. Each datum BY PROGRAM (the guide's laid-datum.mjs) off the statement by which the dump's own 'gosem.cut.vars' lays the variable. In a bare row this is a premise. The card (YtbifhcjkdfocaaaDoorCards.lean) ties it to the program's text. -/
def laid_math_bits_deBruijn64tab {H : Type} : DataW H := .agg [.lit (.int .u8 0), .lit (.int .u8 1), .lit (.int .u8 56), .lit (.int .u8 2), .lit (.int .u8 57), .lit (.int .u8 49), .lit (.int .u8 28), .lit (.int .u8 3), .lit (.int .u8 61), .lit (.int .u8 58), .lit (.int .u8 42), .lit (.int .u8 50), .lit (.int .u8 38), .lit (.int .u8 29), .lit (.int .u8 17), .lit (.int .u8 4), .lit (.int .u8 62), .lit (.int .u8 47), .lit (.int .u8 59), .lit (.int .u8 36), .lit (.int .u8 45), .lit (.int .u8 43), .lit (.int .u8 51), .lit (.int .u8 22), .lit (.int .u8 53), .lit (.int .u8 39), .lit (.int .u8 33), .lit (.int .u8 30), .lit (.int .u8 24), .lit (.int .u8 18), .lit (.int .u8 12), .lit (.int .u8 5), .lit (.int .u8 63), .lit (.int .u8 55), .lit (.int .u8 48), .lit (.int .u8 27), .lit (.int .u8 60), .lit (.int .u8 41), .lit (.int .u8 37), .lit (.int .u8 16), .lit (.int .u8 46), .lit (.int .u8 35), .lit (.int .u8 44), .lit (.int .u8 21), .lit (.int .u8 52), .lit (.int .u8 32), .lit (.int .u8 23), .lit (.int .u8 11), .lit (.int .u8 54), .lit (.int .u8 26), .lit (.int .u8 40), .lit (.int .u8 15), .lit (.int .u8 34), .lit (.int .u8 20), .lit (.int .u8 31), .lit (.int .u8 10), .lit (.int .u8 25), .lit (.int .u8 14), .lit (.int .u8 19), .lit (.int .u8 9), .lit (.int .u8 13), .lit (.int .u8 8), .lit (.int .u8 7), .lit (.int .u8 6)]

/-- 'standbylaw02.BitmapMakes': WHATEVER THE INPUT: true; the input reads as it did. -/
def bitmapMakesSpec : ChangeSpec := { name := "bitmapMakes", fn := fun _ => fun
  | [d1, d2, d3] => { results := [.lit (.bool true)], args := [d1, d2, d3] }
  | _ => none }
def bitmapMakesRow : OpenClaim := { program := "ytbifhcjkdfocaaadoor", sum := "92bfb8642cca0a4e522cc0266e17931d8c595c08451b24da256dd6596ecb5d5a", func := "standby/standbylaw02.BitmapMakes", spec := "bitmapMakes", unfollowed := true, recurses := true, named := ["math/bits.deBruijn64tab"], apart := false, laid := [("math/bits.deBruijn64tab", laid_math_bits_deBruijn64tab)] }
def BitmapMakesSaid : Prop := bitmapMakesRow.holds Tryd.pinned (OpenSpec.ofChange bitmapMakesSpec)

/-- ITS FALSE NEIGHBOUR: 'it returns false'. Refute it at one input. -/
def bitmapMakesWrong : ChangeSpec := { name := "bitmapMakes", fn := fun _ => fun
  | [d1, d2, d3] => { results := [.lit (.bool false)], args := [d1, d2, d3] }
  | _ => none }
def BitmapMakesWrongFalsely : Prop := bitmapMakesRow.holds Tryd.pinned (OpenSpec.ofChange bitmapMakesWrong)

/-- 'standbylaw02.BitmapChanges': WHATEVER THE INPUT: true; the input reads as it did. -/
def bitmapChangesSpec : ChangeSpec := { name := "bitmapChanges", fn := fun _ => fun
  | [d1, d2] => { results := [.lit (.bool true)], args := [d1, d2] }
  | _ => none }
def bitmapChangesRow : OpenClaim := { program := "ytbifhcjkdfocaaadoor", sum := "92bfb8642cca0a4e522cc0266e17931d8c595c08451b24da256dd6596ecb5d5a", func := "standby/standbylaw02.BitmapChanges", spec := "bitmapChanges", unfollowed := true, recurses := true, named := ["math/bits.deBruijn64tab"], apart := false, laid := [("math/bits.deBruijn64tab", laid_math_bits_deBruijn64tab)] }
def BitmapChangesSaid : Prop := bitmapChangesRow.holds Tryd.pinned (OpenSpec.ofChange bitmapChangesSpec)

/-- ITS FALSE NEIGHBOUR: 'it returns false'. Refute it at one input. -/
def bitmapChangesWrong : ChangeSpec := { name := "bitmapChanges", fn := fun _ => fun
  | [d1, d2] => { results := [.lit (.bool false)], args := [d1, d2] }
  | _ => none }
def BitmapChangesWrongFalsely : Prop := bitmapChangesRow.holds Tryd.pinned (OpenSpec.ofChange bitmapChangesWrong)

/-- 'standbylaw02.BitmapCombines': WHATEVER THE INPUT: true; the input reads as it did. -/
def bitmapCombinesSpec : ChangeSpec := { name := "bitmapCombines", fn := fun _ => fun
  | [d1, d2] => { results := [.lit (.bool true)], args := [d1, d2] }
  | _ => none }
def bitmapCombinesRow : OpenClaim := { program := "ytbifhcjkdfocaaadoor", sum := "92bfb8642cca0a4e522cc0266e17931d8c595c08451b24da256dd6596ecb5d5a", func := "standby/standbylaw02.BitmapCombines", spec := "bitmapCombines", unfollowed := true, recurses := true, named := ["math/bits.deBruijn64tab"], apart := false, laid := [("math/bits.deBruijn64tab", laid_math_bits_deBruijn64tab)] }
def BitmapCombinesSaid : Prop := bitmapCombinesRow.holds Tryd.pinned (OpenSpec.ofChange bitmapCombinesSpec)

/-- ITS FALSE NEIGHBOUR: 'it returns false'. Refute it at one input. -/
def bitmapCombinesWrong : ChangeSpec := { name := "bitmapCombines", fn := fun _ => fun
  | [d1, d2] => { results := [.lit (.bool false)], args := [d1, d2] }
  | _ => none }
def BitmapCombinesWrongFalsely : Prop := bitmapCombinesRow.holds Tryd.pinned (OpenSpec.ofChange bitmapCombinesWrong)

/-- 'standbylaw02.BitmapExtents': WHATEVER THE INPUT: true; the input reads as it did. -/
def bitmapExtentsSpec : ChangeSpec := { name := "bitmapExtents", fn := fun _ => fun
  | [d1, d2, d3] => { results := [.lit (.bool true)], args := [d1, d2, d3] }
  | _ => none }
def bitmapExtentsRow : OpenClaim := { program := "ytbifhcjkdfocaaadoor", sum := "92bfb8642cca0a4e522cc0266e17931d8c595c08451b24da256dd6596ecb5d5a", func := "standby/standbylaw02.BitmapExtents", spec := "bitmapExtents", unfollowed := true, recurses := true, named := ["math/bits.deBruijn64tab"], apart := false, laid := [("math/bits.deBruijn64tab", laid_math_bits_deBruijn64tab)] }
def BitmapExtentsSaid : Prop := bitmapExtentsRow.holds Tryd.pinned (OpenSpec.ofChange bitmapExtentsSpec)

/-- ITS FALSE NEIGHBOUR: 'it returns false'. Refute it at one input. -/
def bitmapExtentsWrong : ChangeSpec := { name := "bitmapExtents", fn := fun _ => fun
  | [d1, d2, d3] => { results := [.lit (.bool false)], args := [d1, d2, d3] }
  | _ => none }
def BitmapExtentsWrongFalsely : Prop := bitmapExtentsRow.holds Tryd.pinned (OpenSpec.ofChange bitmapExtentsWrong)

/-- 'standbylaw02.BitmapReturns': WHATEVER THE INPUT: true; the input reads as it did. -/
def bitmapReturnsSpec : ChangeSpec := { name := "bitmapReturns", fn := fun _ => fun
  | [d] => { results := [.lit (.bool true)], args := [d] }
  | _ => none }
def bitmapReturnsRow : OpenClaim := { program := "ytbifhcjkdfocaaadoor", sum := "92bfb8642cca0a4e522cc0266e17931d8c595c08451b24da256dd6596ecb5d5a", func := "standby/standbylaw02.BitmapReturns", spec := "bitmapReturns", unfollowed := true, recurses := true, named := ["math/bits.deBruijn64tab"], apart := false, laid := [("math/bits.deBruijn64tab", laid_math_bits_deBruijn64tab)] }
def BitmapReturnsSaid : Prop := bitmapReturnsRow.holds Tryd.pinned (OpenSpec.ofChange bitmapReturnsSpec)

/-- ITS FALSE NEIGHBOUR: 'it returns false'. Refute it at one input. -/
def bitmapReturnsWrong : ChangeSpec := { name := "bitmapReturns", fn := fun _ => fun
  | [d] => { results := [.lit (.bool false)], args := [d] }
  | _ => none }
def BitmapReturnsWrongFalsely : Prop := bitmapReturnsRow.holds Tryd.pinned (OpenSpec.ofChange bitmapReturnsWrong)

/-- 'standbylaw02.BitmapVisits': WHATEVER THE INPUT: true; the input reads as it did. -/
def bitmapVisitsSpec : ChangeSpec := { name := "bitmapVisits", fn := fun _ => fun
  | [d] => { results := [.lit (.bool true)], args := [d] }
  | _ => none }
def bitmapVisitsRow : OpenClaim := { program := "ytbifhcjkdfocaaadoor", sum := "92bfb8642cca0a4e522cc0266e17931d8c595c08451b24da256dd6596ecb5d5a", func := "standby/standbylaw02.BitmapVisits", spec := "bitmapVisits", unfollowed := true, recurses := true, named := ["math/bits.deBruijn64tab"], apart := false, laid := [("math/bits.deBruijn64tab", laid_math_bits_deBruijn64tab)] }
def BitmapVisitsSaid : Prop := bitmapVisitsRow.holds Tryd.pinned (OpenSpec.ofChange bitmapVisitsSpec)

/-- ITS FALSE NEIGHBOUR: 'it returns false'. Refute it at one input. -/
def bitmapVisitsWrong : ChangeSpec := { name := "bitmapVisits", fn := fun _ => fun
  | [d] => { results := [.lit (.bool false)], args := [d] }
  | _ => none }
def BitmapVisitsWrongFalsely : Prop := bitmapVisitsRow.holds Tryd.pinned (OpenSpec.ofChange bitmapVisitsWrong)

/-- 'standbylaw02.BitmapCounts': WHATEVER THE INPUT: true; the input reads as it did. -/
def bitmapCountsSpec : ChangeSpec := { name := "bitmapCounts", fn := fun _ => fun
  | [d1, d2] => { results := [.lit (.bool true)], args := [d1, d2] }
  | _ => none }
def bitmapCountsRow : OpenClaim := { program := "ytbifhcjkdfocaaadoor", sum := "92bfb8642cca0a4e522cc0266e17931d8c595c08451b24da256dd6596ecb5d5a", func := "standby/standbylaw02.BitmapCounts", spec := "bitmapCounts", unfollowed := true, recurses := true, named := ["math/bits.deBruijn64tab"], apart := false, laid := [("math/bits.deBruijn64tab", laid_math_bits_deBruijn64tab)] }
def BitmapCountsSaid : Prop := bitmapCountsRow.holds Tryd.pinned (OpenSpec.ofChange bitmapCountsSpec)

/-- ITS FALSE NEIGHBOUR: 'it returns false'. Refute it at one input. -/
def bitmapCountsWrong : ChangeSpec := { name := "bitmapCounts", fn := fun _ => fun
  | [d1, d2] => { results := [.lit (.bool false)], args := [d1, d2] }
  | _ => none }
def BitmapCountsWrongFalsely : Prop := bitmapCountsRow.holds Tryd.pinned (OpenSpec.ofChange bitmapCountsWrong)

/-- 'standbylaw02.BitmapOrders': WHATEVER THE INPUT: true; the input reads as it did. -/
def bitmapOrdersSpec : ChangeSpec := { name := "bitmapOrders", fn := fun _ => fun
  | [d1, d2] => { results := [.lit (.bool true)], args := [d1, d2] }
  | _ => none }
def bitmapOrdersRow : OpenClaim := { program := "ytbifhcjkdfocaaadoor", sum := "92bfb8642cca0a4e522cc0266e17931d8c595c08451b24da256dd6596ecb5d5a", func := "standby/standbylaw02.BitmapOrders", spec := "bitmapOrders", unfollowed := true, recurses := true, named := ["math/bits.deBruijn64tab"], apart := false, laid := [("math/bits.deBruijn64tab", laid_math_bits_deBruijn64tab)] }
def BitmapOrdersSaid : Prop := bitmapOrdersRow.holds Tryd.pinned (OpenSpec.ofChange bitmapOrdersSpec)

/-- ITS FALSE NEIGHBOUR: 'it returns false'. Refute it at one input. -/
def bitmapOrdersWrong : ChangeSpec := { name := "bitmapOrders", fn := fun _ => fun
  | [d1, d2] => { results := [.lit (.bool false)], args := [d1, d2] }
  | _ => none }
def BitmapOrdersWrongFalsely : Prop := bitmapOrdersRow.holds Tryd.pinned (OpenSpec.ofChange bitmapOrdersWrong)

/- THE SECOND FORM. 'bulk': how many values and letters a reading holds, each counted each time it is reached (what is shared counts as often as it is met; a slice's spare places count too). A statement '..UptoSaid' is the law's where the arguments, and the package variables that the reading takes, are together of bulk at most 1048576: NARROWER than '..Said'. Prove '..Said' where nothing that the law and all that it calls make is longer than what came in: it says more and counts as full. Else prove '..UptoSaid'. A law counts once. -/
mutual
def uptoBulk {H : Type} : DataW H → Nat
  | .lit (.string bytes) => bytes.length + 1
  | .lit _ => 1
  | .nil => 1
  | .ptr d => uptoBulk d + 1
  | .slice elems spare => uptoBulkAll elems + uptoBulkAll spare + 1
  | .agg parts => uptoBulkAll parts + 1
  | .iface _ d => uptoBulk d + 1
  | .map entries => uptoBulkEntries entries + 1
  | .held _ => 1
def uptoBulkAll {H : Type} : List (DataW H) → Nat
  | [] => 0
  | d :: r => uptoBulk d + uptoBulkAll r
def uptoBulkEntries {H : Type} : List (Lit × DataW H) → Nat
  | [] => 0
  | x :: r => uptoBulkEntry x + uptoBulkEntries r
def uptoBulkEntry {H : Type} : Lit × DataW H → Nat
  | (.string bytes, d) => bytes.length + uptoBulk d + 1
  | (_, d) => uptoBulk d + 1
 end
def uptoSmall : (H : Type) → List (DataW H) → Bool := fun _ ds => decide (uptoBulkAll ds ≤ 1048576)
def OpenSpec.upto (s : _root_.Go.ChangeSpec) : _root_.Go.OpenSpec := { _root_.Go.OpenSpec.ofChange s with cond := some uptoSmall }

/-- 'standbylaw02.BitmapMakes', WHERE WHAT IT READS IS OF BULK AT MOST 1048576: true; the input reads as it did. -/
def bitmapMakesUptoRow : OpenClaim := { program := "ytbifhcjkdfocaaadoor", sum := "92bfb8642cca0a4e522cc0266e17931d8c595c08451b24da256dd6596ecb5d5a", func := "standby/standbylaw02.BitmapMakes", spec := "bitmapMakes", unfollowed := true, recurses := true, named := ["math/bits.deBruijn64tab"], apart := false, laid := [("math/bits.deBruijn64tab", laid_math_bits_deBruijn64tab)], narrowed := true }
def BitmapMakesUptoSaid : Prop := bitmapMakesUptoRow.holds Tryd.pinned (OpenSpec.upto bitmapMakesSpec)

/-- 'standbylaw02.BitmapChanges', WHERE WHAT IT READS IS OF BULK AT MOST 1048576: true; the input reads as it did. -/
def bitmapChangesUptoRow : OpenClaim := { program := "ytbifhcjkdfocaaadoor", sum := "92bfb8642cca0a4e522cc0266e17931d8c595c08451b24da256dd6596ecb5d5a", func := "standby/standbylaw02.BitmapChanges", spec := "bitmapChanges", unfollowed := true, recurses := true, named := ["math/bits.deBruijn64tab"], apart := false, laid := [("math/bits.deBruijn64tab", laid_math_bits_deBruijn64tab)], narrowed := true }
def BitmapChangesUptoSaid : Prop := bitmapChangesUptoRow.holds Tryd.pinned (OpenSpec.upto bitmapChangesSpec)

/-- 'standbylaw02.BitmapCombines', WHERE WHAT IT READS IS OF BULK AT MOST 1048576: true; the input reads as it did. -/
def bitmapCombinesUptoRow : OpenClaim := { program := "ytbifhcjkdfocaaadoor", sum := "92bfb8642cca0a4e522cc0266e17931d8c595c08451b24da256dd6596ecb5d5a", func := "standby/standbylaw02.BitmapCombines", spec := "bitmapCombines", unfollowed := true, recurses := true, named := ["math/bits.deBruijn64tab"], apart := false, laid := [("math/bits.deBruijn64tab", laid_math_bits_deBruijn64tab)], narrowed := true }
def BitmapCombinesUptoSaid : Prop := bitmapCombinesUptoRow.holds Tryd.pinned (OpenSpec.upto bitmapCombinesSpec)

/-- 'standbylaw02.BitmapExtents', WHERE WHAT IT READS IS OF BULK AT MOST 1048576: true; the input reads as it did. -/
def bitmapExtentsUptoRow : OpenClaim := { program := "ytbifhcjkdfocaaadoor", sum := "92bfb8642cca0a4e522cc0266e17931d8c595c08451b24da256dd6596ecb5d5a", func := "standby/standbylaw02.BitmapExtents", spec := "bitmapExtents", unfollowed := true, recurses := true, named := ["math/bits.deBruijn64tab"], apart := false, laid := [("math/bits.deBruijn64tab", laid_math_bits_deBruijn64tab)], narrowed := true }
def BitmapExtentsUptoSaid : Prop := bitmapExtentsUptoRow.holds Tryd.pinned (OpenSpec.upto bitmapExtentsSpec)

/-- 'standbylaw02.BitmapReturns', WHERE WHAT IT READS IS OF BULK AT MOST 1048576: true; the input reads as it did. -/
def bitmapReturnsUptoRow : OpenClaim := { program := "ytbifhcjkdfocaaadoor", sum := "92bfb8642cca0a4e522cc0266e17931d8c595c08451b24da256dd6596ecb5d5a", func := "standby/standbylaw02.BitmapReturns", spec := "bitmapReturns", unfollowed := true, recurses := true, named := ["math/bits.deBruijn64tab"], apart := false, laid := [("math/bits.deBruijn64tab", laid_math_bits_deBruijn64tab)], narrowed := true }
def BitmapReturnsUptoSaid : Prop := bitmapReturnsUptoRow.holds Tryd.pinned (OpenSpec.upto bitmapReturnsSpec)

/-- 'standbylaw02.BitmapVisits', WHERE WHAT IT READS IS OF BULK AT MOST 1048576: true; the input reads as it did. -/
def bitmapVisitsUptoRow : OpenClaim := { program := "ytbifhcjkdfocaaadoor", sum := "92bfb8642cca0a4e522cc0266e17931d8c595c08451b24da256dd6596ecb5d5a", func := "standby/standbylaw02.BitmapVisits", spec := "bitmapVisits", unfollowed := true, recurses := true, named := ["math/bits.deBruijn64tab"], apart := false, laid := [("math/bits.deBruijn64tab", laid_math_bits_deBruijn64tab)], narrowed := true }
def BitmapVisitsUptoSaid : Prop := bitmapVisitsUptoRow.holds Tryd.pinned (OpenSpec.upto bitmapVisitsSpec)

/-- 'standbylaw02.BitmapCounts', WHERE WHAT IT READS IS OF BULK AT MOST 1048576: true; the input reads as it did. -/
def bitmapCountsUptoRow : OpenClaim := { program := "ytbifhcjkdfocaaadoor", sum := "92bfb8642cca0a4e522cc0266e17931d8c595c08451b24da256dd6596ecb5d5a", func := "standby/standbylaw02.BitmapCounts", spec := "bitmapCounts", unfollowed := true, recurses := true, named := ["math/bits.deBruijn64tab"], apart := false, laid := [("math/bits.deBruijn64tab", laid_math_bits_deBruijn64tab)], narrowed := true }
def BitmapCountsUptoSaid : Prop := bitmapCountsUptoRow.holds Tryd.pinned (OpenSpec.upto bitmapCountsSpec)

/-- 'standbylaw02.BitmapOrders', WHERE WHAT IT READS IS OF BULK AT MOST 1048576: true; the input reads as it did. -/
def bitmapOrdersUptoRow : OpenClaim := { program := "ytbifhcjkdfocaaadoor", sum := "92bfb8642cca0a4e522cc0266e17931d8c595c08451b24da256dd6596ecb5d5a", func := "standby/standbylaw02.BitmapOrders", spec := "bitmapOrders", unfollowed := true, recurses := true, named := ["math/bits.deBruijn64tab"], apart := false, laid := [("math/bits.deBruijn64tab", laid_math_bits_deBruijn64tab)], narrowed := true }
def BitmapOrdersUptoSaid : Prop := bitmapOrdersUptoRow.holds Tryd.pinned (OpenSpec.upto bitmapOrdersSpec)

end Rows
end Go.Proofs.YtbifhcjkdfocaaaDoor
