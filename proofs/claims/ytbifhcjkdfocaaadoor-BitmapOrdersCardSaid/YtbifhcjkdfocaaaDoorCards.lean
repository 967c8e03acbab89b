/-
  DERIVED. GIVEN WITH THE SEED: THE CARDS: each row of YtbifhcjkdfocaaaDoorRows.lean that lists a variable, with what it lists TIED to the program's text (the seventh form; the later family's looks); each row that meets fmt, with fmt's text TOLD by the authors' own Lean function (tested against real Go, not proved from fmt's source: count such statements apart). THE CARD IS WHAT COUNTS. Prove the row's statement (the work); the ties are given (YtbifhcjkdfocaaaDoorTie.lean); close each card by the builder's one call (the guide's Derived/Test/ToyasCard.lean, 'card_holds'). Laid BY PROGRAM, IN A SANDBOX (cutbox-door.mjs). By AI agents, Wed Nov 11 2026. No macro, syntax, notation, axiom, sorry.
-/
import Derived.Test.YtbifhcjkdfocaaaDoorRows
import GoSem.ClaimSeven
namespace Go.Proofs.YtbifhcjkdfocaaaDoor
namespace Rows

/-- THE TIED CARD OF 'standbylaw02.BitmapMakes'. -/
def bitmapMakesCard : Claim7 := { stood := { row := bitmapMakesRow, standIns := [], harness := (true, "635a16371a997d68a030a905968e4aac3beaac0541d9b305ad998bf0588ce00c"), looks := false }, kinds := [], alts := [], laidByText := true, laidKinds := [.data], laidTests := true, laidLooks := .later }
def BitmapMakesCardSaid : Prop := Claim7.holds Tryd.pinned (.plain (OpenSpec.ofChange bitmapMakesSpec)) bitmapMakesCard

/-- THE TIED CARD OF 'standbylaw02.BitmapChanges'. -/
def bitmapChangesCard : Claim7 := { stood := { row := bitmapChangesRow, standIns := [], harness := (true, "635a16371a997d68a030a905968e4aac3beaac0541d9b305ad998bf0588ce00c"), looks := false }, kinds := [], alts := [], laidByText := true, laidKinds := [.data], laidTests := true, laidLooks := .later }
def BitmapChangesCardSaid : Prop := Claim7.holds Tryd.pinned (.plain (OpenSpec.ofChange bitmapChangesSpec)) bitmapChangesCard

/-- THE TIED CARD OF 'standbylaw02.BitmapCombines'. -/
def bitmapCombinesCard : Claim7 := { stood := { row := bitmapCombinesRow, standIns := [], harness := (true, "635a16371a997d68a030a905968e4aac3beaac0541d9b305ad998bf0588ce00c"), looks := false }, kinds := [], alts := [], laidByText := true, laidKinds := [.data], laidTests := true, laidLooks := .later }
def BitmapCombinesCardSaid : Prop := Claim7.holds Tryd.pinned (.plain (OpenSpec.ofChange bitmapCombinesSpec)) bitmapCombinesCard

/-- THE TIED CARD OF 'standbylaw02.BitmapExtents'. -/
def bitmapExtentsCard : Claim7 := { stood := { row := bitmapExtentsRow, standIns := [], harness := (true, "635a16371a997d68a030a905968e4aac3beaac0541d9b305ad998bf0588ce00c"), looks := false }, kinds := [], alts := [], laidByText := true, laidKinds := [.data], laidTests := true, laidLooks := .later }
def BitmapExtentsCardSaid : Prop := Claim7.holds Tryd.pinned (.plain (OpenSpec.ofChange bitmapExtentsSpec)) bitmapExtentsCard

/-- THE TIED CARD OF 'standbylaw02.BitmapReturns'. -/
def bitmapReturnsCard : Claim7 := { stood := { row := bitmapReturnsRow, standIns := [], harness := (true, "635a16371a997d68a030a905968e4aac3beaac0541d9b305ad998bf0588ce00c"), looks := false }, kinds := [], alts := [], laidByText := true, laidKinds := [.data], laidTests := true, laidLooks := .later }
def BitmapReturnsCardSaid : Prop := Claim7.holds Tryd.pinned (.plain (OpenSpec.ofChange bitmapReturnsSpec)) bitmapReturnsCard

/-- THE TIED CARD OF 'standbylaw02.BitmapVisits'. -/
def bitmapVisitsCard : Claim7 := { stood := { row := bitmapVisitsRow, standIns := [], harness := (true, "635a16371a997d68a030a905968e4aac3beaac0541d9b305ad998bf0588ce00c"), looks := false }, kinds := [], alts := [], laidByText := true, laidKinds := [.data], laidTests := true, laidLooks := .later }
def BitmapVisitsCardSaid : Prop := Claim7.holds Tryd.pinned (.plain (OpenSpec.ofChange bitmapVisitsSpec)) bitmapVisitsCard

/-- THE TIED CARD OF 'standbylaw02.BitmapCounts'. -/
def bitmapCountsCard : Claim7 := { stood := { row := bitmapCountsRow, standIns := [], harness := (true, "635a16371a997d68a030a905968e4aac3beaac0541d9b305ad998bf0588ce00c"), looks := false }, kinds := [], alts := [], laidByText := true, laidKinds := [.data], laidTests := true, laidLooks := .later }
def BitmapCountsCardSaid : Prop := Claim7.holds Tryd.pinned (.plain (OpenSpec.ofChange bitmapCountsSpec)) bitmapCountsCard

/-- THE TIED CARD OF 'standbylaw02.BitmapOrders'. -/
def bitmapOrdersCard : Claim7 := { stood := { row := bitmapOrdersRow, standIns := [], harness := (true, "635a16371a997d68a030a905968e4aac3beaac0541d9b305ad998bf0588ce00c"), looks := false }, kinds := [], alts := [], laidByText := true, laidKinds := [.data], laidTests := true, laidLooks := .later }
def BitmapOrdersCardSaid : Prop := Claim7.holds Tryd.pinned (.plain (OpenSpec.ofChange bitmapOrdersSpec)) bitmapOrdersCard

/-- THE SECOND FORM's CARD OF 'standbylaw02.BitmapMakes'. -/
def bitmapMakesUptoCard : Claim7 := { stood := { row := bitmapMakesUptoRow, standIns := [], harness := (true, "635a16371a997d68a030a905968e4aac3beaac0541d9b305ad998bf0588ce00c"), looks := false }, kinds := [], alts := [], laidByText := true, laidKinds := [.data], laidTests := true, laidLooks := .later }
def BitmapMakesUptoCardSaid : Prop := Claim7.holds Tryd.pinned (.plain (OpenSpec.upto bitmapMakesSpec)) bitmapMakesUptoCard

/-- THE SECOND FORM's CARD OF 'standbylaw02.BitmapChanges'. -/
def bitmapChangesUptoCard : Claim7 := { stood := { row := bitmapChangesUptoRow, standIns := [], harness := (true, "635a16371a997d68a030a905968e4aac3beaac0541d9b305ad998bf0588ce00c"), looks := false }, kinds := [], alts := [], laidByText := true, laidKinds := [.data], laidTests := true, laidLooks := .later }
def BitmapChangesUptoCardSaid : Prop := Claim7.holds Tryd.pinned (.plain (OpenSpec.upto bitmapChangesSpec)) bitmapChangesUptoCard

/-- THE SECOND FORM's CARD OF 'standbylaw02.BitmapCombines'. -/
def bitmapCombinesUptoCard : Claim7 := { stood := { row := bitmapCombinesUptoRow, standIns := [], harness := (true, "635a16371a997d68a030a905968e4aac3beaac0541d9b305ad998bf0588ce00c"), looks := false }, kinds := [], alts := [], laidByText := true, laidKinds := [.data], laidTests := true, laidLooks := .later }
def BitmapCombinesUptoCardSaid : Prop := Claim7.holds Tryd.pinned (.plain (OpenSpec.upto bitmapCombinesSpec)) bitmapCombinesUptoCard

/-- THE SECOND FORM's CARD OF 'standbylaw02.BitmapExtents'. -/
def bitmapExtentsUptoCard : Claim7 := { stood := { row := bitmapExtentsUptoRow, standIns := [], harness := (true, "635a16371a997d68a030a905968e4aac3beaac0541d9b305ad998bf0588ce00c"), looks := false }, kinds := [], alts := [], laidByText := true, laidKinds := [.data], laidTests := true, laidLooks := .later }
def BitmapExtentsUptoCardSaid : Prop := Claim7.holds Tryd.pinned (.plain (OpenSpec.upto bitmapExtentsSpec)) bitmapExtentsUptoCard

/-- THE SECOND FORM's CARD OF 'standbylaw02.BitmapReturns'. -/
def bitmapReturnsUptoCard : Claim7 := { stood := { row := bitmapReturnsUptoRow, standIns := [], harness := (true, "635a16371a997d68a030a905968e4aac3beaac0541d9b305ad998bf0588ce00c"), looks := false }, kinds := [], alts := [], laidByText := true, laidKinds := [.data], laidTests := true, laidLooks := .later }
def BitmapReturnsUptoCardSaid : Prop := Claim7.holds Tryd.pinned (.plain (OpenSpec.upto bitmapReturnsSpec)) bitmapReturnsUptoCard

/-- THE SECOND FORM's CARD OF 'standbylaw02.BitmapVisits'. -/
def bitmapVisitsUptoCard : Claim7 := { stood := { row := bitmapVisitsUptoRow, standIns := [], harness := (true, "635a16371a997d68a030a905968e4aac3beaac0541d9b305ad998bf0588ce00c"), looks := false }, kinds := [], alts := [], laidByText := true, laidKinds := [.data], laidTests := true, laidLooks := .later }
def BitmapVisitsUptoCardSaid : Prop := Claim7.holds Tryd.pinned (.plain (OpenSpec.upto bitmapVisitsSpec)) bitmapVisitsUptoCard

/-- THE SECOND FORM's CARD OF 'standbylaw02.BitmapCounts'. -/
def bitmapCountsUptoCard : Claim7 := { stood := { row := bitmapCountsUptoRow, standIns := [], harness := (true, "635a16371a997d68a030a905968e4aac3beaac0541d9b305ad998bf0588ce00c"), looks := false }, kinds := [], alts := [], laidByText := true, laidKinds := [.data], laidTests := true, laidLooks := .later }
def BitmapCountsUptoCardSaid : Prop := Claim7.holds Tryd.pinned (.plain (OpenSpec.upto bitmapCountsSpec)) bitmapCountsUptoCard

/-- THE SECOND FORM's CARD OF 'standbylaw02.BitmapOrders'. -/
def bitmapOrdersUptoCard : Claim7 := { stood := { row := bitmapOrdersUptoRow, standIns := [], harness := (true, "635a16371a997d68a030a905968e4aac3beaac0541d9b305ad998bf0588ce00c"), looks := false }, kinds := [], alts := [], laidByText := true, laidKinds := [.data], laidTests := true, laidLooks := .later }
def BitmapOrdersUptoCardSaid : Prop := Claim7.holds Tryd.pinned (.plain (OpenSpec.upto bitmapOrdersSpec)) bitmapOrdersUptoCard
end Rows
end Go.Proofs.YtbifhcjkdfocaaaDoor
