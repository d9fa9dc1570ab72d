/-
  DERIVED. GIVEN WITH THE SEED: THE CARDS: each row of YtbhmldoehgkhfaaDoorRows.lean that lists a variable, with what it lists TIED to the program's text (the seventh form; the later family's looks); each row that meets fmt, with fmt's text TOLD by the authors' own Lean function (tested against real Go, not proved from fmt's source: count such statements apart). THE CARD IS WHAT COUNTS. Prove the row's statement (the work); the ties are given (YtbhmldoehgkhfaaDoorTie.lean); close each card by the builder's one call (the guide's Derived/Test/ToyasCard.lean, 'card_holds'). Laid BY PROGRAM, IN A SANDBOX (cutbox-door.mjs). By AI agents, Wed Nov 11 2026. No macro, syntax, notation, axiom, sorry.
-/
import Derived.Test.YtbhmldoehgkhfaaDoorRows
import GoSem.ClaimSeven
namespace Go.Proofs.YtbhmldoehgkhfaaDoor
namespace Rows

/-- THE TIED CARD OF 'ferrymanlaw05.TreePlays'. -/
def treePlaysCard : Claim7 := { stood := { row := treePlaysRow, standIns := [], harness := (true, "c8b079e81f17fa6288335bd2f23fee7a2e806686f8edd59bbaac924c9d713130"), looks := false }, kinds := [], alts := [], laidByText := true, laidKinds := [.data, .data], laidTests := true, laidLooks := .later }
def TreePlaysCardSaid : Prop := Claim7.holds Tryd.pinned (.plain (OpenSpec.ofChange treePlaysSpec)) treePlaysCard

/-- THE TIED CARD OF 'ferrymanlaw05.TreeWays'. -/
def treeWaysCard : Claim7 := { stood := { row := treeWaysRow, standIns := [], harness := (true, "c8b079e81f17fa6288335bd2f23fee7a2e806686f8edd59bbaac924c9d713130"), looks := false }, kinds := [], alts := [], laidByText := true, laidKinds := [.data, .data], laidTests := true, laidLooks := .later }
def TreeWaysCardSaid : Prop := Claim7.holds Tryd.pinned (.plain (OpenSpec.ofChange treeWaysSpec)) treeWaysCard

/-- THE TIED CARD OF 'ferrymanlaw05.TreeBalance'. -/
def treeBalanceCard : Claim7 := { stood := { row := treeBalanceRow, standIns := [], harness := (true, "c8b079e81f17fa6288335bd2f23fee7a2e806686f8edd59bbaac924c9d713130"), looks := false }, kinds := [], alts := [], laidByText := true, laidKinds := [.data], laidTests := true, laidLooks := .later }
def TreeBalanceCardSaid : Prop := Claim7.holds Tryd.pinned (.plain (OpenSpec.ofChange treeBalanceSpec)) treeBalanceCard

/-- THE TIED CARD OF 'ferrymanlaw05.TreeStays'. -/
def treeStaysCard : Claim7 := { stood := { row := treeStaysRow, standIns := [], harness := (true, "c8b079e81f17fa6288335bd2f23fee7a2e806686f8edd59bbaac924c9d713130"), looks := false }, kinds := [], alts := [], laidByText := true, laidKinds := [.data], laidTests := true, laidLooks := .later }
def TreeStaysCardSaid : Prop := Claim7.holds Tryd.pinned (.plain (OpenSpec.ofChange treeStaysSpec)) treeStaysCard

/-- THE TIED CARD OF 'ferrymanlaw06.EpochPlays'. -/
def epochPlaysCard : Claim7 := { stood := { row := epochPlaysRow, standIns := [], harness := (true, "c8b079e81f17fa6288335bd2f23fee7a2e806686f8edd59bbaac924c9d713130"), looks := false }, kinds := [], alts := [], laidByText := true, laidKinds := [.data], laidTests := true, laidLooks := .later }
def EpochPlaysCardSaid : Prop := Claim7.holds Tryd.pinned (.plain (OpenSpec.ofChange epochPlaysSpec)) epochPlaysCard

/-- THE TIED CARD OF 'ferrymanlaw06.EpochNil'. -/
def epochNilCard : Claim7 := { stood := { row := epochNilRow, standIns := [], harness := (true, "c8b079e81f17fa6288335bd2f23fee7a2e806686f8edd59bbaac924c9d713130"), looks := false }, kinds := [], alts := [], laidByText := true, laidKinds := [.data], laidTests := true, laidLooks := .later }
def EpochNilCardSaid : Prop := Claim7.holds Tryd.pinned (.plain (OpenSpec.ofChange epochNilSpec)) epochNilCard

/-- THE TIED CARD OF 'ferrymanlaw06.EpochStays'. -/
def epochStaysCard : Claim7 := { stood := { row := epochStaysRow, standIns := [], harness := (true, "c8b079e81f17fa6288335bd2f23fee7a2e806686f8edd59bbaac924c9d713130"), looks := false }, kinds := [], alts := [], laidByText := true, laidKinds := [.data], laidTests := true, laidLooks := .later }
def EpochStaysCardSaid : Prop := Claim7.holds Tryd.pinned (.plain (OpenSpec.ofChange epochStaysSpec)) epochStaysCard

/-- THE SECOND FORM's CARD OF 'ferrymanlaw05.TreePlays'. -/
def treePlaysUptoCard : Claim7 := { stood := { row := treePlaysUptoRow, standIns := [], harness := (true, "c8b079e81f17fa6288335bd2f23fee7a2e806686f8edd59bbaac924c9d713130"), looks := false }, kinds := [], alts := [], laidByText := true, laidKinds := [.data, .data], laidTests := true, laidLooks := .later }
def TreePlaysUptoCardSaid : Prop := Claim7.holds Tryd.pinned (.plain (OpenSpec.upto treePlaysSpec)) treePlaysUptoCard

/-- THE SECOND FORM's CARD OF 'ferrymanlaw05.TreeWays'. -/
def treeWaysUptoCard : Claim7 := { stood := { row := treeWaysUptoRow, standIns := [], harness := (true, "c8b079e81f17fa6288335bd2f23fee7a2e806686f8edd59bbaac924c9d713130"), looks := false }, kinds := [], alts := [], laidByText := true, laidKinds := [.data, .data], laidTests := true, laidLooks := .later }
def TreeWaysUptoCardSaid : Prop := Claim7.holds Tryd.pinned (.plain (OpenSpec.upto treeWaysSpec)) treeWaysUptoCard

/-- THE SECOND FORM's CARD OF 'ferrymanlaw05.TreeBalance'. -/
def treeBalanceUptoCard : Claim7 := { stood := { row := treeBalanceUptoRow, standIns := [], harness := (true, "c8b079e81f17fa6288335bd2f23fee7a2e806686f8edd59bbaac924c9d713130"), looks := false }, kinds := [], alts := [], laidByText := true, laidKinds := [.data], laidTests := true, laidLooks := .later }
def TreeBalanceUptoCardSaid : Prop := Claim7.holds Tryd.pinned (.plain (OpenSpec.upto treeBalanceSpec)) treeBalanceUptoCard

/-- THE SECOND FORM's CARD OF 'ferrymanlaw05.TreeStays'. -/
def treeStaysUptoCard : Claim7 := { stood := { row := treeStaysUptoRow, standIns := [], harness := (true, "c8b079e81f17fa6288335bd2f23fee7a2e806686f8edd59bbaac924c9d713130"), looks := false }, kinds := [], alts := [], laidByText := true, laidKinds := [.data], laidTests := true, laidLooks := .later }
def TreeStaysUptoCardSaid : Prop := Claim7.holds Tryd.pinned (.plain (OpenSpec.upto treeStaysSpec)) treeStaysUptoCard

/-- THE SECOND FORM's CARD OF 'ferrymanlaw06.EpochPlays'. -/
def epochPlaysUptoCard : Claim7 := { stood := { row := epochPlaysUptoRow, standIns := [], harness := (true, "c8b079e81f17fa6288335bd2f23fee7a2e806686f8edd59bbaac924c9d713130"), looks := false }, kinds := [], alts := [], laidByText := true, laidKinds := [.data], laidTests := true, laidLooks := .later }
def EpochPlaysUptoCardSaid : Prop := Claim7.holds Tryd.pinned (.plain (OpenSpec.upto epochPlaysSpec)) epochPlaysUptoCard

/-- THE SECOND FORM's CARD OF 'ferrymanlaw06.EpochNil'. -/
def epochNilUptoCard : Claim7 := { stood := { row := epochNilUptoRow, standIns := [], harness := (true, "c8b079e81f17fa6288335bd2f23fee7a2e806686f8edd59bbaac924c9d713130"), looks := false }, kinds := [], alts := [], laidByText := true, laidKinds := [.data], laidTests := true, laidLooks := .later }
def EpochNilUptoCardSaid : Prop := Claim7.holds Tryd.pinned (.plain (OpenSpec.upto epochNilSpec)) epochNilUptoCard

/-- THE SECOND FORM's CARD OF 'ferrymanlaw06.EpochStays'. -/
def epochStaysUptoCard : Claim7 := { stood := { row := epochStaysUptoRow, standIns := [], harness := (true, "c8b079e81f17fa6288335bd2f23fee7a2e806686f8edd59bbaac924c9d713130"), looks := false }, kinds := [], alts := [], laidByText := true, laidKinds := [.data], laidTests := true, laidLooks := .later }
def EpochStaysUptoCardSaid : Prop := Claim7.holds Tryd.pinned (.plain (OpenSpec.upto epochStaysSpec)) epochStaysUptoCard
end Rows
end Go.Proofs.YtbhmldoehgkhfaaDoor
