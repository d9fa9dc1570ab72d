/-
  DERIVED. GIVEN WITH THE SEED: THE CARDS: each row of YtceillnmcccckaaDoorRows.lean that lists a variable, with what it lists TIED to the program's text (the seventh form; the later family's looks); each row that meets fmt, with fmt's text TOLD by the authors' own Lean function (tested against real Go, not proved from fmt's source: count such statements apart). THE CARD IS WHAT COUNTS. Prove the row's statement (the work); the ties are given (YtceillnmcccckaaDoorTie.lean); close each card by the builder's one call (the guide's Derived/Test/ToyasCard.lean, 'card_holds'). Laid BY PROGRAM, IN A SANDBOX (cutbox-door.mjs). By AI agents, Wed Nov 11 2026. No macro, syntax, notation, axiom, sorry.
-/
import Derived.Test.YtceillnmcccckaaDoorRows
import GoSem.ClaimSeven
namespace Go.Proofs.YtceillnmcccckaaDoor
namespace Rows

/-- THE TIED CARD OF 'ferrymanlaw05.TreePlays'. -/
def treePlaysCard : Claim7 := { stood := { row := treePlaysRow, standIns := [], harness := (true, "90973aca9c776bcba01990988e6f3f2dc66368e23d5a9669c4a46c93a9635c0a"), looks := false }, kinds := [], alts := [], laidByText := true, laidKinds := [.data, .data], laidTests := true, laidLooks := .later }
def TreePlaysCardSaid : Prop := Claim7.holds Tryd.pinned (.plain (OpenSpec.ofChange treePlaysSpec)) treePlaysCard

/-- THE TIED CARD OF 'ferrymanlaw05.TreeWays'. -/
def treeWaysCard : Claim7 := { stood := { row := treeWaysRow, standIns := [], harness := (true, "90973aca9c776bcba01990988e6f3f2dc66368e23d5a9669c4a46c93a9635c0a"), looks := false }, kinds := [], alts := [], laidByText := true, laidKinds := [.data, .data], laidTests := true, laidLooks := .later }
def TreeWaysCardSaid : Prop := Claim7.holds Tryd.pinned (.plain (OpenSpec.ofChange treeWaysSpec)) treeWaysCard

/-- THE TIED CARD OF 'ferrymanlaw05.TreeHashes'. -/
def treeHashesCard : Claim7 := { stood := { row := treeHashesRow, standIns := [], harness := (true, "90973aca9c776bcba01990988e6f3f2dc66368e23d5a9669c4a46c93a9635c0a"), looks := false }, kinds := [], alts := [], laidByText := true, laidKinds := [.data, .data], laidTests := true, laidLooks := .later }
def TreeHashesCardSaid : Prop := Claim7.holds Tryd.pinned (.plain (OpenSpec.ofChange treeHashesSpec)) treeHashesCard

/-- THE TIED CARD OF 'ferrymanlaw05.TreeBalance'. -/
def treeBalanceCard : Claim7 := { stood := { row := treeBalanceRow, standIns := [], harness := (true, "90973aca9c776bcba01990988e6f3f2dc66368e23d5a9669c4a46c93a9635c0a"), looks := false }, kinds := [], alts := [], laidByText := true, laidKinds := [.data], laidTests := true, laidLooks := .later }
def TreeBalanceCardSaid : Prop := Claim7.holds Tryd.pinned (.plain (OpenSpec.ofChange treeBalanceSpec)) treeBalanceCard

/-- THE TIED CARD OF 'ferrymanlaw05.TreeStays'. -/
def treeStaysCard : Claim7 := { stood := { row := treeStaysRow, standIns := [], harness := (true, "90973aca9c776bcba01990988e6f3f2dc66368e23d5a9669c4a46c93a9635c0a"), looks := false }, kinds := [], alts := [], laidByText := true, laidKinds := [.data], laidTests := true, laidLooks := .later }
def TreeStaysCardSaid : Prop := Claim7.holds Tryd.pinned (.plain (OpenSpec.ofChange treeStaysSpec)) treeStaysCard

/-- THE TIED CARD OF 'ferrymanlaw05.TreeNil'. -/
def treeNilCard : Claim7 := { stood := { row := treeNilRow, standIns := [], harness := (true, "90973aca9c776bcba01990988e6f3f2dc66368e23d5a9669c4a46c93a9635c0a"), looks := false }, kinds := [], alts := [], laidByText := true, laidKinds := [.data], laidTests := true, laidLooks := .later }
def TreeNilCardSaid : Prop := Claim7.holds Tryd.pinned (.plain (OpenSpec.ofChange treeNilSpec)) treeNilCard

/-- THE TIED CARD OF 'ferrymanlaw05.TreeHigh'. -/
def treeHighCard : Claim7 := { stood := { row := treeHighRow, standIns := [], harness := (true, "90973aca9c776bcba01990988e6f3f2dc66368e23d5a9669c4a46c93a9635c0a"), looks := false }, kinds := [], alts := [], laidByText := true, laidKinds := [.data], laidTests := true, laidLooks := .later }
def TreeHighCardSaid : Prop := Claim7.holds Tryd.pinned (.plain (OpenSpec.ofChange treeHighSpec)) treeHighCard

/-- THE TIED CARD OF 'ferrymanlaw05.TreeCuts'. -/
def treeCutsCard : Claim7 := { stood := { row := treeCutsRow, standIns := [], harness := (true, "90973aca9c776bcba01990988e6f3f2dc66368e23d5a9669c4a46c93a9635c0a"), looks := false }, kinds := [], alts := [], laidByText := true, laidKinds := [.data], laidTests := true, laidLooks := .later }
def TreeCutsCardSaid : Prop := Claim7.holds Tryd.pinned (.plain (OpenSpec.ofChange treeCutsSpec)) treeCutsCard

/-- THE SECOND FORM's CARD OF 'ferrymanlaw05.TreePlays'. -/
def treePlaysUptoCard : Claim7 := { stood := { row := treePlaysUptoRow, standIns := [], harness := (true, "90973aca9c776bcba01990988e6f3f2dc66368e23d5a9669c4a46c93a9635c0a"), looks := false }, kinds := [], alts := [], laidByText := true, laidKinds := [.data, .data], laidTests := true, laidLooks := .later }
def TreePlaysUptoCardSaid : Prop := Claim7.holds Tryd.pinned (.plain (OpenSpec.upto treePlaysSpec)) treePlaysUptoCard

/-- THE SECOND FORM's CARD OF 'ferrymanlaw05.TreeWays'. -/
def treeWaysUptoCard : Claim7 := { stood := { row := treeWaysUptoRow, standIns := [], harness := (true, "90973aca9c776bcba01990988e6f3f2dc66368e23d5a9669c4a46c93a9635c0a"), looks := false }, kinds := [], alts := [], laidByText := true, laidKinds := [.data, .data], laidTests := true, laidLooks := .later }
def TreeWaysUptoCardSaid : Prop := Claim7.holds Tryd.pinned (.plain (OpenSpec.upto treeWaysSpec)) treeWaysUptoCard

/-- THE SECOND FORM's CARD OF 'ferrymanlaw05.TreeHashes'. -/
def treeHashesUptoCard : Claim7 := { stood := { row := treeHashesUptoRow, standIns := [], harness := (true, "90973aca9c776bcba01990988e6f3f2dc66368e23d5a9669c4a46c93a9635c0a"), looks := false }, kinds := [], alts := [], laidByText := true, laidKinds := [.data, .data], laidTests := true, laidLooks := .later }
def TreeHashesUptoCardSaid : Prop := Claim7.holds Tryd.pinned (.plain (OpenSpec.upto treeHashesSpec)) treeHashesUptoCard

/-- THE SECOND FORM's CARD OF 'ferrymanlaw05.TreeBalance'. -/
def treeBalanceUptoCard : Claim7 := { stood := { row := treeBalanceUptoRow, standIns := [], harness := (true, "90973aca9c776bcba01990988e6f3f2dc66368e23d5a9669c4a46c93a9635c0a"), looks := false }, kinds := [], alts := [], laidByText := true, laidKinds := [.data], laidTests := true, laidLooks := .later }
def TreeBalanceUptoCardSaid : Prop := Claim7.holds Tryd.pinned (.plain (OpenSpec.upto treeBalanceSpec)) treeBalanceUptoCard

/-- THE SECOND FORM's CARD OF 'ferrymanlaw05.TreeStays'. -/
def treeStaysUptoCard : Claim7 := { stood := { row := treeStaysUptoRow, standIns := [], harness := (true, "90973aca9c776bcba01990988e6f3f2dc66368e23d5a9669c4a46c93a9635c0a"), looks := false }, kinds := [], alts := [], laidByText := true, laidKinds := [.data], laidTests := true, laidLooks := .later }
def TreeStaysUptoCardSaid : Prop := Claim7.holds Tryd.pinned (.plain (OpenSpec.upto treeStaysSpec)) treeStaysUptoCard

/-- THE SECOND FORM's CARD OF 'ferrymanlaw05.TreeNil'. -/
def treeNilUptoCard : Claim7 := { stood := { row := treeNilUptoRow, standIns := [], harness := (true, "90973aca9c776bcba01990988e6f3f2dc66368e23d5a9669c4a46c93a9635c0a"), looks := false }, kinds := [], alts := [], laidByText := true, laidKinds := [.data], laidTests := true, laidLooks := .later }
def TreeNilUptoCardSaid : Prop := Claim7.holds Tryd.pinned (.plain (OpenSpec.upto treeNilSpec)) treeNilUptoCard

/-- THE SECOND FORM's CARD OF 'ferrymanlaw05.TreeHigh'. -/
def treeHighUptoCard : Claim7 := { stood := { row := treeHighUptoRow, standIns := [], harness := (true, "90973aca9c776bcba01990988e6f3f2dc66368e23d5a9669c4a46c93a9635c0a"), looks := false }, kinds := [], alts := [], laidByText := true, laidKinds := [.data], laidTests := true, laidLooks := .later }
def TreeHighUptoCardSaid : Prop := Claim7.holds Tryd.pinned (.plain (OpenSpec.upto treeHighSpec)) treeHighUptoCard

/-- THE SECOND FORM's CARD OF 'ferrymanlaw05.TreeCuts'. -/
def treeCutsUptoCard : Claim7 := { stood := { row := treeCutsUptoRow, standIns := [], harness := (true, "90973aca9c776bcba01990988e6f3f2dc66368e23d5a9669c4a46c93a9635c0a"), looks := false }, kinds := [], alts := [], laidByText := true, laidKinds := [.data], laidTests := true, laidLooks := .later }
def TreeCutsUptoCardSaid : Prop := Claim7.holds Tryd.pinned (.plain (OpenSpec.upto treeCutsSpec)) treeCutsUptoCard
end Rows
end Go.Proofs.YtceillnmcccckaaDoor
