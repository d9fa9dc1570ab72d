/-
  DERIVED. GIVEN WITH THE SEED: THE CARDS: each row of YtemagoacjpilaaaDoorRows.lean that lists a variable, with what it lists TIED to the program's text (the seventh form; the later family's looks); each row that meets fmt, with fmt's text TOLD by the authors' own Lean function (tested against real Go, not proved from fmt's source: count such statements apart). THE CARD IS WHAT COUNTS. Prove the row's statement (the work); the ties are given (YtemagoacjpilaaaDoorTie.lean); close each card by the builder's one call (the guide's Derived/Test/ToyasCard.lean, 'card_holds'). Laid BY PROGRAM, IN A SANDBOX (cutbox-door.mjs). By AI agents, Wed Nov 11 2026. No macro, syntax, notation, axiom, sorry.
-/
import Derived.Test.YtemagoacjpilaaaDoorRows
import GoSem.ClaimSeven
namespace Go.Proofs.YtemagoacjpilaaaDoor
namespace Rows

/-- THE TIED CARD OF 'ferrymanlaw05.TreeBalance'. -/
def treeBalanceCard : Claim7 := { stood := { row := treeBalanceRow, standIns := [], harness := (true, "85fc1bd1742fd568556a419ab9424a4ccfd7dc21f64b2cfbcebb637fc54238bb"), looks := false }, kinds := [], alts := [], laidByText := true, laidKinds := [.data], laidTests := true, laidLooks := .later }
def TreeBalanceCardSaid : Prop := Claim7.holds Tryd.pinned (.plain (OpenSpec.ofChange treeBalanceSpec)) treeBalanceCard

/-- THE TIED CARD OF 'ferrymanlaw05.TreeStays'. -/
def treeStaysCard : Claim7 := { stood := { row := treeStaysRow, standIns := [], harness := (true, "85fc1bd1742fd568556a419ab9424a4ccfd7dc21f64b2cfbcebb637fc54238bb"), looks := false }, kinds := [], alts := [], laidByText := true, laidKinds := [.data], laidTests := true, laidLooks := .later }
def TreeStaysCardSaid : Prop := Claim7.holds Tryd.pinned (.plain (OpenSpec.ofChange treeStaysSpec)) treeStaysCard

/-- THE TIED CARD OF 'ferrymanlaw07.NodesNil'. -/
def nodesNilCard : Claim7 := { stood := { row := nodesNilRow, standIns := [], harness := (true, "85fc1bd1742fd568556a419ab9424a4ccfd7dc21f64b2cfbcebb637fc54238bb"), looks := false }, kinds := [], alts := [], laidByText := true, laidKinds := [.data, .data], laidTests := true, laidLooks := .later }
def NodesNilCardSaid : Prop := Claim7.holds Tryd.pinned (.plain (OpenSpec.ofChange nodesNilSpec)) nodesNilCard

/-- THE TIED CARD OF 'ferrymanlaw07.NodesFew'. -/
def nodesFewCard : Claim7 := { stood := { row := nodesFewRow, standIns := [], harness := (true, "85fc1bd1742fd568556a419ab9424a4ccfd7dc21f64b2cfbcebb637fc54238bb"), looks := false }, kinds := [], alts := [], laidByText := true, laidKinds := [.data], laidTests := true, laidLooks := .later }
def NodesFewCardSaid : Prop := Claim7.holds Tryd.pinned (.plain (OpenSpec.ofChange nodesFewSpec)) nodesFewCard

/-- THE SECOND FORM's CARD OF 'ferrymanlaw05.TreeBalance'. -/
def treeBalanceUptoCard : Claim7 := { stood := { row := treeBalanceUptoRow, standIns := [], harness := (true, "85fc1bd1742fd568556a419ab9424a4ccfd7dc21f64b2cfbcebb637fc54238bb"), looks := false }, kinds := [], alts := [], laidByText := true, laidKinds := [.data], laidTests := true, laidLooks := .later }
def TreeBalanceUptoCardSaid : Prop := Claim7.holds Tryd.pinned (.plain (OpenSpec.upto treeBalanceSpec)) treeBalanceUptoCard

/-- THE SECOND FORM's CARD OF 'ferrymanlaw05.TreeStays'. -/
def treeStaysUptoCard : Claim7 := { stood := { row := treeStaysUptoRow, standIns := [], harness := (true, "85fc1bd1742fd568556a419ab9424a4ccfd7dc21f64b2cfbcebb637fc54238bb"), looks := false }, kinds := [], alts := [], laidByText := true, laidKinds := [.data], laidTests := true, laidLooks := .later }
def TreeStaysUptoCardSaid : Prop := Claim7.holds Tryd.pinned (.plain (OpenSpec.upto treeStaysSpec)) treeStaysUptoCard

/-- THE SECOND FORM's CARD OF 'ferrymanlaw07.NodesNil'. -/
def nodesNilUptoCard : Claim7 := { stood := { row := nodesNilUptoRow, standIns := [], harness := (true, "85fc1bd1742fd568556a419ab9424a4ccfd7dc21f64b2cfbcebb637fc54238bb"), looks := false }, kinds := [], alts := [], laidByText := true, laidKinds := [.data, .data], laidTests := true, laidLooks := .later }
def NodesNilUptoCardSaid : Prop := Claim7.holds Tryd.pinned (.plain (OpenSpec.upto nodesNilSpec)) nodesNilUptoCard

/-- THE SECOND FORM's CARD OF 'ferrymanlaw07.NodesFew'. -/
def nodesFewUptoCard : Claim7 := { stood := { row := nodesFewUptoRow, standIns := [], harness := (true, "85fc1bd1742fd568556a419ab9424a4ccfd7dc21f64b2cfbcebb637fc54238bb"), looks := false }, kinds := [], alts := [], laidByText := true, laidKinds := [.data], laidTests := true, laidLooks := .later }
def NodesFewUptoCardSaid : Prop := Claim7.holds Tryd.pinned (.plain (OpenSpec.upto nodesFewSpec)) nodesFewUptoCard
end Rows
end Go.Proofs.YtemagoacjpilaaaDoor
