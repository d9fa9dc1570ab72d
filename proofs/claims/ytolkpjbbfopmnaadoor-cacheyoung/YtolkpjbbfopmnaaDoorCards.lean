/-
  DERIVED. GIVEN WITH THE SEED: THE CARDS: each row of YtolkpjbbfopmnaaDoorRows.lean that lists a variable, with what it lists TIED to the program's text (the seventh form; the later family's looks); each row that meets fmt, with fmt's text TOLD by the authors' own Lean function (tested against real Go, not proved from fmt's source: count such statements apart). THE CARD IS WHAT COUNTS. Prove the row's statement (the work); the ties are given (YtolkpjbbfopmnaaDoorTie.lean); close each card by the builder's one call (the guide's Derived/Test/ToyasCard.lean, 'card_holds'). Laid BY PROGRAM, IN A SANDBOX (cutbox-door.mjs). By AI agents, Wed Nov 11 2026. No macro, syntax, notation, axiom, sorry.
-/
import Derived.Test.YtolkpjbbfopmnaaDoorRows
import GoSem.ClaimSeven
namespace Go.Proofs.YtolkpjbbfopmnaaDoor
namespace Rows

/-- THE TIED CARD OF 'ferrymanlaw05.TreeStays'. -/
def treeStaysCard : Claim7 := { stood := { row := treeStaysRow, standIns := [], harness := (true, "4a087a398da5318ae21e99cdbd7acfaf7d36fe7f250e6b769594b654fbe482b9"), looks := false }, kinds := [], alts := [], laidByText := true, laidKinds := [.data], laidTests := true, laidLooks := .later }
def TreeStaysCardSaid : Prop := Claim7.holds Tryd.pinned (.plain (OpenSpec.ofChange treeStaysSpec)) treeStaysCard

/-- THE TIED CARD OF 'ferrymanlaw07.NodesNil'. -/
def nodesNilCard : Claim7 := { stood := { row := nodesNilRow, standIns := [], harness := (true, "4a087a398da5318ae21e99cdbd7acfaf7d36fe7f250e6b769594b654fbe482b9"), looks := false }, kinds := [], alts := [], laidByText := true, laidKinds := [.data, .data], laidTests := true, laidLooks := .later }
def NodesNilCardSaid : Prop := Claim7.holds Tryd.pinned (.plain (OpenSpec.ofChange nodesNilSpec)) nodesNilCard

/-- THE TIED CARD OF 'ferrymanlaw08.CacheYoung'. -/
def cacheYoungCard : Claim7 := { stood := { row := cacheYoungRow, standIns := [], harness := (true, "4a087a398da5318ae21e99cdbd7acfaf7d36fe7f250e6b769594b654fbe482b9"), looks := false }, kinds := [], alts := [], laidByText := true, laidKinds := [.data, .data], laidTests := true, laidLooks := .later }
def CacheYoungCardSaid : Prop := Claim7.holds Tryd.pinned (.plain (OpenSpec.ofChange cacheYoungSpec)) cacheYoungCard

/-- THE SECOND FORM's CARD OF 'ferrymanlaw05.TreeStays'. -/
def treeStaysUptoCard : Claim7 := { stood := { row := treeStaysUptoRow, standIns := [], harness := (true, "4a087a398da5318ae21e99cdbd7acfaf7d36fe7f250e6b769594b654fbe482b9"), looks := false }, kinds := [], alts := [], laidByText := true, laidKinds := [.data], laidTests := true, laidLooks := .later }
def TreeStaysUptoCardSaid : Prop := Claim7.holds Tryd.pinned (.plain (OpenSpec.upto treeStaysSpec)) treeStaysUptoCard

/-- THE SECOND FORM's CARD OF 'ferrymanlaw07.NodesNil'. -/
def nodesNilUptoCard : Claim7 := { stood := { row := nodesNilUptoRow, standIns := [], harness := (true, "4a087a398da5318ae21e99cdbd7acfaf7d36fe7f250e6b769594b654fbe482b9"), looks := false }, kinds := [], alts := [], laidByText := true, laidKinds := [.data, .data], laidTests := true, laidLooks := .later }
def NodesNilUptoCardSaid : Prop := Claim7.holds Tryd.pinned (.plain (OpenSpec.upto nodesNilSpec)) nodesNilUptoCard

/-- THE SECOND FORM's CARD OF 'ferrymanlaw08.CacheYoung'. -/
def cacheYoungUptoCard : Claim7 := { stood := { row := cacheYoungUptoRow, standIns := [], harness := (true, "4a087a398da5318ae21e99cdbd7acfaf7d36fe7f250e6b769594b654fbe482b9"), looks := false }, kinds := [], alts := [], laidByText := true, laidKinds := [.data, .data], laidTests := true, laidLooks := .later }
def CacheYoungUptoCardSaid : Prop := Claim7.holds Tryd.pinned (.plain (OpenSpec.upto cacheYoungSpec)) cacheYoungUptoCard
end Rows
end Go.Proofs.YtolkpjbbfopmnaaDoor
