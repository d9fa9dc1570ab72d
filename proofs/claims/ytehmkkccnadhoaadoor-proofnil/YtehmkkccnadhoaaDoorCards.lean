/-
  DERIVED. GIVEN WITH THE SEED: THE CARDS: each row of YtehmkkccnadhoaaDoorRows.lean that lists a variable, with what it lists TIED to the program's text (the seventh form; the later family's looks); each row that meets fmt, with fmt's text TOLD by the authors' own Lean function (tested against real Go, not proved from fmt's source: count such statements apart). THE CARD IS WHAT COUNTS. Prove the row's statement (the work); the ties are given (YtehmkkccnadhoaaDoorTie.lean); close each card by the builder's one call (the guide's Derived/Test/ToyasCard.lean, 'card_holds'). Laid BY PROGRAM, IN A SANDBOX (cutbox-door.mjs). By AI agents, Wed Nov 11 2026. No macro, syntax, notation, axiom, sorry.
-/
import Derived.Test.YtehmkkccnadhoaaDoorRows
import GoSem.ClaimSeven
namespace Go.Proofs.YtehmkkccnadhoaaDoor
namespace Rows

/-- THE TIED CARD OF 'ferrymanlaw09.ProofNil'. -/
def proofNilCard : Claim7 := { stood := { row := proofNilRow, standIns := [], harness := (true, "7fcfab2fcec8f083d483c1969f41bf5a1f72ff3c288cae0937b7db14f7603a61"), looks := true }, kinds := [], alts := [], laidByText := true, laidKinds := [.data, .handle], laidTests := true, laidLooks := .later }
def ProofNilCardSaid : Prop := Claim7.holds Tryd.pinned (.plain (OpenSpec.ofChange proofNilSpec)) proofNilCard

/-- THE SECOND FORM's CARD OF 'ferrymanlaw09.ProofNil'. -/
def proofNilUptoCard : Claim7 := { stood := { row := proofNilUptoRow, standIns := [], harness := (true, "7fcfab2fcec8f083d483c1969f41bf5a1f72ff3c288cae0937b7db14f7603a61"), looks := true }, kinds := [], alts := [], laidByText := true, laidKinds := [.data, .handle], laidTests := true, laidLooks := .later }
def ProofNilUptoCardSaid : Prop := Claim7.holds Tryd.pinned (.plain (OpenSpec.upto proofNilSpec)) proofNilUptoCard
end Rows
end Go.Proofs.YtehmkkccnadhoaaDoor
