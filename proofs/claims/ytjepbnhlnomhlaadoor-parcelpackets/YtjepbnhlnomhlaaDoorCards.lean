/-
  DERIVED. GIVEN WITH THE SEED: THE CARDS: each row of YtjepbnhlnomhlaaDoorRows.lean that lists a variable, with what it lists TIED to the program's text (the seventh form; the later family's looks); each row that meets fmt, with fmt's text TOLD by the authors' own Lean function (tested against real Go, not proved from fmt's source: count such statements apart). THE CARD IS WHAT COUNTS. Prove the row's statement (the work); the ties are given (YtjepbnhlnomhlaaDoorTie.lean); close each card by the builder's one call (the guide's Derived/Test/ToyasCard.lean, 'card_holds'). Laid BY PROGRAM, IN A SANDBOX (cutbox-door.mjs). By AI agents, Wed Nov 11 2026. No macro, syntax, notation, axiom, sorry.
-/
import Derived.Test.YtjepbnhlnomhlaaDoorRows
import GoSem.ClaimSeven
namespace Go.Proofs.YtjepbnhlnomhlaaDoor
namespace Rows

/-- THE TIED CARD OF 'ferrymanlaw04.ParcelPackets'. -/
def parcelPacketsCard : Claim7 := { stood := { row := parcelPacketsRow, standIns := [], harness := (true, "5501aa408673cb331891d04804d8337eb80750390ea0263e731a45091c30cef5"), looks := false }, kinds := [], alts := [], laidByText := true, laidKinds := [.data, .data], laidTests := true, laidLooks := .later }
def ParcelPacketsCardSaid : Prop := Claim7.holds Tryd.pinned (.plain (OpenSpec.ofChange parcelPacketsSpec)) parcelPacketsCard

/-- THE SECOND FORM's CARD OF 'ferrymanlaw04.ParcelPackets'. -/
def parcelPacketsUptoCard : Claim7 := { stood := { row := parcelPacketsUptoRow, standIns := [], harness := (true, "5501aa408673cb331891d04804d8337eb80750390ea0263e731a45091c30cef5"), looks := false }, kinds := [], alts := [], laidByText := true, laidKinds := [.data, .data], laidTests := true, laidLooks := .later }
def ParcelPacketsUptoCardSaid : Prop := Claim7.holds Tryd.pinned (.plain (OpenSpec.upto parcelPacketsSpec)) parcelPacketsUptoCard
end Rows
end Go.Proofs.YtjepbnhlnomhlaaDoor
