/-
  DERIVED. GIVEN WITH THE SEED: THE CARDS: each row of YtoobblofblodnaaDoorRows.lean that lists a variable, with what it lists TIED to the program's text (the seventh form; the later family's looks); each row that meets fmt, with fmt's text TOLD by the authors' own Lean function (tested against real Go, not proved from fmt's source: count such statements apart). THE CARD IS WHAT COUNTS. Prove the row's statement (the work); the ties are given (YtoobblofblodnaaDoorTie.lean); close each card by the builder's one call (the guide's Derived/Test/ToyasCard.lean, 'card_holds'). Laid BY PROGRAM, IN A SANDBOX (cutbox-door.mjs). By AI agents, Wed Nov 11 2026. No macro, syntax, notation, axiom, sorry.
-/
import Derived.Test.YtoobblofblodnaaDoorRows
import GoSem.ClaimSeven
namespace Go.Proofs.YtoobblofblodnaaDoor
namespace Rows

/-- THE TIED CARD OF 'ferrymanlaw03.FaultCodes'. -/
def faultCodesCard : Claim7 := { stood := { row := faultCodesRow, standIns := [], harness := (true, "d00021c6f4f6b78b97269b757cdfd16bec1013d3fa782b205ce5f843d7838a5a"), looks := true }, kinds := [], alts := [], laidByText := true, laidKinds := [.handle], laidTests := true, laidLooks := .later }
def FaultCodesCardSaid : Prop := Claim7.holds Tryd.pinned (.plain (OpenSpec.ofChange faultCodesSpec)) faultCodesCard

/-- THE TIED CARD OF 'ferrymanlaw03.FaultIs'. -/
def faultIsCard : Claim7 := { stood := { row := faultIsRow, standIns := [], harness := (true, "d00021c6f4f6b78b97269b757cdfd16bec1013d3fa782b205ce5f843d7838a5a"), looks := true }, kinds := [], alts := [], laidByText := true, laidKinds := [.handle], laidTests := true, laidLooks := .later }
def FaultIsCardSaid : Prop := Claim7.holds Tryd.pinned (.plain (OpenSpec.ofChange faultIsSpec)) faultIsCard

/-- THE TIED CARD OF 'ferrymanlaw03.FaultWhere'. -/
def faultWhereCard : Claim7 := { stood := { row := faultWhereRow, standIns := [], harness := (true, "d00021c6f4f6b78b97269b757cdfd16bec1013d3fa782b205ce5f843d7838a5a"), looks := true }, kinds := [], alts := [], laidByText := true, laidKinds := [.handle], laidTests := true, laidLooks := .later }
def FaultWhereCardSaid : Prop := Claim7.holds Tryd.pinned (.plain (OpenSpec.ofChange faultWhereSpec)) faultWhereCard

/-- THE TIED CARD OF 'ferrymanlaw03.FaultNone'. -/
def faultNoneCard : Claim7 := { stood := { row := faultNoneRow, standIns := [], harness := (true, "d00021c6f4f6b78b97269b757cdfd16bec1013d3fa782b205ce5f843d7838a5a"), looks := true }, kinds := [], alts := [], laidByText := true, laidKinds := [.handle], laidTests := true, laidLooks := .later }
def FaultNoneCardSaid : Prop := Claim7.holds Tryd.pinned (.plain (OpenSpec.ofChange faultNoneSpec)) faultNoneCard

/-- THE TIED CARD OF 'ferrymanlaw03.FaultSteps'. -/
def faultStepsCard : Claim7 := { stood := { row := faultStepsRow, standIns := [], harness := (true, "d00021c6f4f6b78b97269b757cdfd16bec1013d3fa782b205ce5f843d7838a5a"), looks := true }, kinds := [], alts := [], laidByText := true, laidKinds := [.data, .data, .data, .handle], laidTests := true, laidLooks := .later }
def FaultStepsCardSaid : Prop := Claim7.holds Tryd.pinned (.plain (OpenSpec.ofChange faultStepsSpec)) faultStepsCard

/-- THE TIED CARD OF 'ferrymanlaw03.FaultMore'. -/
def faultMoreCard : Claim7 := { stood := { row := faultMoreRow, standIns := [], harness := (true, "d00021c6f4f6b78b97269b757cdfd16bec1013d3fa782b205ce5f843d7838a5a"), looks := true }, kinds := [], alts := [], laidByText := true, laidKinds := [.handle], laidTests := true, laidLooks := .later }
def FaultMoreCardSaid : Prop := Claim7.holds Tryd.pinned (.plain (OpenSpec.ofChange faultMoreSpec)) faultMoreCard

/-- THE SECOND FORM's CARD OF 'ferrymanlaw03.FaultCodes'. -/
def faultCodesUptoCard : Claim7 := { stood := { row := faultCodesUptoRow, standIns := [], harness := (true, "d00021c6f4f6b78b97269b757cdfd16bec1013d3fa782b205ce5f843d7838a5a"), looks := true }, kinds := [], alts := [], laidByText := true, laidKinds := [.handle], laidTests := true, laidLooks := .later }
def FaultCodesUptoCardSaid : Prop := Claim7.holds Tryd.pinned (.plain (OpenSpec.upto faultCodesSpec)) faultCodesUptoCard

/-- THE SECOND FORM's CARD OF 'ferrymanlaw03.FaultIs'. -/
def faultIsUptoCard : Claim7 := { stood := { row := faultIsUptoRow, standIns := [], harness := (true, "d00021c6f4f6b78b97269b757cdfd16bec1013d3fa782b205ce5f843d7838a5a"), looks := true }, kinds := [], alts := [], laidByText := true, laidKinds := [.handle], laidTests := true, laidLooks := .later }
def FaultIsUptoCardSaid : Prop := Claim7.holds Tryd.pinned (.plain (OpenSpec.upto faultIsSpec)) faultIsUptoCard

/-- THE SECOND FORM's CARD OF 'ferrymanlaw03.FaultWhere'. -/
def faultWhereUptoCard : Claim7 := { stood := { row := faultWhereUptoRow, standIns := [], harness := (true, "d00021c6f4f6b78b97269b757cdfd16bec1013d3fa782b205ce5f843d7838a5a"), looks := true }, kinds := [], alts := [], laidByText := true, laidKinds := [.handle], laidTests := true, laidLooks := .later }
def FaultWhereUptoCardSaid : Prop := Claim7.holds Tryd.pinned (.plain (OpenSpec.upto faultWhereSpec)) faultWhereUptoCard

/-- THE SECOND FORM's CARD OF 'ferrymanlaw03.FaultNone'. -/
def faultNoneUptoCard : Claim7 := { stood := { row := faultNoneUptoRow, standIns := [], harness := (true, "d00021c6f4f6b78b97269b757cdfd16bec1013d3fa782b205ce5f843d7838a5a"), looks := true }, kinds := [], alts := [], laidByText := true, laidKinds := [.handle], laidTests := true, laidLooks := .later }
def FaultNoneUptoCardSaid : Prop := Claim7.holds Tryd.pinned (.plain (OpenSpec.upto faultNoneSpec)) faultNoneUptoCard

/-- THE SECOND FORM's CARD OF 'ferrymanlaw03.FaultSteps'. -/
def faultStepsUptoCard : Claim7 := { stood := { row := faultStepsUptoRow, standIns := [], harness := (true, "d00021c6f4f6b78b97269b757cdfd16bec1013d3fa782b205ce5f843d7838a5a"), looks := true }, kinds := [], alts := [], laidByText := true, laidKinds := [.data, .data, .data, .handle], laidTests := true, laidLooks := .later }
def FaultStepsUptoCardSaid : Prop := Claim7.holds Tryd.pinned (.plain (OpenSpec.upto faultStepsSpec)) faultStepsUptoCard

/-- THE SECOND FORM's CARD OF 'ferrymanlaw03.FaultMore'. -/
def faultMoreUptoCard : Claim7 := { stood := { row := faultMoreUptoRow, standIns := [], harness := (true, "d00021c6f4f6b78b97269b757cdfd16bec1013d3fa782b205ce5f843d7838a5a"), looks := true }, kinds := [], alts := [], laidByText := true, laidKinds := [.handle], laidTests := true, laidLooks := .later }
def FaultMoreUptoCardSaid : Prop := Claim7.holds Tryd.pinned (.plain (OpenSpec.upto faultMoreSpec)) faultMoreUptoCard
end Rows
end Go.Proofs.YtoobblofblodnaaDoor
