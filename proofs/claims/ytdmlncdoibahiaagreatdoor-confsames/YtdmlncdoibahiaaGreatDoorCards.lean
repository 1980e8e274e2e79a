/-
  DERIVED. GIVEN WITH THE SEED: THE CARDS: each row of YtdmlncdoibahiaaGreatDoorRows.lean that lists a variable, with what it lists TIED to the program's text (the seventh form; the later family's looks); each row that meets fmt, with fmt's text TOLD by the authors' own Lean function (tested against real Go, not proved from fmt's source: count such statements apart). THE CARD IS WHAT COUNTS. Prove the row's statement (the work); the ties are given (YtdmlncdoibahiaaGreatDoorTie.lean); close each card by the builder's one call (the guide's Derived/Test/ToyasCard.lean, 'card_holds'). Laid BY PROGRAM, IN A SANDBOX (cutbox-door.mjs). By AI agents, Wed Nov 11 2026. No macro, syntax, notation, axiom, sorry.
-/
import Derived.Test.YtdmlncdoibahiaaGreatDoorRows
import GoSem.ClaimSeven
namespace Go.Proofs.YtdmlncdoibahiaaGreatDoor
namespace Rows

/-- THE TIED CARD OF 'credenzalaw14.ConfApart'. -/
def confApartCard : Claim7 := { stood := { row := confApartRow, standIns := [], harness := (true, "15d861e3d78fddfceaebbeddf686ed860f38f88f1770634ad4b96863e4ab6822"), looks := true }, kinds := [], alts := [], laidByText := true, laidKinds := [.data, .data, .data, .data, .handle, .pinned], laidTests := true, laidLooks := .later }
def ConfApartCardSaid : Prop := Claim7.holds Tryz.pinned (.plain (OpenSpec.ofChange confApartSpec)) confApartCard

/-- THE TIED CARD OF 'credenzalaw14.ConfTurned'. -/
def confTurnedCard : Claim7 := { stood := { row := confTurnedRow, standIns := [], harness := (true, "15d861e3d78fddfceaebbeddf686ed860f38f88f1770634ad4b96863e4ab6822"), looks := true }, kinds := [], alts := [], laidByText := true, laidKinds := [.data, .data, .data, .data, .handle, .pinned], laidTests := true, laidLooks := .later }
def ConfTurnedCardSaid : Prop := Claim7.holds Tryz.pinned (.plain (OpenSpec.ofChange confTurnedSpec)) confTurnedCard

/-- THE TIED CARD OF 'credenzalaw14.ConfPrints'. -/
def confPrintsCard : Claim7 := { stood := { row := confPrintsRow, standIns := [], harness := (true, "15d861e3d78fddfceaebbeddf686ed860f38f88f1770634ad4b96863e4ab6822"), looks := true }, kinds := [], alts := [], laidByText := true, laidKinds := [.data, .data, .data, .data, .handle, .pinned], laidTests := true, laidLooks := .later }
def ConfPrintsCardSaid : Prop := Claim7.holds Tryz.pinned (.plain (OpenSpec.ofChange confPrintsSpec)) confPrintsCard

/-- THE TIED CARD OF 'credenzalaw14.ConfParses'. -/
def confParsesCard : Claim7 := { stood := { row := confParsesRow, standIns := [], harness := (true, "15d861e3d78fddfceaebbeddf686ed860f38f88f1770634ad4b96863e4ab6822"), looks := true }, kinds := [], alts := [], laidByText := true, laidKinds := [.data, .data, .data, .data, .handle, .pinned], laidTests := true, laidLooks := .later }
def ConfParsesCardSaid : Prop := Claim7.holds Tryz.pinned (.plain (OpenSpec.ofChange confParsesSpec)) confParsesCard

/-- THE TIED CARD OF 'credenzalaw14.ConfSames'. -/
def confSamesCard : Claim7 := { stood := { row := confSamesRow, standIns := [], harness := (true, "15d861e3d78fddfceaebbeddf686ed860f38f88f1770634ad4b96863e4ab6822"), looks := true }, kinds := [], alts := [], laidByText := true, laidKinds := [.data, .data, .data, .data, .handle, .pinned], laidTests := true, laidLooks := .later }
def ConfSamesCardSaid : Prop := Claim7.holds Tryz.pinned (.plain (OpenSpec.ofChange confSamesSpec)) confSamesCard

/-- THE TIED CARD OF 'credenzalaw14.ConfOrders'. -/
def confOrdersCard : Claim7 := { stood := { row := confOrdersRow, standIns := [], harness := (true, "15d861e3d78fddfceaebbeddf686ed860f38f88f1770634ad4b96863e4ab6822"), looks := true }, kinds := [], alts := [], laidByText := true, laidKinds := [.data, .data, .data, .data, .handle, .pinned], laidTests := true, laidLooks := .later }
def ConfOrdersCardSaid : Prop := Claim7.holds Tryz.pinned (.plain (OpenSpec.ofChange confOrdersSpec)) confOrdersCard

/-- THE SECOND FORM's CARD OF 'credenzalaw14.ConfApart'. -/
def confApartUptoCard : Claim7 := { stood := { row := confApartUptoRow, standIns := [], harness := (true, "15d861e3d78fddfceaebbeddf686ed860f38f88f1770634ad4b96863e4ab6822"), looks := true }, kinds := [], alts := [], laidByText := true, laidKinds := [.data, .data, .data, .data, .handle, .pinned], laidTests := true, laidLooks := .later }
def ConfApartUptoCardSaid : Prop := Claim7.holds Tryz.pinned (.plain (OpenSpec.upto confApartSpec)) confApartUptoCard

/-- THE SECOND FORM's CARD OF 'credenzalaw14.ConfTurned'. -/
def confTurnedUptoCard : Claim7 := { stood := { row := confTurnedUptoRow, standIns := [], harness := (true, "15d861e3d78fddfceaebbeddf686ed860f38f88f1770634ad4b96863e4ab6822"), looks := true }, kinds := [], alts := [], laidByText := true, laidKinds := [.data, .data, .data, .data, .handle, .pinned], laidTests := true, laidLooks := .later }
def ConfTurnedUptoCardSaid : Prop := Claim7.holds Tryz.pinned (.plain (OpenSpec.upto confTurnedSpec)) confTurnedUptoCard

/-- THE SECOND FORM's CARD OF 'credenzalaw14.ConfPrints'. -/
def confPrintsUptoCard : Claim7 := { stood := { row := confPrintsUptoRow, standIns := [], harness := (true, "15d861e3d78fddfceaebbeddf686ed860f38f88f1770634ad4b96863e4ab6822"), looks := true }, kinds := [], alts := [], laidByText := true, laidKinds := [.data, .data, .data, .data, .handle, .pinned], laidTests := true, laidLooks := .later }
def ConfPrintsUptoCardSaid : Prop := Claim7.holds Tryz.pinned (.plain (OpenSpec.upto confPrintsSpec)) confPrintsUptoCard

/-- THE SECOND FORM's CARD OF 'credenzalaw14.ConfParses'. -/
def confParsesUptoCard : Claim7 := { stood := { row := confParsesUptoRow, standIns := [], harness := (true, "15d861e3d78fddfceaebbeddf686ed860f38f88f1770634ad4b96863e4ab6822"), looks := true }, kinds := [], alts := [], laidByText := true, laidKinds := [.data, .data, .data, .data, .handle, .pinned], laidTests := true, laidLooks := .later }
def ConfParsesUptoCardSaid : Prop := Claim7.holds Tryz.pinned (.plain (OpenSpec.upto confParsesSpec)) confParsesUptoCard

/-- THE SECOND FORM's CARD OF 'credenzalaw14.ConfSames'. -/
def confSamesUptoCard : Claim7 := { stood := { row := confSamesUptoRow, standIns := [], harness := (true, "15d861e3d78fddfceaebbeddf686ed860f38f88f1770634ad4b96863e4ab6822"), looks := true }, kinds := [], alts := [], laidByText := true, laidKinds := [.data, .data, .data, .data, .handle, .pinned], laidTests := true, laidLooks := .later }
def ConfSamesUptoCardSaid : Prop := Claim7.holds Tryz.pinned (.plain (OpenSpec.upto confSamesSpec)) confSamesUptoCard

/-- THE SECOND FORM's CARD OF 'credenzalaw14.ConfOrders'. -/
def confOrdersUptoCard : Claim7 := { stood := { row := confOrdersUptoRow, standIns := [], harness := (true, "15d861e3d78fddfceaebbeddf686ed860f38f88f1770634ad4b96863e4ab6822"), looks := true }, kinds := [], alts := [], laidByText := true, laidKinds := [.data, .data, .data, .data, .handle, .pinned], laidTests := true, laidLooks := .later }
def ConfOrdersUptoCardSaid : Prop := Claim7.holds Tryz.pinned (.plain (OpenSpec.upto confOrdersSpec)) confOrdersUptoCard
end Rows
end Go.Proofs.YtdmlncdoibahiaaGreatDoor
