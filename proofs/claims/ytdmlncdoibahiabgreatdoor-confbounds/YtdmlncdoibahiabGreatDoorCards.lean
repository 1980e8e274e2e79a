/-
  DERIVED. GIVEN WITH THE SEED: THE CARDS: each row of YtdmlncdoibahiabGreatDoorRows.lean that lists a variable, with what it lists TIED to the program's text (the seventh form; the later family's looks); each row that meets fmt, with fmt's text TOLD by the authors' own Lean function (tested against real Go, not proved from fmt's source: count such statements apart). THE CARD IS WHAT COUNTS. Prove the row's statement (the work); the ties are given (YtdmlncdoibahiabGreatDoorTie.lean); close each card by the builder's one call (the guide's Derived/Test/ToyasCard.lean, 'card_holds'). Laid BY PROGRAM, IN A SANDBOX (cutbox-door.mjs). By AI agents, Wed Nov 11 2026. No macro, syntax, notation, axiom, sorry.
-/
import Derived.Test.YtdmlncdoibahiabGreatDoorRows
import GoSem.ClaimSeven
namespace Go.Proofs.YtdmlncdoibahiabGreatDoor
namespace Rows

/-- THE TIED CARD OF 'credenzalaw14.ConfFaults'. -/
def confFaultsCard : Claim7 := { stood := { row := confFaultsRow, standIns := [], harness := (true, "5ae4e874711d76f566216b539370951bccd814f37044c893f0a1d914d0c9982a"), looks := true }, kinds := [], alts := [], laidByText := true, laidKinds := [.data, .data, .data, .data, .handle, .pinned], laidTests := true, laidLooks := .later }
def ConfFaultsCardSaid : Prop := Claim7.holds Tryz.pinned (.plain (OpenSpec.ofChange confFaultsSpec)) confFaultsCard

/-- THE TIED CARD OF 'credenzalaw14.ConfBounds'. -/
def confBoundsCard : Claim7 := { stood := { row := confBoundsRow, standIns := [], harness := (true, "5ae4e874711d76f566216b539370951bccd814f37044c893f0a1d914d0c9982a"), looks := true }, kinds := [], alts := [], laidByText := true, laidKinds := [.data, .data, .data, .data, .handle, .pinned], laidTests := true, laidLooks := .later }
def ConfBoundsCardSaid : Prop := Claim7.holds Tryz.pinned (.plain (OpenSpec.ofChange confBoundsSpec)) confBoundsCard

/-- THE SECOND FORM's CARD OF 'credenzalaw14.ConfFaults'. -/
def confFaultsUptoCard : Claim7 := { stood := { row := confFaultsUptoRow, standIns := [], harness := (true, "5ae4e874711d76f566216b539370951bccd814f37044c893f0a1d914d0c9982a"), looks := true }, kinds := [], alts := [], laidByText := true, laidKinds := [.data, .data, .data, .data, .handle, .pinned], laidTests := true, laidLooks := .later }
def ConfFaultsUptoCardSaid : Prop := Claim7.holds Tryz.pinned (.plain (OpenSpec.upto confFaultsSpec)) confFaultsUptoCard

/-- THE SECOND FORM's CARD OF 'credenzalaw14.ConfBounds'. -/
def confBoundsUptoCard : Claim7 := { stood := { row := confBoundsUptoRow, standIns := [], harness := (true, "5ae4e874711d76f566216b539370951bccd814f37044c893f0a1d914d0c9982a"), looks := true }, kinds := [], alts := [], laidByText := true, laidKinds := [.data, .data, .data, .data, .handle, .pinned], laidTests := true, laidLooks := .later }
def ConfBoundsUptoCardSaid : Prop := Claim7.holds Tryz.pinned (.plain (OpenSpec.upto confBoundsSpec)) confBoundsUptoCard
end Rows
end Go.Proofs.YtdmlncdoibahiabGreatDoor
