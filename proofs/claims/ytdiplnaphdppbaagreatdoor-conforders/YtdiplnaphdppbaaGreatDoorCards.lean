/-
  DERIVED. GIVEN WITH THE SEED: THE CARDS: each row of YtdiplnaphdppbaaGreatDoorRows.lean that lists a variable, with what it lists TIED to the program's text (the seventh form; the later family's looks); each row that meets fmt, with fmt's text TOLD by the authors' own Lean function (tested against real Go, not proved from fmt's source: count such statements apart). THE CARD IS WHAT COUNTS. Prove the row's statement (the work); the ties are given (YtdiplnaphdppbaaGreatDoorTie.lean); close each card by the builder's one call (the guide's Derived/Test/ToyasCard.lean, 'card_holds'). Laid BY PROGRAM, IN A SANDBOX (cutbox-door.mjs). By AI agents, Wed Nov 11 2026. No macro, syntax, notation, axiom, sorry.
-/
import Derived.Test.YtdiplnaphdppbaaGreatDoorRows
import GoSem.ClaimSeven
namespace Go.Proofs.YtdiplnaphdppbaaGreatDoor
namespace Rows

/-- THE TIED CARD OF 'credenzalaw14.ConfParses'. -/
def confParsesCard : Claim7 := { stood := { row := confParsesRow, standIns := [], harness := (true, "020ecffb7dd132155a13f33bd133f5c75ae7c88f62f52b966663d94afd4e0918"), looks := true }, kinds := [], alts := [], laidByText := true, laidKinds := [.data, .data, .data, .data, .handle, .pinned], laidTests := true, laidLooks := .later }
def ConfParsesCardSaid : Prop := Claim7.holds Tryz.pinned (.plain (OpenSpec.ofChange confParsesSpec)) confParsesCard

/-- THE TIED CARD OF 'credenzalaw14.ConfOrders'. -/
def confOrdersCard : Claim7 := { stood := { row := confOrdersRow, standIns := [], harness := (true, "020ecffb7dd132155a13f33bd133f5c75ae7c88f62f52b966663d94afd4e0918"), looks := true }, kinds := [], alts := [], laidByText := true, laidKinds := [.data, .data, .data, .data, .handle, .pinned], laidTests := true, laidLooks := .later }
def ConfOrdersCardSaid : Prop := Claim7.holds Tryz.pinned (.plain (OpenSpec.ofChange confOrdersSpec)) confOrdersCard

/-- THE TIED CARD OF 'credenzalaw14.ConfFaults'. -/
def confFaultsCard : Claim7 := { stood := { row := confFaultsRow, standIns := [], harness := (true, "020ecffb7dd132155a13f33bd133f5c75ae7c88f62f52b966663d94afd4e0918"), looks := true }, kinds := [], alts := [], laidByText := true, laidKinds := [.data, .data, .data, .data, .handle, .pinned], laidTests := true, laidLooks := .later }
def ConfFaultsCardSaid : Prop := Claim7.holds Tryz.pinned (.plain (OpenSpec.ofChange confFaultsSpec)) confFaultsCard

/-- THE SECOND FORM's CARD OF 'credenzalaw14.ConfParses'. -/
def confParsesUptoCard : Claim7 := { stood := { row := confParsesUptoRow, standIns := [], harness := (true, "020ecffb7dd132155a13f33bd133f5c75ae7c88f62f52b966663d94afd4e0918"), looks := true }, kinds := [], alts := [], laidByText := true, laidKinds := [.data, .data, .data, .data, .handle, .pinned], laidTests := true, laidLooks := .later }
def ConfParsesUptoCardSaid : Prop := Claim7.holds Tryz.pinned (.plain (OpenSpec.upto confParsesSpec)) confParsesUptoCard

/-- THE SECOND FORM's CARD OF 'credenzalaw14.ConfOrders'. -/
def confOrdersUptoCard : Claim7 := { stood := { row := confOrdersUptoRow, standIns := [], harness := (true, "020ecffb7dd132155a13f33bd133f5c75ae7c88f62f52b966663d94afd4e0918"), looks := true }, kinds := [], alts := [], laidByText := true, laidKinds := [.data, .data, .data, .data, .handle, .pinned], laidTests := true, laidLooks := .later }
def ConfOrdersUptoCardSaid : Prop := Claim7.holds Tryz.pinned (.plain (OpenSpec.upto confOrdersSpec)) confOrdersUptoCard

/-- THE SECOND FORM's CARD OF 'credenzalaw14.ConfFaults'. -/
def confFaultsUptoCard : Claim7 := { stood := { row := confFaultsUptoRow, standIns := [], harness := (true, "020ecffb7dd132155a13f33bd133f5c75ae7c88f62f52b966663d94afd4e0918"), looks := true }, kinds := [], alts := [], laidByText := true, laidKinds := [.data, .data, .data, .data, .handle, .pinned], laidTests := true, laidLooks := .later }
def ConfFaultsUptoCardSaid : Prop := Claim7.holds Tryz.pinned (.plain (OpenSpec.upto confFaultsSpec)) confFaultsUptoCard
end Rows
end Go.Proofs.YtdiplnaphdppbaaGreatDoor
