/-
  DERIVED. GIVEN WITH THE SEED: THE CARDS: each row of YtfoamhkgdlebdaaGreatDoorRows.lean that lists a variable, with what it lists TIED to the program's text (the seventh form; the later family's looks); each row that meets fmt, with fmt's text TOLD by the authors' own Lean function (tested against real Go, not proved from fmt's source: count such statements apart). THE CARD IS WHAT COUNTS. Prove the row's statement (the work); the ties are given (YtfoamhkgdlebdaaGreatDoorTie.lean); close each card by the builder's one call (the guide's Derived/Test/ToyasCard.lean, 'card_holds'). Laid BY PROGRAM, IN A SANDBOX (cutbox-door.mjs). By AI agents, Wed Nov 11 2026. No macro, syntax, notation, axiom, sorry.
-/
import Derived.Test.YtfoamhkgdlebdaaGreatDoorRows
import GoSem.ClaimSeven
namespace Go.Proofs.YtfoamhkgdlebdaaGreatDoor
namespace Rows

/-- THE TIED CARD OF 'credenzalaw14.ConfFaults'. -/
def confFaultsCard : Claim7 := { stood := { row := confFaultsRow, standIns := [], harness := (true, "02b33425f3a6908ebed3820eba14b6172cc057ba483259888d515292457345b4"), looks := true }, kinds := [], alts := [], laidByText := true, laidKinds := [.data, .data, .data, .data, .handle, .pinned], laidTests := true, laidLooks := .later }
def ConfFaultsCardSaid : Prop := Claim7.holds Tryz.pinned (.plain (OpenSpec.ofChange confFaultsSpec)) confFaultsCard

/-- THE TIED CARD OF 'credenzalaw14.ConfParses'. -/
def confParsesCard : Claim7 := { stood := { row := confParsesRow, standIns := [], harness := (true, "02b33425f3a6908ebed3820eba14b6172cc057ba483259888d515292457345b4"), looks := true }, kinds := [], alts := [], laidByText := true, laidKinds := [.data, .data, .data, .data, .handle, .pinned], laidTests := true, laidLooks := .later }
def ConfParsesCardSaid : Prop := Claim7.holds Tryz.pinned (.plain (OpenSpec.ofChange confParsesSpec)) confParsesCard

/-- THE SECOND FORM's CARD OF 'credenzalaw14.ConfFaults'. -/
def confFaultsUptoCard : Claim7 := { stood := { row := confFaultsUptoRow, standIns := [], harness := (true, "02b33425f3a6908ebed3820eba14b6172cc057ba483259888d515292457345b4"), looks := true }, kinds := [], alts := [], laidByText := true, laidKinds := [.data, .data, .data, .data, .handle, .pinned], laidTests := true, laidLooks := .later }
def ConfFaultsUptoCardSaid : Prop := Claim7.holds Tryz.pinned (.plain (OpenSpec.upto confFaultsSpec)) confFaultsUptoCard

/-- THE SECOND FORM's CARD OF 'credenzalaw14.ConfParses'. -/
def confParsesUptoCard : Claim7 := { stood := { row := confParsesUptoRow, standIns := [], harness := (true, "02b33425f3a6908ebed3820eba14b6172cc057ba483259888d515292457345b4"), looks := true }, kinds := [], alts := [], laidByText := true, laidKinds := [.data, .data, .data, .data, .handle, .pinned], laidTests := true, laidLooks := .later }
def ConfParsesUptoCardSaid : Prop := Claim7.holds Tryz.pinned (.plain (OpenSpec.upto confParsesSpec)) confParsesUptoCard
end Rows
end Go.Proofs.YtfoamhkgdlebdaaGreatDoor
