/-
  DERIVED. GIVEN WITH THE SEED: THE CARDS: each row of YtpofmiecjkghgaaGreatDoorRows.lean that lists a variable, with what it lists TIED to the program's text (the seventh form; the later family's looks); each row that meets fmt, with fmt's text TOLD by the authors' own Lean function (tested against real Go, not proved from fmt's source: count such statements apart). THE CARD IS WHAT COUNTS. Prove the row's statement (the work); the ties are given (YtpofmiecjkghgaaGreatDoorTie.lean); close each card by the builder's one call (the guide's Derived/Test/ToyasCard.lean, 'card_holds'). Laid BY PROGRAM, IN A SANDBOX (cutbox-door.mjs). By AI agents, Wed Nov 11 2026. No macro, syntax, notation, axiom, sorry.
-/
import Derived.Test.YtpofmiecjkghgaaGreatDoorRows
import GoSem.ClaimSeven
namespace Go.Proofs.YtpofmiecjkghgaaGreatDoor
namespace Rows

/-- THE TIED CARD OF 'credenzalaw11.FsHolds'. -/
def fsHoldsCard : Claim7 := { stood := { row := fsHoldsRow, standIns := [], harness := (true, "3ebbf0ec7230625312f986e26d649dcde89797999ee1cb09a293433e955de5b7"), looks := true }, kinds := [], alts := [], laidByText := true, laidKinds := [.data, .data, .data, .handle], laidTests := true, laidLooks := .later }
def FsHoldsCardSaid : Prop := Claim7.holds Tryz.pinned (.plain (OpenSpec.ofChange fsHoldsSpec)) fsHoldsCard

/-- THE TIED CARD OF 'credenzalaw11.FsOrphans'. -/
def fsOrphansCard : Claim7 := { stood := { row := fsOrphansRow, standIns := [], harness := (true, "3ebbf0ec7230625312f986e26d649dcde89797999ee1cb09a293433e955de5b7"), looks := true }, kinds := [], alts := [], laidByText := true, laidKinds := [.data, .data, .data, .handle], laidTests := true, laidLooks := .later }
def FsOrphansCardSaid : Prop := Claim7.holds Tryz.pinned (.plain (OpenSpec.ofChange fsOrphansSpec)) fsOrphansCard

/-- THE TIED CARD OF 'credenzalaw11.FsPieces'. -/
def fsPiecesCard : Claim7 := { stood := { row := fsPiecesRow, standIns := [], harness := (true, "3ebbf0ec7230625312f986e26d649dcde89797999ee1cb09a293433e955de5b7"), looks := true }, kinds := [], alts := [], laidByText := true, laidKinds := [.data, .data, .data, .handle], laidTests := true, laidLooks := .later }
def FsPiecesCardSaid : Prop := Claim7.holds Tryz.pinned (.plain (OpenSpec.ofChange fsPiecesSpec)) fsPiecesCard

/-- THE SECOND FORM's CARD OF 'credenzalaw11.FsHolds'. -/
def fsHoldsUptoCard : Claim7 := { stood := { row := fsHoldsUptoRow, standIns := [], harness := (true, "3ebbf0ec7230625312f986e26d649dcde89797999ee1cb09a293433e955de5b7"), looks := true }, kinds := [], alts := [], laidByText := true, laidKinds := [.data, .data, .data, .handle], laidTests := true, laidLooks := .later }
def FsHoldsUptoCardSaid : Prop := Claim7.holds Tryz.pinned (.plain (OpenSpec.upto fsHoldsSpec)) fsHoldsUptoCard

/-- THE SECOND FORM's CARD OF 'credenzalaw11.FsOrphans'. -/
def fsOrphansUptoCard : Claim7 := { stood := { row := fsOrphansUptoRow, standIns := [], harness := (true, "3ebbf0ec7230625312f986e26d649dcde89797999ee1cb09a293433e955de5b7"), looks := true }, kinds := [], alts := [], laidByText := true, laidKinds := [.data, .data, .data, .handle], laidTests := true, laidLooks := .later }
def FsOrphansUptoCardSaid : Prop := Claim7.holds Tryz.pinned (.plain (OpenSpec.upto fsOrphansSpec)) fsOrphansUptoCard

/-- THE SECOND FORM's CARD OF 'credenzalaw11.FsPieces'. -/
def fsPiecesUptoCard : Claim7 := { stood := { row := fsPiecesUptoRow, standIns := [], harness := (true, "3ebbf0ec7230625312f986e26d649dcde89797999ee1cb09a293433e955de5b7"), looks := true }, kinds := [], alts := [], laidByText := true, laidKinds := [.data, .data, .data, .handle], laidTests := true, laidLooks := .later }
def FsPiecesUptoCardSaid : Prop := Claim7.holds Tryz.pinned (.plain (OpenSpec.upto fsPiecesSpec)) fsPiecesUptoCard
end Rows
end Go.Proofs.YtpofmiecjkghgaaGreatDoor
