/-
  DERIVED. GIVEN WITH THE SEED: THE CARDS: each row of YtleafmdjhmnjmaaGreatDoorRows.lean that lists a variable, with what it lists TIED to the program's text (the seventh form; the later family's looks); each row that meets fmt, with fmt's text TOLD by the authors' own Lean function (tested against real Go, not proved from fmt's source: count such statements apart). THE CARD IS WHAT COUNTS. Prove the row's statement (the work); the ties are given (YtleafmdjhmnjmaaGreatDoorTie.lean); close each card by the builder's one call (the guide's Derived/Test/ToyasCard.lean, 'card_holds'). Laid BY PROGRAM, IN A SANDBOX (cutbox-door.mjs). By AI agents, Wed Nov 11 2026. No macro, syntax, notation, axiom, sorry.
-/
import Derived.Test.YtleafmdjhmnjmaaGreatDoorRows
import GoSem.ClaimSeven
namespace Go.Proofs.YtleafmdjhmnjmaaGreatDoor
namespace Rows

/-- THE TIED CARD OF 'credenzalaw11.FsFills'. -/
def fsFillsCard : Claim7 := { stood := { row := fsFillsRow, standIns := [], harness := (true, "34459fe74acd7cfdcf5fe5d445cc8fe26d76246f2c7286133765cce21ae445b3"), looks := true }, kinds := [], alts := [], laidByText := true, laidKinds := [.data, .data, .data, .handle], laidTests := true, laidLooks := .later }
def FsFillsCardSaid : Prop := Claim7.holds Tryz.pinned (.plain (OpenSpec.ofChange fsFillsSpec)) fsFillsCard

/-- THE TIED CARD OF 'credenzalaw11.FsMoves'. -/
def fsMovesCard : Claim7 := { stood := { row := fsMovesRow, standIns := [], harness := (true, "34459fe74acd7cfdcf5fe5d445cc8fe26d76246f2c7286133765cce21ae445b3"), looks := true }, kinds := [], alts := [], laidByText := true, laidKinds := [.data, .data, .data, .handle], laidTests := true, laidLooks := .later }
def FsMovesCardSaid : Prop := Claim7.holds Tryz.pinned (.plain (OpenSpec.ofChange fsMovesSpec)) fsMovesCard

/-- THE SECOND FORM's CARD OF 'credenzalaw11.FsFills'. -/
def fsFillsUptoCard : Claim7 := { stood := { row := fsFillsUptoRow, standIns := [], harness := (true, "34459fe74acd7cfdcf5fe5d445cc8fe26d76246f2c7286133765cce21ae445b3"), looks := true }, kinds := [], alts := [], laidByText := true, laidKinds := [.data, .data, .data, .handle], laidTests := true, laidLooks := .later }
def FsFillsUptoCardSaid : Prop := Claim7.holds Tryz.pinned (.plain (OpenSpec.upto fsFillsSpec)) fsFillsUptoCard

/-- THE SECOND FORM's CARD OF 'credenzalaw11.FsMoves'. -/
def fsMovesUptoCard : Claim7 := { stood := { row := fsMovesUptoRow, standIns := [], harness := (true, "34459fe74acd7cfdcf5fe5d445cc8fe26d76246f2c7286133765cce21ae445b3"), looks := true }, kinds := [], alts := [], laidByText := true, laidKinds := [.data, .data, .data, .handle], laidTests := true, laidLooks := .later }
def FsMovesUptoCardSaid : Prop := Claim7.holds Tryz.pinned (.plain (OpenSpec.upto fsMovesSpec)) fsMovesUptoCard
end Rows
end Go.Proofs.YtleafmdjhmnjmaaGreatDoor
