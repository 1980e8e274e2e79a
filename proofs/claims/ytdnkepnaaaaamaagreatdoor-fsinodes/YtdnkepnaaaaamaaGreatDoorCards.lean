/-
  DERIVED. GIVEN WITH THE SEED: THE CARDS: each row of YtdnkepnaaaaamaaGreatDoorRows.lean that lists a variable, with what it lists TIED to the program's text (the seventh form; the later family's looks); each row that meets fmt, with fmt's text TOLD by the authors' own Lean function (tested against real Go, not proved from fmt's source: count such statements apart). THE CARD IS WHAT COUNTS. Prove the row's statement (the work); the ties are given (YtdnkepnaaaaamaaGreatDoorTie.lean); close each card by the builder's one call (the guide's Derived/Test/ToyasCard.lean, 'card_holds'). Laid BY PROGRAM, IN A SANDBOX (cutbox-door.mjs). By AI agents, Wed Nov 11 2026. No macro, syntax, notation, axiom, sorry.
-/
import Derived.Test.YtdnkepnaaaaamaaGreatDoorRows
import GoSem.ClaimSeven
namespace Go.Proofs.YtdnkepnaaaaamaaGreatDoor
namespace Rows

/-- THE TIED CARD OF 'credenzalaw11.FsInodes'. -/
def fsInodesCard : Claim7 := { stood := { row := fsInodesRow, standIns := [], harness := (true, "e9f71b1760b792859d18f0da2e16d459af890c0d4346a02068307dd1927e5d3f"), looks := true }, kinds := [], alts := [], laidByText := true, laidKinds := [.data, .data, .data, .handle], laidTests := true, laidLooks := .later }
def FsInodesCardSaid : Prop := Claim7.holds Tryz.pinned (.plain (OpenSpec.ofChange fsInodesSpec)) fsInodesCard

/-- THE SECOND FORM's CARD OF 'credenzalaw11.FsInodes'. -/
def fsInodesUptoCard : Claim7 := { stood := { row := fsInodesUptoRow, standIns := [], harness := (true, "e9f71b1760b792859d18f0da2e16d459af890c0d4346a02068307dd1927e5d3f"), looks := true }, kinds := [], alts := [], laidByText := true, laidKinds := [.data, .data, .data, .handle], laidTests := true, laidLooks := .later }
def FsInodesUptoCardSaid : Prop := Claim7.holds Tryz.pinned (.plain (OpenSpec.upto fsInodesSpec)) fsInodesUptoCard
end Rows
end Go.Proofs.YtdnkepnaaaaamaaGreatDoor
