/-
  DERIVED. GIVEN WITH THE SEED: THE CARDS: each row of YtjionogjeafffaaGreatDoorRows.lean that lists a variable, with what it lists TIED to the program's text (the seventh form; the later family's looks); each row that meets fmt, with fmt's text TOLD by the authors' own Lean function (tested against real Go, not proved from fmt's source: count such statements apart). THE CARD IS WHAT COUNTS. Prove the row's statement (the work); the ties are given (YtjionogjeafffaaGreatDoorTie.lean); close each card by the builder's one call (the guide's Derived/Test/ToyasCard.lean, 'card_holds'). Laid BY PROGRAM, IN A SANDBOX (cutbox-door.mjs). By AI agents, Wed Nov 11 2026. No macro, syntax, notation, axiom, sorry.
-/
import Derived.Test.YtjionogjeafffaaGreatDoorRows
import GoSem.ClaimSeven
namespace Go.Proofs.YtjionogjeafffaaGreatDoor
namespace Rows

/-- THE TIED CARD OF 'credenzalaw11.FsFormats'. -/
def fsFormatsCard : Claim7 := { stood := { row := fsFormatsRow, standIns := [], harness := (true, "6ac71b7fc0469fb94a7e98c03858aacbeaa464b9dbf3f1581defc800b4da7d94"), looks := true }, kinds := [], alts := [], laidByText := true, laidKinds := [.data, .data, .data, .handle], laidTests := true, laidLooks := .later }
def FsFormatsCardSaid : Prop := Claim7.holds Tryz.pinned (.plain (OpenSpec.ofChange fsFormatsSpec)) fsFormatsCard

/-- THE TIED CARD OF 'credenzalaw11.FsSwaps'. -/
def fsSwapsCard : Claim7 := { stood := { row := fsSwapsRow, standIns := [], harness := (true, "6ac71b7fc0469fb94a7e98c03858aacbeaa464b9dbf3f1581defc800b4da7d94"), looks := true }, kinds := [], alts := [], laidByText := true, laidKinds := [.data, .data, .data, .handle], laidTests := true, laidLooks := .later }
def FsSwapsCardSaid : Prop := Claim7.holds Tryz.pinned (.plain (OpenSpec.ofChange fsSwapsSpec)) fsSwapsCard

/-- THE TIED CARD OF 'credenzalaw11.FsKinds'. -/
def fsKindsCard : Claim7 := { stood := { row := fsKindsRow, standIns := [], harness := (true, "6ac71b7fc0469fb94a7e98c03858aacbeaa464b9dbf3f1581defc800b4da7d94"), looks := true }, kinds := [], alts := [], laidByText := true, laidKinds := [.data, .data, .data, .handle], laidTests := true, laidLooks := .later }
def FsKindsCardSaid : Prop := Claim7.holds Tryz.pinned (.plain (OpenSpec.ofChange fsKindsSpec)) fsKindsCard

/-- THE SECOND FORM's CARD OF 'credenzalaw11.FsFormats'. -/
def fsFormatsUptoCard : Claim7 := { stood := { row := fsFormatsUptoRow, standIns := [], harness := (true, "6ac71b7fc0469fb94a7e98c03858aacbeaa464b9dbf3f1581defc800b4da7d94"), looks := true }, kinds := [], alts := [], laidByText := true, laidKinds := [.data, .data, .data, .handle], laidTests := true, laidLooks := .later }
def FsFormatsUptoCardSaid : Prop := Claim7.holds Tryz.pinned (.plain (OpenSpec.upto fsFormatsSpec)) fsFormatsUptoCard

/-- THE SECOND FORM's CARD OF 'credenzalaw11.FsSwaps'. -/
def fsSwapsUptoCard : Claim7 := { stood := { row := fsSwapsUptoRow, standIns := [], harness := (true, "6ac71b7fc0469fb94a7e98c03858aacbeaa464b9dbf3f1581defc800b4da7d94"), looks := true }, kinds := [], alts := [], laidByText := true, laidKinds := [.data, .data, .data, .handle], laidTests := true, laidLooks := .later }
def FsSwapsUptoCardSaid : Prop := Claim7.holds Tryz.pinned (.plain (OpenSpec.upto fsSwapsSpec)) fsSwapsUptoCard

/-- THE SECOND FORM's CARD OF 'credenzalaw11.FsKinds'. -/
def fsKindsUptoCard : Claim7 := { stood := { row := fsKindsUptoRow, standIns := [], harness := (true, "6ac71b7fc0469fb94a7e98c03858aacbeaa464b9dbf3f1581defc800b4da7d94"), looks := true }, kinds := [], alts := [], laidByText := true, laidKinds := [.data, .data, .data, .handle], laidTests := true, laidLooks := .later }
def FsKindsUptoCardSaid : Prop := Claim7.holds Tryz.pinned (.plain (OpenSpec.upto fsKindsSpec)) fsKindsUptoCard
end Rows
end Go.Proofs.YtjionogjeafffaaGreatDoor
