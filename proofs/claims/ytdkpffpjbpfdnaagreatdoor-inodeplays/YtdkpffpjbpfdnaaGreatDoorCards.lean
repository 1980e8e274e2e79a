/-
  DERIVED. GIVEN WITH THE SEED: THE CARDS: each row of YtdkpffpjbpfdnaaGreatDoorRows.lean that lists a variable, with what it lists TIED to the program's text (the seventh form; the later family's looks); each row that meets fmt, with fmt's text TOLD by the authors' own Lean function (tested against real Go, not proved from fmt's source: count such statements apart). THE CARD IS WHAT COUNTS. Prove the row's statement (the work); the ties are given (YtdkpffpjbpfdnaaGreatDoorTie.lean); close each card by the builder's one call (the guide's Derived/Test/ToyasCard.lean, 'card_holds'). Laid BY PROGRAM, IN A SANDBOX (cutbox-door.mjs). By AI agents, Wed Nov 11 2026. No macro, syntax, notation, axiom, sorry.
-/
import Derived.Test.YtdkpffpjbpfdnaaGreatDoorRows
import GoSem.ClaimSeven
namespace Go.Proofs.YtdkpffpjbpfdnaaGreatDoor
namespace Rows

/-- THE TIED CARD OF 'credenzalaw8.InodePlays'. -/
def inodePlaysCard : Claim7 := { stood := { row := inodePlaysRow, standIns := [], harness := (true, "6eeb57f197eeba86a849c3d6ff8d38403e665267f40891fc14387e500a9c1bdd"), looks := true }, kinds := [], alts := [], laidByText := true, laidKinds := [.data, .data, .data, .handle], laidTests := true, laidLooks := .later }
def InodePlaysCardSaid : Prop := Claim7.holds Tryz.pinned (.plain (OpenSpec.ofChange inodePlaysSpec)) inodePlaysCard

/-- THE TIED CARD OF 'credenzalaw10.DirPlays'. -/
def dirPlaysCard : Claim7 := { stood := { row := dirPlaysRow, standIns := [], harness := (true, "6eeb57f197eeba86a849c3d6ff8d38403e665267f40891fc14387e500a9c1bdd"), looks := true }, kinds := [], alts := [], laidByText := true, laidKinds := [.data, .data, .data, .handle], laidTests := true, laidLooks := .later }
def DirPlaysCardSaid : Prop := Claim7.holds Tryz.pinned (.plain (OpenSpec.ofChange dirPlaysSpec)) dirPlaysCard

/-- THE TIED CARD OF 'credenzalaw10.DirRaw'. -/
def dirRawCard : Claim7 := { stood := { row := dirRawRow, standIns := [], harness := (true, "6eeb57f197eeba86a849c3d6ff8d38403e665267f40891fc14387e500a9c1bdd"), looks := true }, kinds := [], alts := [], laidByText := true, laidKinds := [.data, .data, .data, .handle], laidTests := true, laidLooks := .later }
def DirRawCardSaid : Prop := Claim7.holds Tryz.pinned (.plain (OpenSpec.ofChange dirRawSpec)) dirRawCard

/-- THE TIED CARD OF 'credenzalaw11.FsHolds'. -/
def fsHoldsCard : Claim7 := { stood := { row := fsHoldsRow, standIns := [], harness := (true, "6eeb57f197eeba86a849c3d6ff8d38403e665267f40891fc14387e500a9c1bdd"), looks := true }, kinds := [], alts := [], laidByText := true, laidKinds := [.data, .data, .data, .handle], laidTests := true, laidLooks := .later }
def FsHoldsCardSaid : Prop := Claim7.holds Tryz.pinned (.plain (OpenSpec.ofChange fsHoldsSpec)) fsHoldsCard

/-- THE TIED CARD OF 'credenzalaw11.FsMoves'. -/
def fsMovesCard : Claim7 := { stood := { row := fsMovesRow, standIns := [], harness := (true, "6eeb57f197eeba86a849c3d6ff8d38403e665267f40891fc14387e500a9c1bdd"), looks := true }, kinds := [], alts := [], laidByText := true, laidKinds := [.data, .data, .data, .handle], laidTests := true, laidLooks := .later }
def FsMovesCardSaid : Prop := Claim7.holds Tryz.pinned (.plain (OpenSpec.ofChange fsMovesSpec)) fsMovesCard

/-- THE TIED CARD OF 'credenzalaw11.FsInodes'. -/
def fsInodesCard : Claim7 := { stood := { row := fsInodesRow, standIns := [], harness := (true, "6eeb57f197eeba86a849c3d6ff8d38403e665267f40891fc14387e500a9c1bdd"), looks := true }, kinds := [], alts := [], laidByText := true, laidKinds := [.data, .data, .data, .handle], laidTests := true, laidLooks := .later }
def FsInodesCardSaid : Prop := Claim7.holds Tryz.pinned (.plain (OpenSpec.ofChange fsInodesSpec)) fsInodesCard

/-- THE SECOND FORM's CARD OF 'credenzalaw8.InodePlays'. -/
def inodePlaysUptoCard : Claim7 := { stood := { row := inodePlaysUptoRow, standIns := [], harness := (true, "6eeb57f197eeba86a849c3d6ff8d38403e665267f40891fc14387e500a9c1bdd"), looks := true }, kinds := [], alts := [], laidByText := true, laidKinds := [.data, .data, .data, .handle], laidTests := true, laidLooks := .later }
def InodePlaysUptoCardSaid : Prop := Claim7.holds Tryz.pinned (.plain (OpenSpec.upto inodePlaysSpec)) inodePlaysUptoCard

/-- THE SECOND FORM's CARD OF 'credenzalaw10.DirPlays'. -/
def dirPlaysUptoCard : Claim7 := { stood := { row := dirPlaysUptoRow, standIns := [], harness := (true, "6eeb57f197eeba86a849c3d6ff8d38403e665267f40891fc14387e500a9c1bdd"), looks := true }, kinds := [], alts := [], laidByText := true, laidKinds := [.data, .data, .data, .handle], laidTests := true, laidLooks := .later }
def DirPlaysUptoCardSaid : Prop := Claim7.holds Tryz.pinned (.plain (OpenSpec.upto dirPlaysSpec)) dirPlaysUptoCard

/-- THE SECOND FORM's CARD OF 'credenzalaw10.DirRaw'. -/
def dirRawUptoCard : Claim7 := { stood := { row := dirRawUptoRow, standIns := [], harness := (true, "6eeb57f197eeba86a849c3d6ff8d38403e665267f40891fc14387e500a9c1bdd"), looks := true }, kinds := [], alts := [], laidByText := true, laidKinds := [.data, .data, .data, .handle], laidTests := true, laidLooks := .later }
def DirRawUptoCardSaid : Prop := Claim7.holds Tryz.pinned (.plain (OpenSpec.upto dirRawSpec)) dirRawUptoCard

/-- THE SECOND FORM's CARD OF 'credenzalaw11.FsHolds'. -/
def fsHoldsUptoCard : Claim7 := { stood := { row := fsHoldsUptoRow, standIns := [], harness := (true, "6eeb57f197eeba86a849c3d6ff8d38403e665267f40891fc14387e500a9c1bdd"), looks := true }, kinds := [], alts := [], laidByText := true, laidKinds := [.data, .data, .data, .handle], laidTests := true, laidLooks := .later }
def FsHoldsUptoCardSaid : Prop := Claim7.holds Tryz.pinned (.plain (OpenSpec.upto fsHoldsSpec)) fsHoldsUptoCard

/-- THE SECOND FORM's CARD OF 'credenzalaw11.FsMoves'. -/
def fsMovesUptoCard : Claim7 := { stood := { row := fsMovesUptoRow, standIns := [], harness := (true, "6eeb57f197eeba86a849c3d6ff8d38403e665267f40891fc14387e500a9c1bdd"), looks := true }, kinds := [], alts := [], laidByText := true, laidKinds := [.data, .data, .data, .handle], laidTests := true, laidLooks := .later }
def FsMovesUptoCardSaid : Prop := Claim7.holds Tryz.pinned (.plain (OpenSpec.upto fsMovesSpec)) fsMovesUptoCard

/-- THE SECOND FORM's CARD OF 'credenzalaw11.FsInodes'. -/
def fsInodesUptoCard : Claim7 := { stood := { row := fsInodesUptoRow, standIns := [], harness := (true, "6eeb57f197eeba86a849c3d6ff8d38403e665267f40891fc14387e500a9c1bdd"), looks := true }, kinds := [], alts := [], laidByText := true, laidKinds := [.data, .data, .data, .handle], laidTests := true, laidLooks := .later }
def FsInodesUptoCardSaid : Prop := Claim7.holds Tryz.pinned (.plain (OpenSpec.upto fsInodesSpec)) fsInodesUptoCard
end Rows
end Go.Proofs.YtdkpffpjbpfdnaaGreatDoor
