/-
  DERIVED. GIVEN WITH THE SEED: THE CARDS: each row of YtbagncolhckhjaaDoorRows.lean that lists a variable, with what it lists TIED to the program's text (the seventh form; the later family's looks); each row that meets fmt, with fmt's text TOLD by the authors' own Lean function (tested against real Go, not proved from fmt's source: count such statements apart). THE CARD IS WHAT COUNTS. Prove the row's statement (the work); the ties are given (YtbagncolhckhjaaDoorTie.lean); close each card by the builder's one call (the guide's Derived/Test/ToyasCard.lean, 'card_holds'). Laid BY PROGRAM, IN A SANDBOX (cutbox-door.mjs). By AI agents, Wed Nov 11 2026. No macro, syntax, notation, axiom, sorry.
-/
import Derived.Test.YtbagncolhckhjaaDoorRows
import GoSem.ClaimSeven
namespace Go.Proofs.YtbagncolhckhjaaDoor
namespace Rows

/-- THE TIED CARD OF 'credenzalaw4.JournalAgain'. -/
def journalAgainCard : Claim7 := { stood := { row := journalAgainRow, standIns := [], harness := (true, "5e17cf1a0038a1d38fee4346114509ad879fdb0d55f70ef0ca0239671a63bde5"), looks := true }, kinds := [], alts := [], laidByText := true, laidKinds := [.data, .data, .data], laidTests := true, laidLooks := .later }
def JournalAgainCardSaid : Prop := Claim7.holds Tryd.pinned (.plain (OpenSpec.ofChange journalAgainSpec)) journalAgainCard

/-- THE TIED CARD OF 'credenzalaw4.JournalFull'. -/
def journalFullCard : Claim7 := { stood := { row := journalFullRow, standIns := [], harness := (true, "5e17cf1a0038a1d38fee4346114509ad879fdb0d55f70ef0ca0239671a63bde5"), looks := true }, kinds := [], alts := [], laidByText := true, laidKinds := [.data, .data, .data, .handle], laidTests := true, laidLooks := .later }
def JournalFullCardSaid : Prop := Claim7.holds Tryd.pinned (.plain (OpenSpec.ofChange journalFullSpec)) journalFullCard

/-- THE TIED CARD OF 'credenzalaw4.JournalPlays'. -/
def journalPlaysCard : Claim7 := { stood := { row := journalPlaysRow, standIns := [], harness := (true, "5e17cf1a0038a1d38fee4346114509ad879fdb0d55f70ef0ca0239671a63bde5"), looks := true }, kinds := [], alts := [], laidByText := true, laidKinds := [.data, .data, .data, .handle], laidTests := true, laidLooks := .later }
def JournalPlaysCardSaid : Prop := Claim7.holds Tryd.pinned (.plain (OpenSpec.ofChange journalPlaysSpec)) journalPlaysCard

/-- THE TIED CARD OF 'credenzalaw4.JournalEach'. -/
def journalEachCard : Claim7 := { stood := { row := journalEachRow, standIns := [], harness := (true, "5e17cf1a0038a1d38fee4346114509ad879fdb0d55f70ef0ca0239671a63bde5"), looks := true }, kinds := [], alts := [], laidByText := true, laidKinds := [.data, .data, .data, .handle], laidTests := true, laidLooks := .later }
def JournalEachCardSaid : Prop := Claim7.holds Tryd.pinned (.plain (OpenSpec.ofChange journalEachSpec)) journalEachCard

/-- THE TIED CARD OF 'credenzalaw4.JournalBounds'. -/
def journalBoundsCard : Claim7 := { stood := { row := journalBoundsRow, standIns := [], harness := (true, "5e17cf1a0038a1d38fee4346114509ad879fdb0d55f70ef0ca0239671a63bde5"), looks := true }, kinds := [], alts := [], laidByText := true, laidKinds := [.data, .data, .data, .handle], laidTests := true, laidLooks := .later }
def JournalBoundsCardSaid : Prop := Claim7.holds Tryd.pinned (.plain (OpenSpec.ofChange journalBoundsSpec)) journalBoundsCard

/-- THE SECOND FORM's CARD OF 'credenzalaw4.JournalAgain'. -/
def journalAgainUptoCard : Claim7 := { stood := { row := journalAgainUptoRow, standIns := [], harness := (true, "5e17cf1a0038a1d38fee4346114509ad879fdb0d55f70ef0ca0239671a63bde5"), looks := true }, kinds := [], alts := [], laidByText := true, laidKinds := [.data, .data, .data], laidTests := true, laidLooks := .later }
def JournalAgainUptoCardSaid : Prop := Claim7.holds Tryd.pinned (.plain (OpenSpec.upto journalAgainSpec)) journalAgainUptoCard

/-- THE SECOND FORM's CARD OF 'credenzalaw4.JournalFull'. -/
def journalFullUptoCard : Claim7 := { stood := { row := journalFullUptoRow, standIns := [], harness := (true, "5e17cf1a0038a1d38fee4346114509ad879fdb0d55f70ef0ca0239671a63bde5"), looks := true }, kinds := [], alts := [], laidByText := true, laidKinds := [.data, .data, .data, .handle], laidTests := true, laidLooks := .later }
def JournalFullUptoCardSaid : Prop := Claim7.holds Tryd.pinned (.plain (OpenSpec.upto journalFullSpec)) journalFullUptoCard

/-- THE SECOND FORM's CARD OF 'credenzalaw4.JournalPlays'. -/
def journalPlaysUptoCard : Claim7 := { stood := { row := journalPlaysUptoRow, standIns := [], harness := (true, "5e17cf1a0038a1d38fee4346114509ad879fdb0d55f70ef0ca0239671a63bde5"), looks := true }, kinds := [], alts := [], laidByText := true, laidKinds := [.data, .data, .data, .handle], laidTests := true, laidLooks := .later }
def JournalPlaysUptoCardSaid : Prop := Claim7.holds Tryd.pinned (.plain (OpenSpec.upto journalPlaysSpec)) journalPlaysUptoCard

/-- THE SECOND FORM's CARD OF 'credenzalaw4.JournalEach'. -/
def journalEachUptoCard : Claim7 := { stood := { row := journalEachUptoRow, standIns := [], harness := (true, "5e17cf1a0038a1d38fee4346114509ad879fdb0d55f70ef0ca0239671a63bde5"), looks := true }, kinds := [], alts := [], laidByText := true, laidKinds := [.data, .data, .data, .handle], laidTests := true, laidLooks := .later }
def JournalEachUptoCardSaid : Prop := Claim7.holds Tryd.pinned (.plain (OpenSpec.upto journalEachSpec)) journalEachUptoCard

/-- THE SECOND FORM's CARD OF 'credenzalaw4.JournalBounds'. -/
def journalBoundsUptoCard : Claim7 := { stood := { row := journalBoundsUptoRow, standIns := [], harness := (true, "5e17cf1a0038a1d38fee4346114509ad879fdb0d55f70ef0ca0239671a63bde5"), looks := true }, kinds := [], alts := [], laidByText := true, laidKinds := [.data, .data, .data, .handle], laidTests := true, laidLooks := .later }
def JournalBoundsUptoCardSaid : Prop := Claim7.holds Tryd.pinned (.plain (OpenSpec.upto journalBoundsSpec)) journalBoundsUptoCard
end Rows
end Go.Proofs.YtbagncolhckhjaaDoor
