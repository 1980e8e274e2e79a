/-
  DERIVED. GIVEN WITH THE SEED: THE CARDS: each row of YtpminhgkacgplaaDoorRows.lean that lists a variable, with what it lists TIED to the program's text (the seventh form; the later family's looks); each row that meets fmt, with fmt's text TOLD by the authors' own Lean function (tested against real Go, not proved from fmt's source: count such statements apart). THE CARD IS WHAT COUNTS. Prove the row's statement (the work); the ties are given (YtpminhgkacgplaaDoorTie.lean); close each card by the builder's one call (the guide's Derived/Test/ToyasCard.lean, 'card_holds'). Laid BY PROGRAM, IN A SANDBOX (cutbox-door.mjs). By AI agents, Wed Nov 11 2026. No macro, syntax, notation, axiom, sorry.
-/
import Derived.Test.YtpminhgkacgplaaDoorRows
import GoSem.ClaimSeven
namespace Go.Proofs.YtpminhgkacgplaaDoor
namespace Rows

/-- THE TIED CARD OF 'credenzalaw15.VersionDots'. -/
def versionDotsCard : Claim7 := { stood := { row := versionDotsRow, standIns := [], harness := (true, "06732197dd844895a22678ffb2cf11fcb59925f88577a21350d9b58b1c29cf77"), looks := false }, kinds := [], alts := [], laidByText := true, laidKinds := [.data, .pinned], laidTests := true, laidLooks := .later }
def VersionDotsCardSaid : Prop := Claim7.holds Tryd.pinned (.plain (OpenSpec.ofChange versionDotsSpec)) versionDotsCard

/-- THE TIED CARD OF 'credenzalaw15.VersionLong'. -/
def versionLongCard : Claim7 := { stood := { row := versionLongRow, standIns := [], harness := (true, "06732197dd844895a22678ffb2cf11fcb59925f88577a21350d9b58b1c29cf77"), looks := false }, kinds := [], alts := [], laidByText := true, laidKinds := [.data, .pinned], laidTests := true, laidLooks := .later }
def VersionLongCardSaid : Prop := Claim7.holds Tryd.pinned (.plain (OpenSpec.ofChange versionLongSpec)) versionLongCard

/-- THE TIED CARD OF 'credenzalaw15.VersionTells'. -/
def versionTellsCard : Claim7 := { stood := { row := versionTellsRow, standIns := [], harness := (true, "06732197dd844895a22678ffb2cf11fcb59925f88577a21350d9b58b1c29cf77"), looks := false }, kinds := [], alts := [], laidByText := true, laidKinds := [.data, .pinned], laidTests := true, laidLooks := .later }
def VersionTellsCardSaid : Prop := Claim7.holds Tryd.pinned (.plain (OpenSpec.ofChange versionTellsSpec)) versionTellsCard

/-- THE TIED CARD OF 'credenzalaw15.VersionOrders'. -/
def versionOrdersCard : Claim7 := { stood := { row := versionOrdersRow, standIns := [], harness := (true, "06732197dd844895a22678ffb2cf11fcb59925f88577a21350d9b58b1c29cf77"), looks := false }, kinds := [], alts := [], laidByText := true, laidKinds := [.data, .pinned], laidTests := true, laidLooks := .later }
def VersionOrdersCardSaid : Prop := Claim7.holds Tryd.pinned (.plain (OpenSpec.ofChange versionOrdersSpec)) versionOrdersCard

/-- THE TIED CARD OF 'credenzalaw15.VersionSorts'. -/
def versionSortsCard : Claim7 := { stood := { row := versionSortsRow, standIns := [], harness := (true, "06732197dd844895a22678ffb2cf11fcb59925f88577a21350d9b58b1c29cf77"), looks := false }, kinds := [], alts := [], laidByText := true, laidKinds := [.data, .pinned], laidTests := true, laidLooks := .later }
def VersionSortsCardSaid : Prop := Claim7.holds Tryd.pinned (.plain (OpenSpec.ofChange versionSortsSpec)) versionSortsCard

/-- THE TIED CARD OF 'credenzalaw15.VersionNumbers'. -/
def versionNumbersCard : Claim7 := { stood := { row := versionNumbersRow, standIns := [], harness := (true, "06732197dd844895a22678ffb2cf11fcb59925f88577a21350d9b58b1c29cf77"), looks := false }, kinds := [], alts := [], laidByText := true, laidKinds := [.data, .pinned], laidTests := true, laidLooks := .later }
def VersionNumbersCardSaid : Prop := Claim7.holds Tryd.pinned (.plain (OpenSpec.ofChange versionNumbersSpec)) versionNumbersCard

/-- THE SECOND FORM's CARD OF 'credenzalaw15.VersionDots'. -/
def versionDotsUptoCard : Claim7 := { stood := { row := versionDotsUptoRow, standIns := [], harness := (true, "06732197dd844895a22678ffb2cf11fcb59925f88577a21350d9b58b1c29cf77"), looks := false }, kinds := [], alts := [], laidByText := true, laidKinds := [.data, .pinned], laidTests := true, laidLooks := .later }
def VersionDotsUptoCardSaid : Prop := Claim7.holds Tryd.pinned (.plain (OpenSpec.upto versionDotsSpec)) versionDotsUptoCard

/-- THE SECOND FORM's CARD OF 'credenzalaw15.VersionLong'. -/
def versionLongUptoCard : Claim7 := { stood := { row := versionLongUptoRow, standIns := [], harness := (true, "06732197dd844895a22678ffb2cf11fcb59925f88577a21350d9b58b1c29cf77"), looks := false }, kinds := [], alts := [], laidByText := true, laidKinds := [.data, .pinned], laidTests := true, laidLooks := .later }
def VersionLongUptoCardSaid : Prop := Claim7.holds Tryd.pinned (.plain (OpenSpec.upto versionLongSpec)) versionLongUptoCard

/-- THE SECOND FORM's CARD OF 'credenzalaw15.VersionTells'. -/
def versionTellsUptoCard : Claim7 := { stood := { row := versionTellsUptoRow, standIns := [], harness := (true, "06732197dd844895a22678ffb2cf11fcb59925f88577a21350d9b58b1c29cf77"), looks := false }, kinds := [], alts := [], laidByText := true, laidKinds := [.data, .pinned], laidTests := true, laidLooks := .later }
def VersionTellsUptoCardSaid : Prop := Claim7.holds Tryd.pinned (.plain (OpenSpec.upto versionTellsSpec)) versionTellsUptoCard

/-- THE SECOND FORM's CARD OF 'credenzalaw15.VersionOrders'. -/
def versionOrdersUptoCard : Claim7 := { stood := { row := versionOrdersUptoRow, standIns := [], harness := (true, "06732197dd844895a22678ffb2cf11fcb59925f88577a21350d9b58b1c29cf77"), looks := false }, kinds := [], alts := [], laidByText := true, laidKinds := [.data, .pinned], laidTests := true, laidLooks := .later }
def VersionOrdersUptoCardSaid : Prop := Claim7.holds Tryd.pinned (.plain (OpenSpec.upto versionOrdersSpec)) versionOrdersUptoCard

/-- THE SECOND FORM's CARD OF 'credenzalaw15.VersionSorts'. -/
def versionSortsUptoCard : Claim7 := { stood := { row := versionSortsUptoRow, standIns := [], harness := (true, "06732197dd844895a22678ffb2cf11fcb59925f88577a21350d9b58b1c29cf77"), looks := false }, kinds := [], alts := [], laidByText := true, laidKinds := [.data, .pinned], laidTests := true, laidLooks := .later }
def VersionSortsUptoCardSaid : Prop := Claim7.holds Tryd.pinned (.plain (OpenSpec.upto versionSortsSpec)) versionSortsUptoCard

/-- THE SECOND FORM's CARD OF 'credenzalaw15.VersionNumbers'. -/
def versionNumbersUptoCard : Claim7 := { stood := { row := versionNumbersUptoRow, standIns := [], harness := (true, "06732197dd844895a22678ffb2cf11fcb59925f88577a21350d9b58b1c29cf77"), looks := false }, kinds := [], alts := [], laidByText := true, laidKinds := [.data, .pinned], laidTests := true, laidLooks := .later }
def VersionNumbersUptoCardSaid : Prop := Claim7.holds Tryd.pinned (.plain (OpenSpec.upto versionNumbersSpec)) versionNumbersUptoCard
end Rows
end Go.Proofs.YtpminhgkacgplaaDoor
