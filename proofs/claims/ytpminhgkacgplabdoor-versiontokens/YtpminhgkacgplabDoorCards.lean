/-
  DERIVED. GIVEN WITH THE SEED: THE CARDS: each row of YtpminhgkacgplabDoorRows.lean that lists a variable, with what it lists TIED to the program's text (the seventh form; the later family's looks); each row that meets fmt, with fmt's text TOLD by the authors' own Lean function (tested against real Go, not proved from fmt's source: count such statements apart). THE CARD IS WHAT COUNTS. Prove the row's statement (the work); the ties are given (YtpminhgkacgplabDoorTie.lean); close each card by the builder's one call (the guide's Derived/Test/ToyasCard.lean, 'card_holds'). Laid BY PROGRAM, IN A SANDBOX (cutbox-door.mjs). By AI agents, Wed Nov 11 2026. No macro, syntax, notation, axiom, sorry.
-/
import Derived.Test.YtpminhgkacgplabDoorRows
import GoSem.ClaimSeven
namespace Go.Proofs.YtpminhgkacgplabDoor
namespace Rows

/-- THE TIED CARD OF 'credenzalaw15.VersionTails'. -/
def versionTailsCard : Claim7 := { stood := { row := versionTailsRow, standIns := [], harness := (true, "e1646b10f3583562cc1f81ad613038856a73c7eefe2316ad435560b60856d697"), looks := false }, kinds := [], alts := [], laidByText := true, laidKinds := [.data, .pinned], laidTests := true, laidLooks := .later }
def VersionTailsCardSaid : Prop := Claim7.holds Tryd.pinned (.plain (OpenSpec.ofChange versionTailsSpec)) versionTailsCard

/-- THE TIED CARD OF 'credenzalaw15.VersionTokens'. -/
def versionTokensCard : Claim7 := { stood := { row := versionTokensRow, standIns := [], harness := (true, "e1646b10f3583562cc1f81ad613038856a73c7eefe2316ad435560b60856d697"), looks := false }, kinds := [], alts := [], laidByText := true, laidKinds := [.data, .pinned], laidTests := true, laidLooks := .later }
def VersionTokensCardSaid : Prop := Claim7.holds Tryd.pinned (.plain (OpenSpec.ofChange versionTokensSpec)) versionTokensCard

/-- THE SECOND FORM's CARD OF 'credenzalaw15.VersionTails'. -/
def versionTailsUptoCard : Claim7 := { stood := { row := versionTailsUptoRow, standIns := [], harness := (true, "e1646b10f3583562cc1f81ad613038856a73c7eefe2316ad435560b60856d697"), looks := false }, kinds := [], alts := [], laidByText := true, laidKinds := [.data, .pinned], laidTests := true, laidLooks := .later }
def VersionTailsUptoCardSaid : Prop := Claim7.holds Tryd.pinned (.plain (OpenSpec.upto versionTailsSpec)) versionTailsUptoCard

/-- THE SECOND FORM's CARD OF 'credenzalaw15.VersionTokens'. -/
def versionTokensUptoCard : Claim7 := { stood := { row := versionTokensUptoRow, standIns := [], harness := (true, "e1646b10f3583562cc1f81ad613038856a73c7eefe2316ad435560b60856d697"), looks := false }, kinds := [], alts := [], laidByText := true, laidKinds := [.data, .pinned], laidTests := true, laidLooks := .later }
def VersionTokensUptoCardSaid : Prop := Claim7.holds Tryd.pinned (.plain (OpenSpec.upto versionTokensSpec)) versionTokensUptoCard
end Rows
end Go.Proofs.YtpminhgkacgplabDoor
