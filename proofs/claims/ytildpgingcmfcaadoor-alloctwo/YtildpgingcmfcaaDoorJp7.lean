/- The journal's Commit. -/
import Derived.Test.YtildpgingcmfcaaDoorJp6
namespace Go.Proofs.YtildpgingcmfcaaDoor
open Go.RowKit Go.Extern.Stop Go.Stop Go.Extern
set_option maxRecDepth 100000

/-- What is behind a Commit: all its Writes, or a beginning of them and the death. -/
structure Done (w0 : World) (d g n : Nat) (ws : Grp) (mem : Nat → Int) (writes left : Int) (r : Value) (w w' : World) : Prop where
  apart : Apart [d, g] w w'
  out : (r = .nilIface ∧ ∃ left', Sys w0 d g n (laid ws mem) (writes + ws.length) left' w' ∧ LeftOk left' ∧ (left = -1 → left' = -1)) ∨
    (∃ (k b : Nat) (i : Int), k < ws.length ∧ r = flt b ∧ Chain w' [(sJournal, sNone), (sDisk, itoaB i)] (num 50) (flt b) ∧ w.heap.size ≤ b ∧ Sys w0 d g n (laid (ws.take k) mem) (writes + k) 0 w' ∧ left ≠ -1)
section
variable {w0 : World} {d g n : Nat} {mem : Nat → Int} {writes left : Int} {w : World}
end
end Go.Proofs.YtildpgingcmfcaaDoor
