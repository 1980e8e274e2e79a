/- What each row of this seat lists, as the walks use it, and one memory that meets it. -/
import Derived.Test.YtnlcaabkbnppkaaDoorCards
import Derived.Test.YtnlcaabkbnppkaaDoorTie
import Derived.Test.YtnlcaabkbnppkaaDoorV5
import Derived.SliceStrings
import Derived.WalkKit
import Derived.ProofKit
import Derived.OpenShut
import Derived.LaidHandle
import Derived.Deep.DeepHandedRow
namespace Go.Proofs.YtnlcaabkbnppkaaDoor
open Go.ChangeShapes Go.WideShapes Go.ChangeAt Go.RowKit

theorem own : ownKnob Tryd.prog.godebug = none := by kernel_rfl
/-- The numbers of a table as cells. -/
def numsOf : DataW Unit → Array Value
  | .agg l => (l.flatMap fun d => match d with | .lit (.int k n) => [Value.int k n] | .agg m => (m.map fun e => match e with | .lit (.int k n) => Value.int k n | _ => .nilIface) | _ => [.nilIface]).toArray
  | _ => #[]
/-- A memory whose listed variables hold what the rows list. -/
def layWorld (w : World) : World :=
  { w with heap := (w.heap.modify 2 fun
      | .cells _ t frozen => .cells (numsOf Rows.laid_unicode_utf8_acceptRanges) t frozen
      | o => o).modify 1 fun
      | .cells _ t frozen => .cells (numsOf Rows.laid_unicode_utf8_first) t frozen
      | o => o }
theorem lay_met (os : Os) (args : Array Value) : laidMetH Tryd.prog Rows.versionSortsRow.laid ((layWorld (World.holding Tryd.prog os ⟨#[], #[], []⟩)).forCall (fun _ _ => 0) ⟨#[], args, []⟩).memory :=
  laidMetH_of_parts (laidMet_of_run' 8 (by kernel_rfl) (by kernel_rfl)) (by kernel_rfl)
theorem wf_bounds {n : Int} (h : (Lit.int .i64 n).wf = true) : -9223372036854775808 ≤ n ∧ n ≤ 9223372036854775807 := bounds_i64 h
theorem laidOut : laidOutB Tryd.prog = true := by kernel_rfl
end Go.Proofs.YtnlcaabkbnppkaaDoor
