/- What each row of this seat lists, as the walks use it, and one memory that meets it. -/
import Derived.Test.YtjionogjeafffaaGreatDoorCards
import Derived.Test.YtjionogjeafffaaGreatDoorTie
import Derived.Test.YtjionogjeafffaaGreatDoorGW
import Derived.SliceStrings
import Derived.WalkKit
import Derived.ProofKit
import Derived.OpenShut
import Derived.LaidHandle
import Derived.Deep.DeepHandedRow
import Derived.Lib.LaidTab
namespace Go.Proofs.YtjionogjeafffaaGreatDoor
open Go.ChangeShapes Go.WideShapes Go.ChangeAt Go.RowKit

theorem own : ownKnob Tryz.prog.godebug = none := by kernel_rfl
theorem etGlobal : Tryz.prog.globalNamed "errors.errorType" = some 0 := by kernel_rfl
theorem rtType : (Tryz.prog.cutTypes.find? (·.1 == "internal/reflectlite.rtype")).map (·.2) = some 159 := by kernel_rfl
theorem oneError : ((List.range 385).filter fun t => Tryz.prog.rowNamed t [101, 114, 114, 111, 114]) = [32] := by kernel_rfl
theorem typesSize : Tryz.prog.types.size = 385 := by kernel_rfl

/-- The one variable of the library that a walk reads: its cell. -/
theorem handle_of_laid {W : World} (h : laidMetH Tryz.prog Rows.fsFormatsRow.laid W) : GT W := by
  have h' : _ ∧ handlesMet Tryz.prog [("errors.errorType", Rows.laid_errors_errorType)] W := h
  obtain ⟨name, u, ty, e1, e2, e3, e4, e5⟩ := h'.2 _ (List.mem_singleton.2 rfl)
  have en : name = [101, 114, 114, 111, 114] := (Option.some.inj e1).symm
  subst en
  obtain rfl := Option.some.inj (rtType.symm.trans e2)
  have hm : ty ∈ (List.range 385).filter fun t => Tryz.prog.rowNamed t [101, 114, 114, 111, 114] := List.mem_filter.2 ⟨List.mem_range.2 (by rw [← typesSize]; exact e3), e4⟩
  rw [oneError] at hm
  obtain rfl := List.mem_singleton.1 hm
  have hh : typeHandle Tryz.prog 32 = hdl 32 := by kernel_rfl
  rw [hh] at e5
  simpa using World.var?_cell etGlobal e5 0

/-- The numbers of a table as cells. -/
def numsOf : DataW Unit → Array Value
  | .agg l => (l.map fun d => match d with | .lit (.int k n) => Value.int k n | _ => .nilIface).toArray
  | _ => #[]
/-- A memory whose listed variables hold what the rows list. -/
def layWorld (w : World) : World :=
  { w with heap := (((w.heap.modify 0 fun
      | .cells _ t frozen => .cells #[typ 32] t frozen
      | o => o).modify 2 fun
      | .cells _ t frozen => .cells (numsOf Rows.laid_internal_strconv_uint64pow10) t frozen
      | o => o).modify 3 fun
      | .cells _ t frozen => .cells (numsOf Rows.laid_math_bits_deBruijn32tab) t frozen
      | o => o).modify 4 fun
      | .cells _ t frozen => .cells (numsOf Rows.laid_math_bits_deBruijn64tab) t frozen
      | o => o }
theorem lay_met (os : Os) (args : Array Value) : laidMetH Tryz.prog Rows.fsFormatsRow.laid ((layWorld (World.holding Tryz.prog os ⟨#[], #[], []⟩)).forCall (fun _ _ => 0) ⟨#[], args, []⟩).memory :=
  laidMetH_of_parts (laidMet_of_run' 8 (by kernel_rfl) (by kernel_rfl)) (by kernel_rfl)
theorem laidMet_tail {P : Program} {x : String × DataW Unit} {l : List (String × DataW Unit)} {W : World} (h : laidMet P (x :: l) W) : laidMet P l W := by
  obtain ⟨ps, ⟨g, t, cs, fuel, p, q, h1, h2, h3, h4, hr, rfl⟩, hnd, hall⟩ := h
  exact ⟨q, hr, (List.nodup_append.1 hnd).2.1, fun b off hm => hall b off (List.mem_append_right _ hm)⟩
theorem ptType : (Tryz.prog.globals[2]?).map (·.type) = some 332 := by kernel_rfl
theorem ptCells : Tryz.prog.cellsOf 332 = 20 := by kernel_rfl
theorem u64Cells : Tryz.prog.cellsOf 295 = 1 := by kernel_rfl
/-- The table of powers, as the row lists it. -/
theorem table_of_laid {W : World} (h : laidMetH Tryz.prog Rows.fsFormatsRow.laid W) : PT W := by
  have h' : laidMet Tryz.prog [("math/bits.deBruijn32tab", Rows.laid_math_bits_deBruijn32tab), ("math/bits.deBruijn64tab", Rows.laid_math_bits_deBruijn64tab), ("internal/strconv.uint64pow10", Rows.laid_internal_strconv_uint64pow10)] W ∧ _ := h
  exact Lib.tabIs_of_head (zs := Lib.pow10Tab) (rest := []) ptGlobal ptType Tryz.underlying332 Tryz.underlying295 u64Cells ptCells (laidMet_tail (laidMet_tail h'.1))

theorem ground_of_laid {W : World} (h : laidMetH Tryz.prog Rows.fsFormatsRow.laid W) : Ground W :=
  ⟨table_of_laid h, (table_of_laid h).lt⟩
theorem wf_bounds {n : Int} (h : (Lit.int .i64 n).wf = true) : i64 n := by
  have h1 : IntKind.i64.min = -9223372036854775808 := by decide
  have h2 : IntKind.i64.max = 9223372036854775807 := by decide
  simp only [Lit.wf, Bool.and_eq_true, decide_eq_true_eq, h1, h2] at h
  exact h
theorem laidOut : laidOutB Tryz.prog = true := by kernel_rfl
end Go.Proofs.YtjionogjeafffaaGreatDoor
