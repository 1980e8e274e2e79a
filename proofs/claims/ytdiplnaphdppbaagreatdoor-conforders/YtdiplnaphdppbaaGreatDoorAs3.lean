/- errors.As over a chain of Faults: into an *Errno it finds the number at the bottom, or nothing where there is none. -/
import Derived.Test.YtdiplnaphdppbaaGreatDoorAs2
namespace Go.Proofs.YtdiplnaphdppbaaGreatDoor
open Go.RowKit Go.Extern.Stop Go.Stop Go.Extern
set_option maxRecDepth 100000

theorem Tryz.partsE1 (a : Addr) (w : World) : (ReflectliteValue.parts (rval 59 a 386)).run Tryz.prog w = .ok (some (59, a, 386)) w := by kernel_rfl
theorem Tryz.partsE2 (a : Addr) (w : World) : (ReflectliteValue.parts (rval 59 a 130)).run Tryz.prog w = .ok (some (59, a, 130)) w := by kernel_rfl
theorem Tryz.mkE (p : Addr) (w : World) : (ReflectliteValue.mk 59 p ReflectliteValue.flagAddr).run Tryz.prog w = .ok (rval 59 p 386) w := by kernel_rfl
theorem Tryz.directE (w : World) : (Rtype.directlyAssignable 59 59).run Tryz.prog w = .ok true w := by kernel_rfl
theorem Tryz.storeE (ta : Addr) (n : Int) (old : Value) (W : World) (ht : W.cell? ta = some old) (hf : W.frozen? ta = false) : (storeVar 59 ta (.int .i64 n)).run Tryz.prog W = .ok () (W.setCell ta (.int .i64 n)) := by
  simp [storeVar, Value.cells, storeCells, Addr.add]
  rw [run_store Tryz.prog W ta _ _ (by rfl)]
  simp [ht, hf]
theorem Tryz.loadE (b : Addr) (n : Int) (W : World) (hb : W.cell? b = some (.int .i64 n)) : (loadVar 59 b).run Tryz.prog W = .ok (.int .i64 n) W := by
  simp [loadVar, isAgg, underlying, Tryz.underlying59, hb, Result.andThen]

/-- The world behind the box that errors.as makes of its third argument. -/
abbrev boxed (w : World) (t : TypeId) (a : Addr) : World := w.alloc (.cells #[hdl t, .pointer (some a), .int .u64 150] 77)

end Go.Proofs.YtdiplnaphdppbaaGreatDoor
