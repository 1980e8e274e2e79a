/- errors.As over a chain of Faults: into an *Errno it finds the number at the bottom, or nothing where there is none. -/
import Derived.Test.YtfoamhkgdlebdaaGreatDoorAs2
namespace Go.Proofs.YtfoamhkgdlebdaaGreatDoor
open Go.RowKit Go.Extern.Stop Go.Stop Go.Extern
set_option maxRecDepth 100000

theorem Tryz.partsE1 (a : Addr) (w : World) : (ReflectliteValue.parts (rval 54 a 386)).run Tryz.prog w = .ok (some (54, a, 386)) w := by kernel_rfl
theorem Tryz.partsE2 (a : Addr) (w : World) : (ReflectliteValue.parts (rval 54 a 130)).run Tryz.prog w = .ok (some (54, a, 130)) w := by kernel_rfl
theorem Tryz.mkE (p : Addr) (w : World) : (ReflectliteValue.mk 54 p ReflectliteValue.flagAddr).run Tryz.prog w = .ok (rval 54 p 386) w := by kernel_rfl
theorem Tryz.directE (w : World) : (Rtype.directlyAssignable 54 54).run Tryz.prog w = .ok true w := by kernel_rfl
theorem Tryz.storeE (ta : Addr) (n : Int) (old : Value) (W : World) (ht : W.cell? ta = some old) (hf : W.frozen? ta = false) : (storeVar 54 ta (.int .i64 n)).run Tryz.prog W = .ok () (W.setCell ta (.int .i64 n)) := by
  simp [storeVar, Value.cells, storeCells, Addr.add]
  rw [run_store Tryz.prog W ta _ _ (by rfl)]
  simp [ht, hf]
theorem Tryz.loadE (b : Addr) (n : Int) (W : World) (hb : W.cell? b = some (.int .i64 n)) : (loadVar 54 b).run Tryz.prog W = .ok (.int .i64 n) W := by
  simp [loadVar, isAgg, underlying, Tryz.underlying54, hb, Result.andThen]

/-- The world behind the box that errors.as makes of its third argument. -/
abbrev boxed (w : World) (t : TypeId) (a : Addr) : World := w.alloc (.cells #[hdl t, .pointer (some a), .int .u64 150] 71)

end Go.Proofs.YtfoamhkgdlebdaaGreatDoor
