/- errors.As, walked: *Errno over a chain finds the number at the bottom, or nothing where there is none; **Fault finds the outmost Fault. -/
import Derived.Test.YtfoamhkgdlebdaaGreatDoorAs
namespace Go.Proofs.YtfoamhkgdlebdaaGreatDoor
open Go.RowKit Go.Extern.Stop Go.Stop Go.Extern
set_option maxRecDepth 100000

/-! the entries that read or write memory -/
theorem Tryz.isNilAt (pt et : TypeId) (a p : Addr) (W : World) (hp : (ReflectliteValue.parts (rval pt a 150)).run Tryz.prog W = .ok (some (pt, a, 150)) W) (hu : Tryz.prog.underlying pt = some (.pointer et)) (ha : W.cell? a = some (.pointer (some p))) :
    (callFunc 30 #[rval pt a 150]).run Tryz.prog W = .ok (.value (.bool false)) W := by
  rw [Tryz.xIsNil]
  change Result.andThen (Sem.run Tryz.prog (ReflectliteValue.parts (rval pt a 150) >>= _) W) _ = _
  simp only [Sem.run_bind, hp, Result.andThen]
  simp [ReflectliteValue.isNil, loadVar, isAgg, underlying, hu, ha, Result.andThen]
theorem Tryz.elemAt (pt et : TypeId) (a p : Addr) (fl : Int) (W : World) (hp : (ReflectliteValue.parts (rval pt a 150)).run Tryz.prog W = .ok (some (pt, a, 150)) W) (hu : Tryz.prog.underlying pt = some (.pointer et)) (ha : W.cell? a = some (.pointer (some p)))
    (he : (Rtype.elem? pt).run Tryz.prog W = .ok (some et) W) (hm : (ReflectliteValue.mk et p ReflectliteValue.flagAddr).run Tryz.prog W = .ok (rval et p fl) W) :
    (callFunc 50 #[rval pt a 150]).run Tryz.prog W = .ok (.value (rval et p fl)) W := by
  rw [Tryz.xElemV]
  change Result.andThen (Sem.run Tryz.prog (ReflectliteValue.parts (rval pt a 150) >>= _) W) _ = _
  simp only [Sem.run_bind, hp, Result.andThen]
  simp [ReflectliteValue.elem, loadVar, isAgg, underlying, hu, ha, Result.andThen, he, hm]
theorem Tryz.setAt (dt : TypeId) (ta b : Addr) (f1 f2 : Int) (v : Value) (W : World) (h1 : (ReflectliteValue.parts (rval dt ta f1)).run Tryz.prog W = .ok (some (dt, ta, f1.toNat)) W) (h2 : (ReflectliteValue.parts (rval dt b f2)).run Tryz.prog W = .ok (some (dt, b, f2.toNat)) W)
    (hf : ¬ f1.toNat / ReflectliteValue.flagAddr % 2 = 0) (hl : (loadVar dt b).run Tryz.prog W = .ok v W) (hd : (Rtype.directlyAssignable dt dt).run Tryz.prog W = .ok true W) (hs : (storeVar dt ta v).run Tryz.prog W = .ok () (W.setCell ta v)) :
    (callFunc 51 #[rval dt ta f1, rval dt b f2]).run Tryz.prog W = .ok (.value (.tuple #[])) (W.setCell ta v) := by
  rw [Tryz.xSet]
  change Result.andThen (Sem.run Tryz.prog (ReflectliteValue.parts (rval dt ta f1) >>= fun p => ReflectliteValue.parts (rval dt b f2) >>= _) W) _ = _
  simp only [Sem.run_bind, h1, h2, Result.andThen]
  simp [hf, hl, hd, hs, Result.andThen]
end Go.Proofs.YtfoamhkgdlebdaaGreatDoor
