/- errors.As, walked: *Errno over a chain finds the number at the bottom, or nothing where there is none; **Fault finds the outmost Fault. -/
import Derived.Test.YtahehgbibmmaeaaDoorAs
namespace Go.Proofs.YtahehgbibmmaeaaDoor
open Go.RowKit Go.Extern.Stop Go.Stop Go.Extern
set_option maxRecDepth 100000

/-! the entries that read or write memory -/
theorem Tryd.isNilAt (pt et : TypeId) (a p : Addr) (W : World) (hp : (ReflectliteValue.parts (rval pt a 150)).run Tryd.prog W = .ok (some (pt, a, 150)) W) (hu : Tryd.prog.underlying pt = some (.pointer et)) (ha : W.cell? a = some (.pointer (some p))) :
    (callFunc 33 #[rval pt a 150]).run Tryd.prog W = .ok (.value (.bool false)) W := by
  rw [Tryd.xIsNil]
  change Result.andThen (Sem.run Tryd.prog (ReflectliteValue.parts (rval pt a 150) >>= _) W) _ = _
  simp only [Sem.run_bind, hp, Result.andThen]
  simp [ReflectliteValue.isNil, loadVar, isAgg, underlying, hu, ha, Result.andThen]
theorem Tryd.elemAt (pt et : TypeId) (a p : Addr) (fl : Int) (W : World) (hp : (ReflectliteValue.parts (rval pt a 150)).run Tryd.prog W = .ok (some (pt, a, 150)) W) (hu : Tryd.prog.underlying pt = some (.pointer et)) (ha : W.cell? a = some (.pointer (some p)))
    (he : (Rtype.elem? pt).run Tryd.prog W = .ok (some et) W) (hm : (ReflectliteValue.mk et p ReflectliteValue.flagAddr).run Tryd.prog W = .ok (rval et p fl) W) :
    (callFunc 38 #[rval pt a 150]).run Tryd.prog W = .ok (.value (rval et p fl)) W := by
  rw [Tryd.xElemV]
  change Result.andThen (Sem.run Tryd.prog (ReflectliteValue.parts (rval pt a 150) >>= _) W) _ = _
  simp only [Sem.run_bind, hp, Result.andThen]
  simp [ReflectliteValue.elem, loadVar, isAgg, underlying, hu, ha, Result.andThen, he, hm]
theorem Tryd.setAt (dt : TypeId) (ta b : Addr) (f1 f2 : Int) (v : Value) (W : World) (h1 : (ReflectliteValue.parts (rval dt ta f1)).run Tryd.prog W = .ok (some (dt, ta, f1.toNat)) W) (h2 : (ReflectliteValue.parts (rval dt b f2)).run Tryd.prog W = .ok (some (dt, b, f2.toNat)) W)
    (hf : ¬ f1.toNat / ReflectliteValue.flagAddr % 2 = 0) (hl : (loadVar dt b).run Tryd.prog W = .ok v W) (hd : (Rtype.directlyAssignable dt dt).run Tryd.prog W = .ok true W) (hs : (storeVar dt ta v).run Tryd.prog W = .ok () (W.setCell ta v)) :
    (callFunc 39 #[rval dt ta f1, rval dt b f2]).run Tryd.prog W = .ok (.value (.tuple #[])) (W.setCell ta v) := by
  rw [Tryd.xSet]
  change Result.andThen (Sem.run Tryd.prog (ReflectliteValue.parts (rval dt ta f1) >>= fun p => ReflectliteValue.parts (rval dt b f2) >>= _) W) _ = _
  simp only [Sem.run_bind, h1, h2, Result.andThen]
  simp [hf, hl, hd, hs, Result.andThen]
end Go.Proofs.YtahehgbibmmaeaaDoor
