/- errors.As: over a chain of Faults with nothing at its bottom an *Errno target finds nothing; a **Fault target finds the outmost Fault; a target with Unwrap() []error finds nothing in an Errno. -/
import Derived.Test.YtfoamhkgdlebdaaGreatDoorAs3
namespace Go.Proofs.YtfoamhkgdlebdaaGreatDoor
open Go.RowKit Go.Extern.Stop Go.Stop Go.Extern
set_option maxRecDepth 100000


theorem Tryz.partsPF (a : Addr) (w : World) : (ReflectliteValue.parts (rval 50 a 150)).run Tryz.prog w = .ok (some (50, a, 150)) w := by kernel_rfl
theorem Tryz.partsF1 (a : Addr) (w : World) : (ReflectliteValue.parts (rval 48 a 406)).run Tryz.prog w = .ok (some (48, a, 406)) w := by kernel_rfl
theorem Tryz.partsF2 (a : Addr) (w : World) : (ReflectliteValue.parts (rval 48 a 150)).run Tryz.prog w = .ok (some (48, a, 150)) w := by kernel_rfl
theorem Tryz.mkF (p : Addr) (w : World) : (ReflectliteValue.mk 48 p ReflectliteValue.flagAddr).run Tryz.prog w = .ok (rval 48 p 406) w := by kernel_rfl
theorem Tryz.elemOfPF (w : World) : (Rtype.elem? 50).run Tryz.prog w = .ok (some 48) w := by kernel_rfl
theorem Tryz.directF (w : World) : (Rtype.directlyAssignable 48 48).run Tryz.prog w = .ok true w := by kernel_rfl
theorem Tryz.storeF (ta : Addr) (p : Addr) (old : Value) (W : World) (ht : W.cell? ta = some old) (hf : W.frozen? ta = false) : (storeVar 48 ta (.pointer (some p))).run Tryz.prog W = .ok () (W.setCell ta (.pointer (some p))) := by
  simp [storeVar, Value.cells, storeCells, Addr.add]
  rw [run_store Tryz.prog W ta _ _ (by rfl)]
  simp [ht, hf]
theorem Tryz.loadF (b : Addr) (p : Addr) (W : World) (hb : W.cell? b = some (.pointer (some p))) : (loadVar 48 b).run Tryz.prog W = .ok (.pointer (some p)) W := by
  simp [loadVar, isAgg, underlying, Tryz.underlying48, hb, Result.andThen]

set_option maxHeartbeats 1000000 in
theorem asF_low (w : World) (b : Nat) (old : Value) (a t : Addr) (ha : w.cell? a = some (.pointer (some t))) (ht : w.cell? t = some old) (hf : w.frozen? t = false)
    (hal : a.block < w.heap.size) (htl : t.block < w.heap.size) :
    Calls Tryz.prog 31 #[flt b, .iface 50 (.pointer (some t)), rval 50 a 150, typ 48] w fun ev w' =>
      ev = .returned (.bool true) ∧ w' = ((boxed w 50 a).alloc (.cells #[.pointer (some ⟨b, 0, none⟩)] 48)).setCell t (.pointer (some ⟨b, 0, none⟩)) := by
  have b2 := Tryz.callTypeOfFault
  have b3 := Tryz.methodAssignableTo
  have b5 := Tryz.assFF
  have b9 := Tryz.valueOfFault
  have el := Tryz.elemAt 50 48 a t 406 (boxed w 50 a) (Tryz.partsPF a _) Tryz.underlying50 (by rw [World.cell?_alloc_lt _ _ a hal]; exact ha) (Tryz.elemOfPF _) (Tryz.mkF t _)
  have st := Tryz.setAt 48 t ⟨w.heap.size + 1, 0, none⟩ 406 150 (.pointer (some ⟨b, 0, none⟩)) ((boxed w 50 a).alloc (.cells #[.pointer (some ⟨b, 0, none⟩)] 48)) (Tryz.partsF1 t _) (Tryz.partsF2 _ _) (by decide) (Tryz.loadF _ _ _ (by rw [World.cell?_alloc_at _ _ _ _ (by simp)]; rfl)) (Tryz.directF _)
    (Tryz.storeF t _ old _ (by rw [World.cell?_alloc_lt _ _ t (by simp; omega), World.cell?_alloc_lt _ _ t htl]; exact ht) (by rw [World.frozen?_alloc_old _ _ t (by simp; omega), World.frozen?_alloc_old _ _ t (Nat.ne_of_lt htl)]; exact hf))
  clear ha ht hf
  go_enter Tryz.func31, Tryz.ntmps31
  go_wp2
  refine wp_loop_rounds 1 ?_
  rw [rounds_succ]
  go_wp2
  go_ret
  exact ⟨rfl, rfl⟩

end Go.Proofs.YtfoamhkgdlebdaaGreatDoor
