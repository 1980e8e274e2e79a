/- errors.As over a chain of Faults: into an *Errno it finds the number at the bottom, or nothing where there is none. -/
import Derived.Test.YtopegpjkkicjhaaGreatDoorAs2
namespace Go.Proofs.YtopegpjkkicjhaaGreatDoor
open Go.RowKit Go.Extern.Stop Go.Stop Go.Extern
set_option maxRecDepth 100000

theorem Tryz.partsPE (a : Addr) (w : World) : (ReflectliteValue.parts (rval 76 a 150)).run Tryz.prog w = .ok (some (76, a, 150)) w := by kernel_rfl
theorem Tryz.partsE1 (a : Addr) (w : World) : (ReflectliteValue.parts (rval 68 a 386)).run Tryz.prog w = .ok (some (68, a, 386)) w := by kernel_rfl
theorem Tryz.partsE2 (a : Addr) (w : World) : (ReflectliteValue.parts (rval 68 a 130)).run Tryz.prog w = .ok (some (68, a, 130)) w := by kernel_rfl
theorem Tryz.mkE (p : Addr) (w : World) : (ReflectliteValue.mk 68 p ReflectliteValue.flagAddr).run Tryz.prog w = .ok (rval 68 p 386) w := by kernel_rfl
theorem Tryz.elemOfPE (w : World) : (Rtype.elem? 76).run Tryz.prog w = .ok (some 68) w := by kernel_rfl
theorem Tryz.directE (w : World) : (Rtype.directlyAssignable 68 68).run Tryz.prog w = .ok true w := by kernel_rfl
theorem Tryz.storeE (ta : Addr) (n : Int) (old : Value) (W : World) (ht : W.cell? ta = some old) (hf : W.frozen? ta = false) : (storeVar 68 ta (.int .i64 n)).run Tryz.prog W = .ok () (W.setCell ta (.int .i64 n)) := by
  simp [storeVar, Value.cells, storeCells, Addr.add]
  rw [run_store Tryz.prog W ta _ _ (by rfl)]
  simp [ht, hf]
theorem Tryz.loadE (b : Addr) (n : Int) (W : World) (hb : W.cell? b = some (.int .i64 n)) : (loadVar 68 b).run Tryz.prog W = .ok (.int .i64 n) W := by
  simp [loadVar, isAgg, underlying, Tryz.underlying68, hb, Result.andThen]

/-- The world behind the box that errors.as makes of its third argument. -/
abbrev boxed (w : World) (t : TypeId) (a : Addr) : World := w.alloc (.cells #[hdl t, .pointer (some a), .int .u64 150] 119)

set_option maxHeartbeats 1000000 in
theorem asE_low (n : Int) (w : World) (l : List (ByteArray × ByteArray)) (e old : Value) (a t : Addr) (hc : Chain w l (num n) e) (ha : w.cell? a = some (.pointer (some t))) (ht : w.cell? t = some old) (hf : w.frozen? t = false)
    (hal : a.block < w.heap.size) (htl : t.block < w.heap.size) :
    Calls Tryz.prog 71 #[e, .iface 76 (.pointer (some t)), rval 76 a 150, typ 68] w fun ev w' =>
      ev = .returned (.bool true) ∧ w' = ((boxed w 76 a).alloc (.cells #[.int .i64 n] 68)).setCell t (.int .i64 n) := by
  have b1 := Tryz.callTypeOfNum
  have b2 := Tryz.callTypeOfFault
  have b3 := Tryz.methodAssignableTo
  have b4 := Tryz.assFE
  have b5 := Tryz.assEE
  have b6 := Tryz.asFault
  have b7 := Tryz.unwrapFault
  have b8 := Tryz.methodUnwrap
  have b9 := Tryz.valueOfNum
  have el := Tryz.elemAt 76 68 a t 386 (boxed w 76 a) (Tryz.partsPE a _) Tryz.underlying76 (by rw [World.cell?_alloc_lt _ _ a hal]; exact ha) (Tryz.elemOfPE _) (Tryz.mkE t _)
  have st := Tryz.setAt 68 t ⟨w.heap.size + 1, 0, none⟩ 386 130 (.int .i64 n) ((boxed w 76 a).alloc (.cells #[.int .i64 n] 68)) (Tryz.partsE1 t _) (Tryz.partsE2 _ _) (by decide) (Tryz.loadE _ n _ (by rw [World.cell?_alloc_at _ _ _ _ (by simp)]; rfl)) (Tryz.directE _)
    (Tryz.storeE t n old _ (by rw [World.cell?_alloc_lt _ _ t (by simp; omega), World.cell?_alloc_lt _ _ t htl]; exact ht) (by rw [World.frozen?_alloc_old _ _ t (by simp; omega), World.frozen?_alloc_old _ _ t (Nat.ne_of_lt htl)]; exact hf))
  have hB : Below w.heap.size w (boxed w 76 a) := (Below.refl _ _).alloc (Nat.le_refl _) _
  have hC : Hid (Chain (boxed w 76 a) l (num n) e) := hc.below hB
  clear hc hB ha ht hf
  go_enter Tryz.func71, Tryz.ntmps71
  go_wp2
  go_loopg [0] l.length (fun k e wr => ∃ l, l.length = k ∧ Chain (boxed w 76 a) l (num n) e ∧ wr = boxed w 76 a)
  case atStart => exact ⟨l, rfl, hC.out, rfl⟩
  case round =>
    obtain ⟨l, hk, hc, rfl⟩ := hrel
    cases l with
    | nil =>
      have he : _ = num n := hc
      subst he
      go_wp2
      go_ret
      exact ⟨rfl, rfl⟩
    | cons p r =>
      obtain ⟨op, nm⟩ := p
      obtain ⟨b, e', rfl, hb, -, h0, h1, h2, hr⟩ := hc
      cases r with
      | nil =>
        have he : e' = num n := hr
        subst he
        clear h0 h1
        go_wp2
        go_roundg 0
        case measure => rw [← hk]; simp
        case rel => exact ⟨[], rfl, rfl, rfl⟩
      | cons p r =>
        obtain ⟨op', nm'⟩ := p
        have hr' := hr
        obtain ⟨b', e'', rfl, _⟩ := hr'
        have hr := (show Hid _ from hr)
        clear h0 h1
        go_wp2
        go_roundg (r.length + 1)
        case measure => rw [← hk]; simp
        case rel => exact ⟨(op', nm') :: r, rfl, hr, rfl⟩
end Go.Proofs.YtopegpjkkicjhaaGreatDoor
