/- errors.As over a chain of Faults: into an *Errno it finds the number at the bottom, or nothing where there is none. -/
import Derived.Test.YtahehgbibmmaeaaDoorAs2
namespace Go.Proofs.YtahehgbibmmaeaaDoor
open Go.RowKit Go.Extern.Stop Go.Stop Go.Extern
set_option maxRecDepth 100000

theorem Tryd.partsPE (a : Addr) (w : World) : (ReflectliteValue.parts (rval 58 a 150)).run Tryd.prog w = .ok (some (58, a, 150)) w := by kernel_rfl
theorem Tryd.partsE1 (a : Addr) (w : World) : (ReflectliteValue.parts (rval 49 a 386)).run Tryd.prog w = .ok (some (49, a, 386)) w := by kernel_rfl
theorem Tryd.partsE2 (a : Addr) (w : World) : (ReflectliteValue.parts (rval 49 a 130)).run Tryd.prog w = .ok (some (49, a, 130)) w := by kernel_rfl
theorem Tryd.mkE (p : Addr) (w : World) : (ReflectliteValue.mk 49 p ReflectliteValue.flagAddr).run Tryd.prog w = .ok (rval 49 p 386) w := by kernel_rfl
theorem Tryd.elemOfPE (w : World) : (Rtype.elem? 58).run Tryd.prog w = .ok (some 49) w := by kernel_rfl
theorem Tryd.directE (w : World) : (Rtype.directlyAssignable 49 49).run Tryd.prog w = .ok true w := by kernel_rfl
theorem Tryd.storeE (ta : Addr) (n : Int) (old : Value) (W : World) (ht : W.cell? ta = some old) (hf : W.frozen? ta = false) : (storeVar 49 ta (.int .i64 n)).run Tryd.prog W = .ok () (W.setCell ta (.int .i64 n)) := by
  simp [storeVar, Value.cells, storeCells, Addr.add]
  rw [run_store Tryd.prog W ta _ _ (by rfl)]
  simp [ht, hf]
theorem Tryd.loadE (b : Addr) (n : Int) (W : World) (hb : W.cell? b = some (.int .i64 n)) : (loadVar 49 b).run Tryd.prog W = .ok (.int .i64 n) W := by
  simp [loadVar, isAgg, underlying, Tryd.underlying49, hb, Result.andThen]

/-- The world behind the box that errors.as makes of its third argument. -/
abbrev boxed (w : World) (t : TypeId) (a : Addr) : World := w.alloc (.cells #[hdl t, .pointer (some a), .int .u64 150] 70)

set_option maxHeartbeats 1000000 in
theorem asE_low (n : Int) (w : World) (l : List (ByteArray × ByteArray)) (e old : Value) (a t : Addr) (hc : Chain w l (num n) e) (ha : w.cell? a = some (.pointer (some t))) (ht : w.cell? t = some old) (hf : w.frozen? t = false)
    (hal : a.block < w.heap.size) (htl : t.block < w.heap.size) :
    Calls Tryd.prog 34 #[e, .iface 58 (.pointer (some t)), rval 58 a 150, typ 49] w fun ev w' =>
      ev = .returned (.bool true) ∧ w' = ((boxed w 58 a).alloc (.cells #[.int .i64 n] 49)).setCell t (.int .i64 n) := by
  have b1 := Tryd.callTypeOfNum
  have b2 := Tryd.callTypeOfFault
  have b3 := Tryd.methodAssignableTo
  have b4 := Tryd.assFE
  have b5 := Tryd.assEE
  have b6 := Tryd.asFault
  have b7 := Tryd.unwrapFault
  have b8 := Tryd.methodUnwrap
  have b9 := Tryd.valueOfNum
  have el := Tryd.elemAt 58 49 a t 386 (boxed w 58 a) (Tryd.partsPE a _) Tryd.underlying58 (by rw [World.cell?_alloc_lt _ _ a hal]; exact ha) (Tryd.elemOfPE _) (Tryd.mkE t _)
  have st := Tryd.setAt 49 t ⟨w.heap.size + 1, 0, none⟩ 386 130 (.int .i64 n) ((boxed w 58 a).alloc (.cells #[.int .i64 n] 49)) (Tryd.partsE1 t _) (Tryd.partsE2 _ _) (by decide) (Tryd.loadE _ n _ (by rw [World.cell?_alloc_at _ _ _ _ (by simp)]; rfl)) (Tryd.directE _)
    (Tryd.storeE t n old _ (by rw [World.cell?_alloc_lt _ _ t (by simp; omega), World.cell?_alloc_lt _ _ t htl]; exact ht) (by rw [World.frozen?_alloc_old _ _ t (by simp; omega), World.frozen?_alloc_old _ _ t (Nat.ne_of_lt htl)]; exact hf))
  have hB : Below w.heap.size w (boxed w 58 a) := (Below.refl _ _).alloc (Nat.le_refl _) _
  have hC : Hid (Chain (boxed w 58 a) l (num n) e) := hc.below hB
  clear hc hB ha ht hf
  go_enter Tryd.func34, Tryd.ntmps34
  go_wp2
  go_loopg [0] l.length (fun k e wr => ∃ l, l.length = k ∧ Chain (boxed w 58 a) l (num n) e ∧ wr = boxed w 58 a)
  case atStart => exact ⟨l, rfl, hC.out, rfl⟩
  case round =>
    obtain ⟨l, hk, hc, rfl⟩ := hrel
    cases l with
    | nil =>
      have he : _ = num n := hc
      subst he
      go_wp2
      go_ret
      exact ⟨rfl, rfl⟩
    | cons p r =>
      obtain ⟨op, nm⟩ := p
      obtain ⟨b, e', rfl, hb, -, h0, h1, h2, hr⟩ := hc
      cases r with
      | nil =>
        have he : e' = num n := hr
        subst he
        clear h0 h1
        go_wp2
        go_roundg 0
        case measure => rw [← hk]; simp
        case rel => exact ⟨[], rfl, rfl, rfl⟩
      | cons p r =>
        obtain ⟨op', nm'⟩ := p
        have hr' := hr
        obtain ⟨b', e'', rfl, _⟩ := hr'
        have hr := (show Hid _ from hr)
        clear h0 h1
        go_wp2
        go_roundg (r.length + 1)
        case measure => rw [← hk]; simp
        case rel => exact ⟨(op', nm') :: r, rfl, hr, rfl⟩
end Go.Proofs.YtahehgbibmmaeaaDoor
