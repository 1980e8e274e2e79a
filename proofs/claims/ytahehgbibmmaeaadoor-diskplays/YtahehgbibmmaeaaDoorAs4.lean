/- errors.As: over a chain of Faults with nothing at its bottom an *Errno target finds nothing; a **Fault target finds the outmost Fault; a target with Unwrap() []error finds nothing in an Errno. -/
import Derived.Test.YtahehgbibmmaeaaDoorAs3
namespace Go.Proofs.YtahehgbibmmaeaaDoor
open Go.RowKit Go.Extern.Stop Go.Stop Go.Extern
set_option maxRecDepth 100000

set_option maxHeartbeats 1000000 in
theorem asE_none (w : World) (l : List (ByteArray × ByteArray)) (e : Value) (a t : Addr) (hc : Chain w l Value.nilIface e) (hne : l ≠ []) :
    Calls Tryd.prog 34 #[e, .iface 58 (.pointer (some t)), rval 58 a 150, typ 49] w fun ev w' =>
      ev = .returned (.bool false) ∧ w' = boxed w 58 a := by
  have b2 := Tryd.callTypeOfFault
  have b3 := Tryd.methodAssignableTo
  have b4 := Tryd.assFE
  have b6 := Tryd.asFault
  have b7 := Tryd.unwrapFault
  have b8 := Tryd.methodUnwrap
  have hB : Below w.heap.size w (boxed w 58 a) := (Below.refl _ _).alloc (Nat.le_refl _) _
  have hC : Hid (Chain (boxed w 58 a) l Value.nilIface e) := hc.below hB
  clear hc hB
  go_enter Tryd.func34, Tryd.ntmps34
  go_wp2
  go_loopg [0] l.length (fun k e wr => ∃ l, l.length = k ∧ l ≠ [] ∧ Chain (boxed w 58 a) l Value.nilIface e ∧ wr = boxed w 58 a)
  case atStart => exact ⟨l, rfl, hne, hC.out, rfl⟩
  case round =>
    obtain ⟨l, hk, hne, hc, rfl⟩ := hrel
    cases l with
    | nil => exact absurd rfl hne
    | cons p r =>
      obtain ⟨op, nm⟩ := p
      obtain ⟨b, e', rfl, hb, -, h0, h1, h2, hr⟩ := hc
      cases r with
      | nil =>
        have he : e' = Value.nilIface := hr
        subst he
        clear h0 h1
        go_wp2
        go_ret
        exact ⟨rfl, rfl⟩
      | cons p r =>
        obtain ⟨op', nm'⟩ := p
        have hr' := hr
        obtain ⟨b', e'', rfl, _⟩ := hr'
        have hr := (show Hid _ from hr)
        clear h0 h1
        go_wp2
        go_roundg (r.length + 1)
        case measure => rw [← hk]; simp
        case rel => exact ⟨(op', nm') :: r, rfl, by simp, hr, rfl⟩

theorem Tryd.partsPF (a : Addr) (w : World) : (ReflectliteValue.parts (rval 60 a 150)).run Tryd.prog w = .ok (some (60, a, 150)) w := by kernel_rfl
theorem Tryd.partsF1 (a : Addr) (w : World) : (ReflectliteValue.parts (rval 59 a 406)).run Tryd.prog w = .ok (some (59, a, 406)) w := by kernel_rfl
theorem Tryd.partsF2 (a : Addr) (w : World) : (ReflectliteValue.parts (rval 59 a 150)).run Tryd.prog w = .ok (some (59, a, 150)) w := by kernel_rfl
theorem Tryd.mkF (p : Addr) (w : World) : (ReflectliteValue.mk 59 p ReflectliteValue.flagAddr).run Tryd.prog w = .ok (rval 59 p 406) w := by kernel_rfl
theorem Tryd.elemOfPF (w : World) : (Rtype.elem? 60).run Tryd.prog w = .ok (some 59) w := by kernel_rfl
theorem Tryd.directF (w : World) : (Rtype.directlyAssignable 59 59).run Tryd.prog w = .ok true w := by kernel_rfl
theorem Tryd.storeF (ta : Addr) (p : Addr) (old : Value) (W : World) (ht : W.cell? ta = some old) (hf : W.frozen? ta = false) : (storeVar 59 ta (.pointer (some p))).run Tryd.prog W = .ok () (W.setCell ta (.pointer (some p))) := by
  simp [storeVar, Value.cells, storeCells, Addr.add]
  rw [run_store Tryd.prog W ta _ _ (by rfl)]
  simp [ht, hf]
theorem Tryd.loadF (b : Addr) (p : Addr) (W : World) (hb : W.cell? b = some (.pointer (some p))) : (loadVar 59 b).run Tryd.prog W = .ok (.pointer (some p)) W := by
  simp [loadVar, isAgg, underlying, Tryd.underlying59, hb, Result.andThen]

set_option maxHeartbeats 1000000 in
theorem asF_low (w : World) (b : Nat) (old : Value) (a t : Addr) (ha : w.cell? a = some (.pointer (some t))) (ht : w.cell? t = some old) (hf : w.frozen? t = false)
    (hal : a.block < w.heap.size) (htl : t.block < w.heap.size) :
    Calls Tryd.prog 34 #[flt b, .iface 60 (.pointer (some t)), rval 60 a 150, typ 59] w fun ev w' =>
      ev = .returned (.bool true) ∧ w' = ((boxed w 60 a).alloc (.cells #[.pointer (some ⟨b, 0, none⟩)] 59)).setCell t (.pointer (some ⟨b, 0, none⟩)) := by
  have b2 := Tryd.callTypeOfFault
  have b3 := Tryd.methodAssignableTo
  have b5 := Tryd.assFF
  have b9 := Tryd.valueOfFault
  have el := Tryd.elemAt 60 59 a t 406 (boxed w 60 a) (Tryd.partsPF a _) Tryd.underlying60 (by rw [World.cell?_alloc_lt _ _ a hal]; exact ha) (Tryd.elemOfPF _) (Tryd.mkF t _)
  have st := Tryd.setAt 59 t ⟨w.heap.size + 1, 0, none⟩ 406 150 (.pointer (some ⟨b, 0, none⟩)) ((boxed w 60 a).alloc (.cells #[.pointer (some ⟨b, 0, none⟩)] 59)) (Tryd.partsF1 t _) (Tryd.partsF2 _ _) (by decide) (Tryd.loadF _ _ _ (by rw [World.cell?_alloc_at _ _ _ _ (by simp)]; rfl)) (Tryd.directF _)
    (Tryd.storeF t _ old _ (by rw [World.cell?_alloc_lt _ _ t (by simp; omega), World.cell?_alloc_lt _ _ t htl]; exact ht) (by rw [World.frozen?_alloc_old _ _ t (by simp; omega), World.frozen?_alloc_old _ _ t (Nat.ne_of_lt htl)]; exact hf))
  clear ha ht hf
  go_enter Tryd.func34, Tryd.ntmps34
  go_wp2
  refine wp_loop_rounds 1 ?_
  rw [rounds_succ]
  go_wp2
  go_ret
  exact ⟨rfl, rfl⟩

end Go.Proofs.YtahehgbibmmaeaaDoor
