/- errors.As: over a chain of Faults with nothing at its bottom an *Errno target finds nothing; a **Fault target finds the outmost Fault; a target with Unwrap() []error finds nothing in an Errno. -/
import Derived.Test.YtopegpjkkicjhaaGreatDoorAs3
namespace Go.Proofs.YtopegpjkkicjhaaGreatDoor
open Go.RowKit Go.Extern.Stop Go.Stop Go.Extern
set_option maxRecDepth 100000

set_option maxHeartbeats 1000000 in
theorem asE_none (w : World) (l : List (ByteArray × ByteArray)) (e : Value) (a t : Addr) (hc : Chain w l Value.nilIface e) (hne : l ≠ []) :
    Calls Tryz.prog 71 #[e, .iface 76 (.pointer (some t)), rval 76 a 150, typ 68] w fun ev w' =>
      ev = .returned (.bool false) ∧ w' = boxed w 76 a := by
  have b2 := Tryz.callTypeOfFault
  have b3 := Tryz.methodAssignableTo
  have b4 := Tryz.assFE
  have b6 := Tryz.asFault
  have b7 := Tryz.unwrapFault
  have b8 := Tryz.methodUnwrap
  have hB : Below w.heap.size w (boxed w 76 a) := (Below.refl _ _).alloc (Nat.le_refl _) _
  have hC : Hid (Chain (boxed w 76 a) l Value.nilIface e) := hc.below hB
  clear hc hB
  go_enter Tryz.func71, Tryz.ntmps71
  go_wp2
  go_loopg [0] l.length (fun k e wr => ∃ l, l.length = k ∧ l ≠ [] ∧ Chain (boxed w 76 a) l Value.nilIface e ∧ wr = boxed w 76 a)
  case atStart => exact ⟨l, rfl, hne, hC.out, rfl⟩
  case round =>
    obtain ⟨l, hk, hne, hc, rfl⟩ := hrel
    cases l with
    | nil => exact absurd rfl hne
    | cons p r =>
      obtain ⟨op, nm⟩ := p
      obtain ⟨b, e', rfl, hb, -, h0, h1, h2, hr⟩ := hc
      cases r with
      | nil =>
        have he : e' = Value.nilIface := hr
        subst he
        clear h0 h1
        go_wp2
        go_ret
        exact ⟨rfl, rfl⟩
      | cons p r =>
        obtain ⟨op', nm'⟩ := p
        have hr' := hr
        obtain ⟨b', e'', rfl, _⟩ := hr'
        have hr := (show Hid _ from hr)
        clear h0 h1
        go_wp2
        go_roundg (r.length + 1)
        case measure => rw [← hk]; simp
        case rel => exact ⟨(op', nm') :: r, rfl, by simp, hr, rfl⟩

theorem Tryz.partsPF (a : Addr) (w : World) : (ReflectliteValue.parts (rval 92 a 150)).run Tryz.prog w = .ok (some (92, a, 150)) w := by kernel_rfl
theorem Tryz.partsF1 (a : Addr) (w : World) : (ReflectliteValue.parts (rval 91 a 406)).run Tryz.prog w = .ok (some (91, a, 406)) w := by kernel_rfl
theorem Tryz.partsF2 (a : Addr) (w : World) : (ReflectliteValue.parts (rval 91 a 150)).run Tryz.prog w = .ok (some (91, a, 150)) w := by kernel_rfl
theorem Tryz.mkF (p : Addr) (w : World) : (ReflectliteValue.mk 91 p ReflectliteValue.flagAddr).run Tryz.prog w = .ok (rval 91 p 406) w := by kernel_rfl
theorem Tryz.elemOfPF (w : World) : (Rtype.elem? 92).run Tryz.prog w = .ok (some 91) w := by kernel_rfl
theorem Tryz.directF (w : World) : (Rtype.directlyAssignable 91 91).run Tryz.prog w = .ok true w := by kernel_rfl
theorem Tryz.storeF (ta : Addr) (p : Addr) (old : Value) (W : World) (ht : W.cell? ta = some old) (hf : W.frozen? ta = false) : (storeVar 91 ta (.pointer (some p))).run Tryz.prog W = .ok () (W.setCell ta (.pointer (some p))) := by
  simp [storeVar, Value.cells, storeCells, Addr.add]
  rw [run_store Tryz.prog W ta _ _ (by rfl)]
  simp [ht, hf]
theorem Tryz.loadF (b : Addr) (p : Addr) (W : World) (hb : W.cell? b = some (.pointer (some p))) : (loadVar 91 b).run Tryz.prog W = .ok (.pointer (some p)) W := by
  simp [loadVar, isAgg, underlying, Tryz.underlying91, hb, Result.andThen]

set_option maxHeartbeats 1000000 in
theorem asF_low (w : World) (b : Nat) (old : Value) (a t : Addr) (ha : w.cell? a = some (.pointer (some t))) (ht : w.cell? t = some old) (hf : w.frozen? t = false)
    (hal : a.block < w.heap.size) (htl : t.block < w.heap.size) :
    Calls Tryz.prog 71 #[flt b, .iface 92 (.pointer (some t)), rval 92 a 150, typ 91] w fun ev w' =>
      ev = .returned (.bool true) ∧ w' = ((boxed w 92 a).alloc (.cells #[.pointer (some ⟨b, 0, none⟩)] 91)).setCell t (.pointer (some ⟨b, 0, none⟩)) := by
  have b2 := Tryz.callTypeOfFault
  have b3 := Tryz.methodAssignableTo
  have b5 := Tryz.assFF
  have b9 := Tryz.valueOfFault
  have el := Tryz.elemAt 92 91 a t 406 (boxed w 92 a) (Tryz.partsPF a _) Tryz.underlying92 (by rw [World.cell?_alloc_lt _ _ a hal]; exact ha) (Tryz.elemOfPF _) (Tryz.mkF t _)
  have st := Tryz.setAt 91 t ⟨w.heap.size + 1, 0, none⟩ 406 150 (.pointer (some ⟨b, 0, none⟩)) ((boxed w 92 a).alloc (.cells #[.pointer (some ⟨b, 0, none⟩)] 91)) (Tryz.partsF1 t _) (Tryz.partsF2 _ _) (by decide) (Tryz.loadF _ _ _ (by rw [World.cell?_alloc_at _ _ _ _ (by simp)]; rfl)) (Tryz.directF _)
    (Tryz.storeF t _ old _ (by rw [World.cell?_alloc_lt _ _ t (by simp; omega), World.cell?_alloc_lt _ _ t htl]; exact ht) (by rw [World.frozen?_alloc_old _ _ t (by simp; omega), World.frozen?_alloc_old _ _ t (Nat.ne_of_lt htl)]; exact hf))
  clear ha ht hf
  go_enter Tryz.func71, Tryz.ntmps71
  go_wp2
  refine wp_loop_rounds 1 ?_
  rw [rounds_succ]
  go_wp2
  go_ret
  exact ⟨rfl, rfl⟩

end Go.Proofs.YtopegpjkkicjhaaGreatDoor
