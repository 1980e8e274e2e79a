/- errors.As of a chain of Faults above an Errno (or above nothing), for the three kinds of targets that the program hands it: *Errno finds the number at the bottom, **Fault the outmost Fault, and a target of the kind interface with Unwrap() []error finds nothing in an Errno. -/
import Derived.Test.YtpofmiecjkghgaaGreatDoorIsp
namespace Go.Proofs.YtpofmiecjkghgaaGreatDoor
open Go.RowKit Go.Extern.Stop Go.Stop Go.Extern
set_option maxRecDepth 100000
set_option maxHeartbeats 2000000
abbrev hdl (t : TypeId) : Value := .pointer (some ⟨5, t, none⟩)
abbrev typ (t : TypeId) : Value := .iface 179 (.agg #[hdl t])
abbrev rval (t : TypeId) (a : Addr) (fl : Int) : Value := .agg #[hdl t, .pointer (some a), .int .u64 fl]
/-! each entry found once -/
theorem Tryz.xValueOf (args : Array Value) (w : World) : (callFunc 88 args).run Tryz.prog w = ((ReflectliteValue.unpack (args.getD 0 (.tuple #[]))).run Tryz.prog w).andThen (fun v w' => .ok (.value v) w') := run_callFunc_extern (e := fun args => ReflectliteValue.unpack (args.getD 0 (.tuple #[]))) Tryz.func88 (by kernel_rfl) (by kernel_rfl) (by kernel_rfl) (by kernel_rfl) args w
theorem Tryz.xType (args : Array Value) (w : World) : (callFunc 89 args).run Tryz.prog w = (((ReflectliteValue.methodAny (ReflectliteValue.valueError "reflectlite.Value.Type" 0) (fun t _ _ _ => ReflectliteType.toType t)) args).run Tryz.prog w).andThen (fun v w' => .ok (.value v) w') := run_callFunc_extern Tryz.func89 (by kernel_rfl) (by kernel_rfl) (by kernel_rfl) (by kernel_rfl) args w
theorem Tryz.xIsNil (args : Array Value) (w : World) : (callFunc 90 args).run Tryz.prog w = (((ReflectliteValue.method (ReflectliteValue.valueError "reflectlite.Value.IsNil" 0) ReflectliteValue.isNil) args).run Tryz.prog w).andThen (fun v w' => .ok (.value v) w') := run_callFunc_extern Tryz.func90 (by kernel_rfl) (by kernel_rfl) (by kernel_rfl) (by kernel_rfl) args w
theorem Tryz.xKind (args : Array Value) (w : World) : (callFunc 341 args).run Tryz.prog w = (((ReflectliteType.abiMethod fun t => do pure (.int .u8 (<- Rtype.kind t))) args).run Tryz.prog w).andThen (fun v w' => .ok (.value v) w') := run_callFunc_extern Tryz.func341 (by kernel_rfl) (by kernel_rfl) (by kernel_rfl) (by kernel_rfl) args w
theorem Tryz.xElemT (args : Array Value) (w : World) : (callFunc 355 args).run Tryz.prog w = (((ReflectliteType.method ReflectliteType.elem) args).run Tryz.prog w).andThen (fun v w' => .ok (.value v) w') := run_callFunc_extern Tryz.func355 (by kernel_rfl) (by kernel_rfl) (by kernel_rfl) (by kernel_rfl) args w
theorem Tryz.xImpl (args : Array Value) (w : World) : (callFunc 356 args).run Tryz.prog w = (((ReflectliteType.relation "Implements" ReflectliteType.implements_) args).run Tryz.prog w).andThen (fun v w' => .ok (.value v) w') := run_callFunc_extern Tryz.func356 (by kernel_rfl) (by kernel_rfl) (by kernel_rfl) (by kernel_rfl) args w
theorem Tryz.xAss (args : Array Value) (w : World) : (callFunc 353 args).run Tryz.prog w = (((ReflectliteType.relation "AssignableTo" ReflectliteType.assignableTo) args).run Tryz.prog w).andThen (fun v w' => .ok (.value v) w') := run_callFunc_extern Tryz.func353 (by kernel_rfl) (by kernel_rfl) (by kernel_rfl) (by kernel_rfl) args w
theorem Tryz.xElemV (args : Array Value) (w : World) : (callFunc 147 args).run Tryz.prog w = (((ReflectliteValue.method (ReflectliteValue.valueError "reflectlite.Value.Elem" 0) ReflectliteValue.elem) args).run Tryz.prog w).andThen (fun v w' => .ok (.value v) w') := run_callFunc_extern Tryz.func147 (by kernel_rfl) (by kernel_rfl) (by kernel_rfl) (by kernel_rfl) args w
theorem Tryz.xSet (args : Array Value) (w : World) : (callFunc 148 args).run Tryz.prog w = ((ReflectliteValue.set args).run Tryz.prog w).andThen (fun v w' => .ok (.value v) w') := run_callFunc_extern Tryz.func148 (by kernel_rfl) (by kernel_rfl) (by kernel_rfl) (by kernel_rfl) args w
/-! the library's entries, at these types -/
theorem Tryz.valueOfF (t : Addr) (w : World) : (callFunc 88 #[.iface 72 (.pointer (some t))]).run Tryz.prog w = .ok (.value (rval 72 ⟨w.heap.size, 0, none⟩ 150)) (w.alloc (.cells #[.pointer (some t)] 72)) := (Tryz.xValueOf _ _).trans (by kernel_rfl)
theorem Tryz.typeF (a : Addr) (w : World) : (callFunc 89 #[rval 72 a 150]).run Tryz.prog w = .ok (.value (typ 72)) w := (Tryz.xType _ _).trans (by kernel_rfl)
theorem Tryz.methodKind (h : Value) (w : World) : (Go.method 480 179 (.agg #[h]) "Kind").run Tryz.prog w = .ok (341, h) w := by kernel_rfl
theorem Tryz.methodElem (h : Value) (w : World) : (Go.method 480 179 (.agg #[h]) "Elem").run Tryz.prog w = .ok (355, .agg #[h]) w := by kernel_rfl
theorem Tryz.methodImplements (h : Value) (w : World) : (Go.method 480 179 (.agg #[h]) "Implements").run Tryz.prog w = .ok (356, .agg #[h]) w := by kernel_rfl
theorem Tryz.methodAssignableTo (h : Value) (w : World) : (Go.method 480 179 (.agg #[h]) "AssignableTo").run Tryz.prog w = .ok (353, .agg #[h]) w := by kernel_rfl
theorem Tryz.kindPF (w : World) : (callFunc 341 #[hdl 72]).run Tryz.prog w = .ok (.value (.int .u8 22)) w := (Tryz.xKind _ _).trans (by kernel_rfl)
theorem Tryz.kindF (w : World) : (callFunc 341 #[hdl 70]).run Tryz.prog w = .ok (.value (.int .u8 22)) w := (Tryz.xKind _ _).trans (by kernel_rfl)
theorem Tryz.elemPF (w : World) : (callFunc 355 #[.agg #[hdl 72]]).run Tryz.prog w = .ok (.value (typ 70)) w := (Tryz.xElemT _ _).trans (by kernel_rfl)
theorem Tryz.implF (w : World) : (callFunc 356 #[.agg #[hdl 70], typ 28]).run Tryz.prog w = .ok (.value (.bool true)) w := (Tryz.xImpl _ _).trans (by kernel_rfl)
theorem Tryz.callTypeOfFault (v : Value) (w : World) : (callFunc 92 #[.iface 70 v]).run Tryz.prog w = .ok (.value (typ 70)) w := by kernel_rfl
theorem Tryz.assFF (w : World) : (callFunc 353 #[.agg #[hdl 70], typ 70]).run Tryz.prog w = .ok (.value (.bool true)) w := (Tryz.xAss _ _).trans (by kernel_rfl)
theorem Tryz.valueOfFault (v : Addr) (w : World) : (callFunc 88 #[.iface 70 (.pointer (some v))]).run Tryz.prog w = .ok (.value (rval 70 ⟨w.heap.size, 0, none⟩ 150)) (w.alloc (.cells #[.pointer (some v)] 70)) := (Tryz.xValueOf _ _).trans (by kernel_rfl)
/-! the entries that read or write memory -/
theorem Tryz.isNilAt (pt et : TypeId) (a p : Addr) (W : World) (hp : (ReflectliteValue.parts (rval pt a 150)).run Tryz.prog W = .ok (some (pt, a, 150)) W) (hu : Tryz.prog.underlying pt = some (.pointer et)) (ha : W.cell? a = some (.pointer (some p))) :
    (callFunc 90 #[rval pt a 150]).run Tryz.prog W = .ok (.value (.bool false)) W := by
  rw [Tryz.xIsNil]
  change Result.andThen (Sem.run Tryz.prog (ReflectliteValue.parts (rval pt a 150) >>= _) W) _ = _
  simp only [Sem.run_bind, hp, Result.andThen]
  simp [ReflectliteValue.isNil, loadVar, isAgg, underlying, hu, ha, Result.andThen]
theorem Tryz.elemAt (pt et : TypeId) (a p : Addr) (fl : Int) (W : World) (hp : (ReflectliteValue.parts (rval pt a 150)).run Tryz.prog W = .ok (some (pt, a, 150)) W) (hu : Tryz.prog.underlying pt = some (.pointer et)) (ha : W.cell? a = some (.pointer (some p)))
    (he : (Rtype.elem? pt).run Tryz.prog W = .ok (some et) W) (hm : (ReflectliteValue.mk et p ReflectliteValue.flagAddr).run Tryz.prog W = .ok (rval et p fl) W) :
    (callFunc 147 #[rval pt a 150]).run Tryz.prog W = .ok (.value (rval et p fl)) W := by
  rw [Tryz.xElemV]
  change Result.andThen (Sem.run Tryz.prog (ReflectliteValue.parts (rval pt a 150) >>= _) W) _ = _
  simp only [Sem.run_bind, hp, Result.andThen]
  simp [ReflectliteValue.elem, loadVar, isAgg, underlying, hu, ha, Result.andThen, he, hm]
theorem Tryz.setAt (dt : TypeId) (ta b : Addr) (f1 f2 : Int) (v : Value) (W : World) (h1 : (ReflectliteValue.parts (rval dt ta f1)).run Tryz.prog W = .ok (some (dt, ta, f1.toNat)) W) (h2 : (ReflectliteValue.parts (rval dt b f2)).run Tryz.prog W = .ok (some (dt, b, f2.toNat)) W)
    (hf : ¬ f1.toNat / ReflectliteValue.flagAddr % 2 = 0) (hl : (loadVar dt b).run Tryz.prog W = .ok v W) (hd : (Rtype.directlyAssignable dt dt).run Tryz.prog W = .ok true W) (hs : (storeVar dt ta v).run Tryz.prog W = .ok () (W.setCell ta v)) :
    (callFunc 148 #[rval dt ta f1, rval dt b f2]).run Tryz.prog W = .ok (.value (.tuple #[])) (W.setCell ta v) := by
  rw [Tryz.xSet]
  change Result.andThen (Sem.run Tryz.prog (ReflectliteValue.parts (rval dt ta f1) >>= fun p => ReflectliteValue.parts (rval dt b f2) >>= _) W) _ = _
  simp only [Sem.run_bind, h1, h2, Result.andThen]
  simp [hf, hl, hd, hs, Result.andThen]
abbrev boxed (w : World) (t : TypeId) (a : Addr) : World := w.alloc (.cells #[hdl t, .pointer (some a), .int .u64 150] 127)
theorem Tryz.partsPF (a : Addr) (w : World) : (ReflectliteValue.parts (rval 72 a 150)).run Tryz.prog w = .ok (some (72, a, 150)) w := by kernel_rfl
theorem Tryz.partsF1 (a : Addr) (w : World) : (ReflectliteValue.parts (rval 70 a 406)).run Tryz.prog w = .ok (some (70, a, 406)) w := by kernel_rfl
theorem Tryz.partsF2 (a : Addr) (w : World) : (ReflectliteValue.parts (rval 70 a 150)).run Tryz.prog w = .ok (some (70, a, 150)) w := by kernel_rfl
theorem Tryz.mkF (p : Addr) (w : World) : (ReflectliteValue.mk 70 p ReflectliteValue.flagAddr).run Tryz.prog w = .ok (rval 70 p 406) w := by kernel_rfl
theorem Tryz.elemOfPF (w : World) : (Rtype.elem? 72).run Tryz.prog w = .ok (some 70) w := by kernel_rfl
theorem Tryz.directF (w : World) : (Rtype.directlyAssignable 70 70).run Tryz.prog w = .ok true w := by kernel_rfl
theorem Tryz.storeF (ta : Addr) (p : Addr) (old : Value) (W : World) (ht : W.cell? ta = some old) (hf : W.frozen? ta = false) : (storeVar 70 ta (.pointer (some p))).run Tryz.prog W = .ok () (W.setCell ta (.pointer (some p))) := by
  simp [storeVar, Value.cells, storeCells, Addr.add]
  rw [run_store Tryz.prog W ta _ _ (by rfl)]
  simp [ht, hf]
theorem Tryz.loadF (b : Addr) (p : Addr) (W : World) (hb : W.cell? b = some (.pointer (some p))) : (loadVar 70 b).run Tryz.prog W = .ok (.pointer (some p)) W := by
  simp [loadVar, isAgg, underlying, Tryz.underlying70, hb, Result.andThen]
theorem asF_low (w : World) (b : Nat) (old : Value) (a t : Addr) (ha : w.cell? a = some (.pointer (some t))) (ht : w.cell? t = some old) (hf : w.frozen? t = false)
    (hal : a.block < w.heap.size) (htl : t.block < w.heap.size) :
    Calls Tryz.prog 91 #[flt b, .iface 72 (.pointer (some t)), rval 72 a 150, typ 70] w fun ev w' =>
      ev = .returned (.bool true) /\ w' = ((boxed w 72 a).alloc (.cells #[.pointer (some ⟨b, 0, none⟩)] 70)).setCell t (.pointer (some ⟨b, 0, none⟩)) := by
  have b2 := Tryz.callTypeOfFault
  have b3 := Tryz.methodAssignableTo
  have b5 := Tryz.assFF
  have b9 := Tryz.valueOfFault
  have el := Tryz.elemAt 72 70 a t 406 (boxed w 72 a) (Tryz.partsPF a _) Tryz.underlying72 (by rw [World.cell?_alloc_lt _ _ a hal]; exact ha) (Tryz.elemOfPF _) (Tryz.mkF t _)
  have st := Tryz.setAt 70 t ⟨w.heap.size + 1, 0, none⟩ 406 150 (.pointer (some ⟨b, 0, none⟩)) ((boxed w 72 a).alloc (.cells #[.pointer (some ⟨b, 0, none⟩)] 70)) (Tryz.partsF1 t _) (Tryz.partsF2 _ _) (by decide) (Tryz.loadF _ _ _ (by rw [World.cell?_alloc_at _ _ _ _ (by simp)]; rfl)) (Tryz.directF _)
    (Tryz.storeF t _ old _ (by rw [World.cell?_alloc_lt _ _ t (by simp; omega), World.cell?_alloc_lt _ _ t htl]; exact ht) (by rw [World.frozen?_alloc_old _ _ t (by simp; omega), World.frozen?_alloc_old _ _ t (Nat.ne_of_lt htl)]; exact hf))
  clear ha ht hf
  go_enter Tryz.func91, Tryz.ntmps91
  go_wp2
  refine wp_loop_rounds 1 ?_
  rw [rounds_succ]
  go_wp2
  go_ret
  exact ⟨rfl, rfl⟩
theorem hidden {p : Prop} (h : p) : Hid p := h
theorem Chain.held {w : World} {l : List (ByteArray × ByteArray)} {bot e : Value} (hc : Chain w l bot e) (h : l ≠ [] \/ ∃ u v, bot = .iface u v) : ∃ u v, e = .iface u v := by
  cases l with
  | nil =>
    rcases h with h | ⟨u, v, rfl⟩
    · exact absurd rfl h
    · exact ⟨u, v, hc⟩
  | cons p r =>
    obtain ⟨op, nm⟩ := p
    obtain ⟨b, e', rfl, _⟩ := hc
    exact ⟨_, _, rfl⟩
abbrev asked (w : World) (pt : TypeId) (t : Addr) : World := (w.alloc (.cells #[.pointer (some t)] pt)).alloc (.cells #[hdl pt, .pointer (some ⟨w.heap.size, 0, none⟩), .int .u64 150] 127)
theorem asked_below (w : World) (pt : TypeId) (t : Addr) : Below w.heap.size w (asked w pt t) := ((Below.refl _ _).alloc (Nat.le_refl _) _).alloc (by simp) _
theorem boxed_below (w : World) (pt : TypeId) (a : Addr) : Below w.heap.size w (boxed w pt a) := (Below.refl _ _).alloc (Nat.le_refl _) _
theorem asked_cell (w : World) (pt : TypeId) (t : Addr) : (asked w pt t).cell? ⟨w.heap.size, 0, none⟩ = some (.pointer (some t)) := by simp
theorem asked_size (w : World) (pt : TypeId) (t : Addr) : (asked w pt t).heap.size = w.heap.size + 2 := by simp
theorem lt_of_cell {w : World} {a : Addr} {v : Value} (h : w.cell? a = some v) : a.block < w.heap.size := by
  rcases Nat.lt_or_ge a.block w.heap.size with h1 | h1
  · exact h1
  · simp [World.cell?, Array.getElem?_eq_none h1] at h
theorem asF (w : World) (b : Nat) (old : Value) (t : Addr) (ht : w.cell? t = some old) (hf : w.frozen? t = false) (hg : w.cell? ⟨0, 0, none⟩ = some (typ 28)) :
    Calls Tryz.prog 45 #[flt b, .iface 72 (.pointer (some t))] w fun ev w' => ev = .returned (.bool true) /\ ∃ W, Below w.heap.size w W /\ w' = W.setCell t (.pointer (some ⟨b, 0, none⟩)) := by
  have hlow := hidden <| asF_low (asked w 72 t) b old ⟨w.heap.size, 0, none⟩ t (asked_cell _ _ _) ((asked_below w _ t |>.cell (lt_of_cell ht)).trans ht) ((asked_below w _ t |>.frozen (lt_of_cell ht)).trans hf) (by rw [asked_size]; show w.heap.size < _; omega) (by rw [asked_size]; have := lt_of_cell ht; omega)
  have c1 := Tryz.valueOfF
  have c2 := Tryz.typeF
  have c3 := Tryz.methodKind
  have c4 := Tryz.kindPF
  have c5 := Tryz.isNilAt 72 70 ⟨w.heap.size, 0, none⟩ t (asked w 72 t) (Tryz.partsPF _ _) Tryz.underlying72 (asked_cell _ _ _)
  have c6 := Tryz.methodElem
  have c7 := Tryz.elemPF
  have c8 := Tryz.kindF
  have c9 := Tryz.methodImplements
  have d1 := Tryz.implF
  have hg2 : (asked w 72 t).cell? ⟨0, 0, none⟩ = some (typ 28) := (asked_below w 72 t |>.cell (p := ⟨0, 0, none⟩) (lt_of_cell hg)).trans hg
  clear hg
  clear ht hf
  go_enter Tryz.func45, Tryz.ntmps45
  go_wp2_with (go_at_call 91; refine (hlow.out).mono ?_; rintro ev w' ⟨rfl, rfl⟩)
  go_ret
  exact ⟨rfl, _, ((asked_below w _ t).trans ((boxed_below _ _ _).mono (by simp; omega))).alloc (by simp; omega) _, rfl⟩
end Go.Proofs.YtpofmiecjkghgaaGreatDoor
