/- errors.As of a chain of Faults above an Errno (or above nothing), for the three kinds of targets that the program hands it: *Errno finds the number at the bottom, **Fault the outmost Fault, and a target of the kind interface with Unwrap() []error finds nothing in an Errno. -/
import Derived.Test.YtildpgingcmfcaaDoorIs
namespace Go.Proofs.YtildpgingcmfcaaDoor
open Go.RowKit Go.Extern.Stop Go.Stop Go.Extern
set_option maxRecDepth 100000

/-- errors.As(nil, target) -/
theorem as_nil (t : Value) (w : World) : Calls Tryd.prog 23 #[.nilIface, t] w fun e w' => e = .returned (.bool false) ∧ w' = w := by
  go_enter Tryd.func23, Tryd.ntmps23
  go_wp2
  go_ret
  exact ⟨rfl, rfl⟩

abbrev hdl (t : TypeId) : Value := .pointer (some ⟨4, t, none⟩)
abbrev typ (t : TypeId) : Value := .iface 110 (.agg #[hdl t])
abbrev rval (t : TypeId) (a : Addr) (fl : Int) : Value := .agg #[hdl t, .pointer (some a), .int .u64 fl]

/-! each entry found once -/
theorem Tryd.xValueOf (args : Array Value) (w : World) : (callFunc 41 args).run Tryd.prog w = ((ReflectliteValue.unpack (args.getD 0 (.tuple #[]))).run Tryd.prog w).andThen (fun v w' => .ok (.value v) w') := run_callFunc_extern (e := fun args => ReflectliteValue.unpack (args.getD 0 (.tuple #[]))) Tryd.func41 (by kernel_rfl) (by kernel_rfl) (by kernel_rfl) (by kernel_rfl) args w
theorem Tryd.xType (args : Array Value) (w : World) : (callFunc 42 args).run Tryd.prog w = (((ReflectliteValue.methodAny (ReflectliteValue.valueError "reflectlite.Value.Type" 0) (fun t _ _ _ => ReflectliteType.toType t)) args).run Tryd.prog w).andThen (fun v w' => .ok (.value v) w') := run_callFunc_extern Tryd.func42 (by kernel_rfl) (by kernel_rfl) (by kernel_rfl) (by kernel_rfl) args w
theorem Tryd.xIsNil (args : Array Value) (w : World) : (callFunc 43 args).run Tryd.prog w = (((ReflectliteValue.method (ReflectliteValue.valueError "reflectlite.Value.IsNil" 0) ReflectliteValue.isNil) args).run Tryd.prog w).andThen (fun v w' => .ok (.value v) w') := run_callFunc_extern Tryd.func43 (by kernel_rfl) (by kernel_rfl) (by kernel_rfl) (by kernel_rfl) args w
theorem Tryd.xKind (args : Array Value) (w : World) : (callFunc 97 args).run Tryd.prog w = (((ReflectliteType.abiMethod fun t => do pure (.int .u8 (← Rtype.kind t))) args).run Tryd.prog w).andThen (fun v w' => .ok (.value v) w') := run_callFunc_extern Tryd.func97 (by kernel_rfl) (by kernel_rfl) (by kernel_rfl) (by kernel_rfl) args w
theorem Tryd.xElemT (args : Array Value) (w : World) : (callFunc 111 args).run Tryd.prog w = (((ReflectliteType.method ReflectliteType.elem) args).run Tryd.prog w).andThen (fun v w' => .ok (.value v) w') := run_callFunc_extern Tryd.func111 (by kernel_rfl) (by kernel_rfl) (by kernel_rfl) (by kernel_rfl) args w
theorem Tryd.xImpl (args : Array Value) (w : World) : (callFunc 112 args).run Tryd.prog w = (((ReflectliteType.relation "Implements" ReflectliteType.implements_) args).run Tryd.prog w).andThen (fun v w' => .ok (.value v) w') := run_callFunc_extern Tryd.func112 (by kernel_rfl) (by kernel_rfl) (by kernel_rfl) (by kernel_rfl) args w
theorem Tryd.xAss (args : Array Value) (w : World) : (callFunc 109 args).run Tryd.prog w = (((ReflectliteType.relation "AssignableTo" ReflectliteType.assignableTo) args).run Tryd.prog w).andThen (fun v w' => .ok (.value v) w') := run_callFunc_extern Tryd.func109 (by kernel_rfl) (by kernel_rfl) (by kernel_rfl) (by kernel_rfl) args w
theorem Tryd.xElemV (args : Array Value) (w : World) : (callFunc 55 args).run Tryd.prog w = (((ReflectliteValue.method (ReflectliteValue.valueError "reflectlite.Value.Elem" 0) ReflectliteValue.elem) args).run Tryd.prog w).andThen (fun v w' => .ok (.value v) w') := run_callFunc_extern Tryd.func55 (by kernel_rfl) (by kernel_rfl) (by kernel_rfl) (by kernel_rfl) args w
theorem Tryd.xSet (args : Array Value) (w : World) : (callFunc 56 args).run Tryd.prog w = ((ReflectliteValue.set args).run Tryd.prog w).andThen (fun v w' => .ok (.value v) w') := run_callFunc_extern Tryd.func56 (by kernel_rfl) (by kernel_rfl) (by kernel_rfl) (by kernel_rfl) args w

/-! the library's entries, at these types -/
theorem Tryd.valueOfE (t : Addr) (w : World) : (callFunc 41 #[.iface 59 (.pointer (some t))]).run Tryd.prog w = .ok (.value (rval 59 ⟨w.heap.size, 0, none⟩ 150)) (w.alloc (.cells #[.pointer (some t)] 59)) := (Tryd.xValueOf _ _).trans (by kernel_rfl)
theorem Tryd.valueOfF (t : Addr) (w : World) : (callFunc 41 #[.iface 63 (.pointer (some t))]).run Tryd.prog w = .ok (.value (rval 63 ⟨w.heap.size, 0, none⟩ 150)) (w.alloc (.cells #[.pointer (some t)] 63)) := (Tryd.xValueOf _ _).trans (by kernel_rfl)
theorem Tryd.typeE (a : Addr) (w : World) : (callFunc 42 #[rval 59 a 150]).run Tryd.prog w = .ok (.value (typ 59)) w := (Tryd.xType _ _).trans (by kernel_rfl)
theorem Tryd.typeF (a : Addr) (w : World) : (callFunc 42 #[rval 63 a 150]).run Tryd.prog w = .ok (.value (typ 63)) w := (Tryd.xType _ _).trans (by kernel_rfl)
theorem Tryd.methodKind (h : Value) (w : World) : (Go.method 280 110 (.agg #[h]) "Kind").run Tryd.prog w = .ok (97, h) w := by kernel_rfl
theorem Tryd.methodElem (h : Value) (w : World) : (Go.method 280 110 (.agg #[h]) "Elem").run Tryd.prog w = .ok (111, .agg #[h]) w := by kernel_rfl
theorem Tryd.methodImplements (h : Value) (w : World) : (Go.method 280 110 (.agg #[h]) "Implements").run Tryd.prog w = .ok (112, .agg #[h]) w := by kernel_rfl
theorem Tryd.methodAssignableTo (h : Value) (w : World) : (Go.method 280 110 (.agg #[h]) "AssignableTo").run Tryd.prog w = .ok (109, .agg #[h]) w := by kernel_rfl
theorem Tryd.kindPE (w : World) : (callFunc 97 #[hdl 59]).run Tryd.prog w = .ok (.value (.int .u8 22)) w := (Tryd.xKind _ _).trans (by kernel_rfl)
theorem Tryd.kindPF (w : World) : (callFunc 97 #[hdl 63]).run Tryd.prog w = .ok (.value (.int .u8 22)) w := (Tryd.xKind _ _).trans (by kernel_rfl)
theorem Tryd.kindE (w : World) : (callFunc 97 #[hdl 52]).run Tryd.prog w = .ok (.value (.int .u8 2)) w := (Tryd.xKind _ _).trans (by kernel_rfl)
theorem Tryd.kindF (w : World) : (callFunc 97 #[hdl 62]).run Tryd.prog w = .ok (.value (.int .u8 22)) w := (Tryd.xKind _ _).trans (by kernel_rfl)
theorem Tryd.kindJ (w : World) : (callFunc 97 #[hdl 118]).run Tryd.prog w = .ok (.value (.int .u8 20)) w := (Tryd.xKind _ _).trans (by kernel_rfl)
theorem Tryd.elemPE (w : World) : (callFunc 111 #[.agg #[hdl 59]]).run Tryd.prog w = .ok (.value (typ 52)) w := (Tryd.xElemT _ _).trans (by kernel_rfl)
theorem Tryd.elemPF (w : World) : (callFunc 111 #[.agg #[hdl 63]]).run Tryd.prog w = .ok (.value (typ 62)) w := (Tryd.xElemT _ _).trans (by kernel_rfl)
theorem Tryd.implE (w : World) : (callFunc 112 #[.agg #[hdl 52], typ 29]).run Tryd.prog w = .ok (.value (.bool true)) w := (Tryd.xImpl _ _).trans (by kernel_rfl)
theorem Tryd.implF (w : World) : (callFunc 112 #[.agg #[hdl 62], typ 29]).run Tryd.prog w = .ok (.value (.bool true)) w := (Tryd.xImpl _ _).trans (by kernel_rfl)
theorem Tryd.callTypeOfFault (v : Value) (w : World) : (callFunc 45 #[.iface 62 v]).run Tryd.prog w = .ok (.value (typ 62)) w := by kernel_rfl
theorem Tryd.assFE (w : World) : (callFunc 109 #[.agg #[hdl 62], typ 52]).run Tryd.prog w = .ok (.value (.bool false)) w := (Tryd.xAss _ _).trans (by kernel_rfl)
theorem Tryd.assEE (w : World) : (callFunc 109 #[.agg #[hdl 52], typ 52]).run Tryd.prog w = .ok (.value (.bool true)) w := (Tryd.xAss _ _).trans (by kernel_rfl)
theorem Tryd.assFF (w : World) : (callFunc 109 #[.agg #[hdl 62], typ 62]).run Tryd.prog w = .ok (.value (.bool true)) w := (Tryd.xAss _ _).trans (by kernel_rfl)
/-- A type that lacks a method of the interface T does not implement it. -/
theorem run_implements_lacks {P : Program} {w : World} {T V U : TypeId} {want : Array (String × TypeId)} {iT iV iU : TypeInfo}
    (h1 : ∀ s, (Rtype.noPackMethods s V).run P w = .ok () w) (h2 : ∀ s, (Rtype.noPackMethods s T).run P w = .ok () w)
    (hT : (Rtype.under T).run P w = .ok (T, iT) w) (hTd : iT.desc = .interface want)
    (hV : (Rtype.under V).run P w = .ok (U, iU) w) (hVd : iU.desc = .int .i64 ∨ ∃ x, iU.desc = .pointer x) (hi : P.info? V = some iV) (hl : lacking want iV.methods ≠ []) :
    (Rtype.implements T V).run P w = .ok false w := by
  obtain ⟨m, hm⟩ := missingMethod_some hl
  rcases hVd with hVd | ⟨x, hVd⟩ <;> simp [Rtype.implements, h1, h2, hT, hV, hTd, hVd, typeInfo, hi, hm]
theorem infoJ : ∃ i, Tryd.prog.info? 118 = some i ∧ i.desc = .interface #[("Unwrap", 120)] := by
  have h : (Tryd.prog.info? 118).map (·.desc) = some (.interface #[("Unwrap", 120)]) := by kernel_rfl
  exact Option.map_eq_some_iff.1 h
theorem underJ (w : World) : ∃ i, (Rtype.under 118).run Tryd.prog w = .ok (118, i) w ∧ i.desc = .interface #[("Unwrap", 120)] := by
  obtain ⟨i, hi, hd⟩ := infoJ
  exact ⟨i, by simp [Rtype.under, typeInfo, hi, hd], hd⟩
theorem implJE (w : World) : (Rtype.implements 118 52).run Tryd.prog w = .ok false w := by
  obtain ⟨iT, hT, hTd⟩ := underJ w
  obtain ⟨iV, hi, hd, hl⟩ : ∃ i, Tryd.prog.info? 52 = some i ∧ i.desc = .named "credenza/api.Errno" 3 ∧ (lacking #[("Unwrap", 120)] i.methods).isEmpty = false := by
    have h : (Tryd.prog.info? 52).map (fun i => (i.desc, (lacking #[("Unwrap", 120)] i.methods).isEmpty)) = some (.named "credenza/api.Errno" 3, false) := by kernel_rfl
    obtain ⟨i, hi, h⟩ := Option.map_eq_some_iff.1 h
    exact ⟨i, hi, (Prod.mk.inj h).1, (Prod.mk.inj h).2⟩
  obtain ⟨iU, hu, hud⟩ : ∃ i, Tryd.prog.info? 3 = some i ∧ i.desc = .int .i64 := by
    have h : (Tryd.prog.info? 3).map (·.desc) = some (.int .i64) := by kernel_rfl
    exact Option.map_eq_some_iff.1 h
  exact run_implements_lacks (fun s => by kernel_rfl) (fun s => by kernel_rfl) hT hTd (U := 3) (iU := iU) (by simp [Rtype.under, typeInfo, hi, hd, hu]) (Or.inl hud) hi (fun e => by rw [e] at hl; cases hl)
theorem implJF (w : World) : (Rtype.implements 118 62).run Tryd.prog w = .ok false w := by
  obtain ⟨iT, hT, hTd⟩ := underJ w
  obtain ⟨iV, hi, hd, hl⟩ : ∃ i, Tryd.prog.info? 62 = some i ∧ i.desc = .pointer 65 ∧ (lacking #[("Unwrap", 120)] i.methods).isEmpty = false := by
    have h : (Tryd.prog.info? 62).map (fun i => (i.desc, (lacking #[("Unwrap", 120)] i.methods).isEmpty)) = some (.pointer 65, false) := by kernel_rfl
    obtain ⟨i, hi, h⟩ := Option.map_eq_some_iff.1 h
    exact ⟨i, hi, (Prod.mk.inj h).1, (Prod.mk.inj h).2⟩
  exact run_implements_lacks (fun s => by kernel_rfl) (fun s => by kernel_rfl) hT hTd (U := 62) (iU := iV) (by simp [Rtype.under, typeInfo, hi, hd]) (Or.inr ⟨_, hd⟩) hi (fun e => by rw [e] at hl; cases hl)
theorem relation_eq (s : String) (f : TypeId → TypeId → Sem Bool) (r u : Value) (t : TypeId) : ReflectliteType.relation s f #[r, .iface t u] = (do pure (.bool (← f (← ReflectliteType.ofRtype u) (← ReflectliteType.ofRtype r)))) := rfl
theorem assignable_lacks {P : Program} {w : World} {T V : TypeId} (hne : T ≠ V) (h1 : ∀ s, (Rtype.noPackMethods s V).run P w = .ok () w) (h2 : ∀ s, (Rtype.noPackMethods s T).run P w = .ok () w)
    (hd : (Rtype.directlyAssignable T V).run P w = .ok false w) (hi : (Rtype.implements T V).run P w = .ok false w) : (ReflectliteType.assignableTo T V).run P w = .ok false w := by
  simp [ReflectliteType.assignableTo, hne, h1, h2, hd, hi]
theorem Tryd.assEJ (w : World) : (callFunc 109 #[.agg #[hdl 52], typ 118]).run Tryd.prog w = .ok (.value (.bool false)) w := by
  have e1 : (ReflectliteType.ofRtype (.agg #[hdl 52])).run Tryd.prog w = .ok 52 w := by kernel_rfl
  have e2 : (ReflectliteType.ofRtype (.agg #[hdl 118])).run Tryd.prog w = .ok 118 w := by kernel_rfl
  have ha : (ReflectliteType.assignableTo 118 52).run Tryd.prog w = .ok false w := assignable_lacks (by decide) (fun s => by kernel_rfl) (fun s => by kernel_rfl) (by kernel_rfl) (implJE w)
  rw [Tryd.xAss _ _, relation_eq]
  simp only [Sem.run_bind, e1, e2, ha, Result.andThen, Sem.run_pure]
theorem Tryd.assFJ (w : World) : (callFunc 109 #[.agg #[hdl 62], typ 118]).run Tryd.prog w = .ok (.value (.bool false)) w := by
  have e1 : (ReflectliteType.ofRtype (.agg #[hdl 62])).run Tryd.prog w = .ok 62 w := by kernel_rfl
  have e2 : (ReflectliteType.ofRtype (.agg #[hdl 118])).run Tryd.prog w = .ok 118 w := by kernel_rfl
  have ha : (ReflectliteType.assignableTo 118 62).run Tryd.prog w = .ok false w := assignable_lacks (by decide) (fun s => by kernel_rfl) (fun s => by kernel_rfl) (by kernel_rfl) (implJF w)
  rw [Tryd.xAss _ _, relation_eq]
  simp only [Sem.run_bind, e1, e2, ha, Result.andThen, Sem.run_pure]
theorem Tryd.valueOfNum (n : Int) (w : World) : (callFunc 41 #[num n]).run Tryd.prog w = .ok (.value (rval 52 ⟨w.heap.size, 0, none⟩ 130)) (w.alloc (.cells #[.int .i64 n] 52)) := (Tryd.xValueOf _ _).trans (by kernel_rfl)
theorem Tryd.valueOfFault (v : Addr) (w : World) : (callFunc 41 #[.iface 62 (.pointer (some v))]).run Tryd.prog w = .ok (.value (rval 62 ⟨w.heap.size, 0, none⟩ 150)) (w.alloc (.cells #[.pointer (some v)] 62)) := (Tryd.xValueOf _ _).trans (by kernel_rfl)
theorem Tryd.asFault (v : Value) (xT : TypeId) (w : World) : (Instr.typeAssert (.iface 62 v) xT 114 true).run Tryd.prog w = .ok (.tuple #[.nilIface, .bool false]) w := run_typeAssert_lacksB Tryd.underlying114 (by kernel_rfl) (by kernel_rfl) v xT w
theorem Tryd.asNum (v : Value) (xT : TypeId) (w : World) : (Instr.typeAssert (.iface 52 v) xT 114 true).run Tryd.prog w = .ok (.tuple #[.nilIface, .bool false]) w := run_typeAssert_lacksB Tryd.underlying114 (by kernel_rfl) (by kernel_rfl) v xT w
end Go.Proofs.YtildpgingcmfcaaDoor
/- errors.As, walked: *Errno over a chain finds the number at the bottom, or nothing where there is none; **Fault finds the outmost Fault. -/
namespace Go.Proofs.YtildpgingcmfcaaDoor
open Go.RowKit Go.Extern.Stop Go.Stop Go.Extern
set_option maxRecDepth 100000

/-! the entries that read or write memory -/
theorem Tryd.isNilAt (pt et : TypeId) (a p : Addr) (W : World) (hp : (ReflectliteValue.parts (rval pt a 150)).run Tryd.prog W = .ok (some (pt, a, 150)) W) (hu : Tryd.prog.underlying pt = some (.pointer et)) (ha : W.cell? a = some (.pointer (some p))) :
    (callFunc 43 #[rval pt a 150]).run Tryd.prog W = .ok (.value (.bool false)) W := by
  rw [Tryd.xIsNil]
  change Result.andThen (Sem.run Tryd.prog (ReflectliteValue.parts (rval pt a 150) >>= _) W) _ = _
  simp only [Sem.run_bind, hp, Result.andThen]
  simp [ReflectliteValue.isNil, loadVar, isAgg, underlying, hu, ha, Result.andThen]
theorem Tryd.elemAt (pt et : TypeId) (a p : Addr) (fl : Int) (W : World) (hp : (ReflectliteValue.parts (rval pt a 150)).run Tryd.prog W = .ok (some (pt, a, 150)) W) (hu : Tryd.prog.underlying pt = some (.pointer et)) (ha : W.cell? a = some (.pointer (some p)))
    (he : (Rtype.elem? pt).run Tryd.prog W = .ok (some et) W) (hm : (ReflectliteValue.mk et p ReflectliteValue.flagAddr).run Tryd.prog W = .ok (rval et p fl) W) :
    (callFunc 55 #[rval pt a 150]).run Tryd.prog W = .ok (.value (rval et p fl)) W := by
  rw [Tryd.xElemV]
  change Result.andThen (Sem.run Tryd.prog (ReflectliteValue.parts (rval pt a 150) >>= _) W) _ = _
  simp only [Sem.run_bind, hp, Result.andThen]
  simp [ReflectliteValue.elem, loadVar, isAgg, underlying, hu, ha, Result.andThen, he, hm]
theorem Tryd.setAt (dt : TypeId) (ta b : Addr) (f1 f2 : Int) (v : Value) (W : World) (h1 : (ReflectliteValue.parts (rval dt ta f1)).run Tryd.prog W = .ok (some (dt, ta, f1.toNat)) W) (h2 : (ReflectliteValue.parts (rval dt b f2)).run Tryd.prog W = .ok (some (dt, b, f2.toNat)) W)
    (hf : ¬ f1.toNat / ReflectliteValue.flagAddr % 2 = 0) (hl : (loadVar dt b).run Tryd.prog W = .ok v W) (hd : (Rtype.directlyAssignable dt dt).run Tryd.prog W = .ok true W) (hs : (storeVar dt ta v).run Tryd.prog W = .ok () (W.setCell ta v)) :
    (callFunc 56 #[rval dt ta f1, rval dt b f2]).run Tryd.prog W = .ok (.value (.tuple #[])) (W.setCell ta v) := by
  rw [Tryd.xSet]
  change Result.andThen (Sem.run Tryd.prog (ReflectliteValue.parts (rval dt ta f1) >>= fun p => ReflectliteValue.parts (rval dt b f2) >>= _) W) _ = _
  simp only [Sem.run_bind, h1, h2, Result.andThen]
  simp [hf, hl, hd, hs, Result.andThen]
end Go.Proofs.YtildpgingcmfcaaDoor
/- errors.As over a chain of Faults: into an *Errno it finds the number at the bottom, or nothing where there is none. -/
namespace Go.Proofs.YtildpgingcmfcaaDoor
open Go.RowKit Go.Extern.Stop Go.Stop Go.Extern
set_option maxRecDepth 100000

theorem Tryd.partsPE (a : Addr) (w : World) : (ReflectliteValue.parts (rval 59 a 150)).run Tryd.prog w = .ok (some (59, a, 150)) w := by kernel_rfl
theorem Tryd.partsE1 (a : Addr) (w : World) : (ReflectliteValue.parts (rval 52 a 386)).run Tryd.prog w = .ok (some (52, a, 386)) w := by kernel_rfl
theorem Tryd.partsE2 (a : Addr) (w : World) : (ReflectliteValue.parts (rval 52 a 130)).run Tryd.prog w = .ok (some (52, a, 130)) w := by kernel_rfl
theorem Tryd.mkE (p : Addr) (w : World) : (ReflectliteValue.mk 52 p ReflectliteValue.flagAddr).run Tryd.prog w = .ok (rval 52 p 386) w := by kernel_rfl
theorem Tryd.elemOfPE (w : World) : (Rtype.elem? 59).run Tryd.prog w = .ok (some 52) w := by kernel_rfl
theorem Tryd.directE (w : World) : (Rtype.directlyAssignable 52 52).run Tryd.prog w = .ok true w := by kernel_rfl
theorem Tryd.storeE (ta : Addr) (n : Int) (old : Value) (W : World) (ht : W.cell? ta = some old) (hf : W.frozen? ta = false) : (storeVar 52 ta (.int .i64 n)).run Tryd.prog W = .ok () (W.setCell ta (.int .i64 n)) := by
  simp [storeVar, Value.cells, storeCells, Addr.add]
  rw [run_store Tryd.prog W ta _ _ (by rfl)]
  simp [ht, hf]
theorem Tryd.loadE (b : Addr) (n : Int) (W : World) (hb : W.cell? b = some (.int .i64 n)) : (loadVar 52 b).run Tryd.prog W = .ok (.int .i64 n) W := by
  simp [loadVar, isAgg, underlying, Tryd.underlying52, hb, Result.andThen]

/-- The world behind the box that errors.as makes of its third argument. -/
abbrev boxed (w : World) (t : TypeId) (a : Addr) : World := w.alloc (.cells #[hdl t, .pointer (some a), .int .u64 150] 91)

set_option maxHeartbeats 1000000 in
theorem asE_low (n : Int) (w : World) (l : List (ByteArray × ByteArray)) (e old : Value) (a t : Addr) (hc : Chain w l (num n) e) (ha : w.cell? a = some (.pointer (some t))) (ht : w.cell? t = some old) (hf : w.frozen? t = false)
    (hal : a.block < w.heap.size) (htl : t.block < w.heap.size) :
    Calls Tryd.prog 44 #[e, .iface 59 (.pointer (some t)), rval 59 a 150, typ 52] w fun ev w' =>
      ev = .returned (.bool true) ∧ w' = ((boxed w 59 a).alloc (.cells #[.int .i64 n] 52)).setCell t (.int .i64 n) := by
  have b1 := Tryd.callTypeOfNum
  have b2 := Tryd.callTypeOfFault
  have b3 := Tryd.methodAssignableTo
  have b4 := Tryd.assFE
  have b5 := Tryd.assEE
  have b6 := Tryd.asFault
  have b7 := Tryd.unwrapFault
  have b8 := Tryd.methodUnwrap
  have b9 := Tryd.valueOfNum
  have el := Tryd.elemAt 59 52 a t 386 (boxed w 59 a) (Tryd.partsPE a _) Tryd.underlying59 (by rw [World.cell?_alloc_lt _ _ a hal]; exact ha) (Tryd.elemOfPE _) (Tryd.mkE t _)
  have st := Tryd.setAt 52 t ⟨w.heap.size + 1, 0, none⟩ 386 130 (.int .i64 n) ((boxed w 59 a).alloc (.cells #[.int .i64 n] 52)) (Tryd.partsE1 t _) (Tryd.partsE2 _ _) (by decide) (Tryd.loadE _ n _ (by rw [World.cell?_alloc_at _ _ _ _ (by simp)]; rfl)) (Tryd.directE _)
    (Tryd.storeE t n old _ (by rw [World.cell?_alloc_lt _ _ t (by simp; omega), World.cell?_alloc_lt _ _ t htl]; exact ht) (by rw [World.frozen?_alloc_old _ _ t (by simp; omega), World.frozen?_alloc_old _ _ t (Nat.ne_of_lt htl)]; exact hf))
  have hB : Below w.heap.size w (boxed w 59 a) := (Below.refl _ _).alloc (Nat.le_refl _) _
  have hC : Hid (Chain (boxed w 59 a) l (num n) e) := hc.below hB
  clear hc hB ha ht hf
  go_enter Tryd.func44, Tryd.ntmps44
  go_wp2
  go_loopg [0] l.length (fun k e wr => ∃ l, l.length = k ∧ Chain (boxed w 59 a) l (num n) e ∧ wr = boxed w 59 a)
  case atStart => exact ⟨l, rfl, hC.out, rfl⟩
  case round =>
    obtain ⟨l, hk, hc, rfl⟩ := hrel
    cases l with
    | nil =>
      have he : _ = num n := hc
      subst he
      go_wp2
      go_ret
      exact ⟨rfl, rfl⟩
    | cons p r =>
      obtain ⟨op, nm⟩ := p
      obtain ⟨b, e', rfl, hb, -, h0, h1, h2, hr⟩ := hc
      cases r with
      | nil =>
        have he : e' = num n := hr
        subst he
        clear h0 h1
        go_wp2
        go_roundg 0
        case measure => rw [← hk]; simp
        case rel => exact ⟨[], rfl, rfl, rfl⟩
      | cons p r =>
        obtain ⟨op', nm'⟩ := p
        have hr' := hr
        obtain ⟨b', e'', rfl, _⟩ := hr'
        have hr := (show Hid _ from hr)
        clear h0 h1
        go_wp2
        go_roundg (r.length + 1)
        case measure => rw [← hk]; simp
        case rel => exact ⟨(op', nm') :: r, rfl, hr, rfl⟩
end Go.Proofs.YtildpgingcmfcaaDoor
/- errors.As: over a chain of Faults with nothing at its bottom an *Errno target finds nothing; a **Fault target finds the outmost Fault; a target with Unwrap() []error finds nothing in an Errno. -/
namespace Go.Proofs.YtildpgingcmfcaaDoor
open Go.RowKit Go.Extern.Stop Go.Stop Go.Extern
set_option maxRecDepth 100000

set_option maxHeartbeats 1000000 in
theorem asE_none (w : World) (l : List (ByteArray × ByteArray)) (e : Value) (a t : Addr) (hc : Chain w l Value.nilIface e) (hne : l ≠ []) :
    Calls Tryd.prog 44 #[e, .iface 59 (.pointer (some t)), rval 59 a 150, typ 52] w fun ev w' =>
      ev = .returned (.bool false) ∧ w' = boxed w 59 a := by
  have b2 := Tryd.callTypeOfFault
  have b3 := Tryd.methodAssignableTo
  have b4 := Tryd.assFE
  have b6 := Tryd.asFault
  have b7 := Tryd.unwrapFault
  have b8 := Tryd.methodUnwrap
  have hB : Below w.heap.size w (boxed w 59 a) := (Below.refl _ _).alloc (Nat.le_refl _) _
  have hC : Hid (Chain (boxed w 59 a) l Value.nilIface e) := hc.below hB
  clear hc hB
  go_enter Tryd.func44, Tryd.ntmps44
  go_wp2
  go_loopg [0] l.length (fun k e wr => ∃ l, l.length = k ∧ l ≠ [] ∧ Chain (boxed w 59 a) l Value.nilIface e ∧ wr = boxed w 59 a)
  case atStart => exact ⟨l, rfl, hne, hC.out, rfl⟩
  case round =>
    obtain ⟨l, hk, hne, hc, rfl⟩ := hrel
    cases l with
    | nil => exact absurd rfl hne
    | cons p r =>
      obtain ⟨op, nm⟩ := p
      obtain ⟨b, e', rfl, hb, -, h0, h1, h2, hr⟩ := hc
      cases r with
      | nil =>
        have he : e' = Value.nilIface := hr
        subst he
        clear h0 h1
        go_wp2
        go_ret
        exact ⟨rfl, rfl⟩
      | cons p r =>
        obtain ⟨op', nm'⟩ := p
        have hr' := hr
        obtain ⟨b', e'', rfl, _⟩ := hr'
        have hr := (show Hid _ from hr)
        clear h0 h1
        go_wp2
        go_roundg (r.length + 1)
        case measure => rw [← hk]; simp
        case rel => exact ⟨(op', nm') :: r, rfl, by simp, hr, rfl⟩

theorem Tryd.partsPF (a : Addr) (w : World) : (ReflectliteValue.parts (rval 63 a 150)).run Tryd.prog w = .ok (some (63, a, 150)) w := by kernel_rfl
theorem Tryd.partsF1 (a : Addr) (w : World) : (ReflectliteValue.parts (rval 62 a 406)).run Tryd.prog w = .ok (some (62, a, 406)) w := by kernel_rfl
theorem Tryd.partsF2 (a : Addr) (w : World) : (ReflectliteValue.parts (rval 62 a 150)).run Tryd.prog w = .ok (some (62, a, 150)) w := by kernel_rfl
theorem Tryd.mkF (p : Addr) (w : World) : (ReflectliteValue.mk 62 p ReflectliteValue.flagAddr).run Tryd.prog w = .ok (rval 62 p 406) w := by kernel_rfl
theorem Tryd.elemOfPF (w : World) : (Rtype.elem? 63).run Tryd.prog w = .ok (some 62) w := by kernel_rfl
theorem Tryd.directF (w : World) : (Rtype.directlyAssignable 62 62).run Tryd.prog w = .ok true w := by kernel_rfl
theorem Tryd.storeF (ta : Addr) (p : Addr) (old : Value) (W : World) (ht : W.cell? ta = some old) (hf : W.frozen? ta = false) : (storeVar 62 ta (.pointer (some p))).run Tryd.prog W = .ok () (W.setCell ta (.pointer (some p))) := by
  simp [storeVar, Value.cells, storeCells, Addr.add]
  rw [run_store Tryd.prog W ta _ _ (by rfl)]
  simp [ht, hf]
theorem Tryd.loadF (b : Addr) (p : Addr) (W : World) (hb : W.cell? b = some (.pointer (some p))) : (loadVar 62 b).run Tryd.prog W = .ok (.pointer (some p)) W := by
  simp [loadVar, isAgg, underlying, Tryd.underlying62, hb, Result.andThen]

set_option maxHeartbeats 1000000 in
theorem asF_low (w : World) (b : Nat) (old : Value) (a t : Addr) (ha : w.cell? a = some (.pointer (some t))) (ht : w.cell? t = some old) (hf : w.frozen? t = false)
    (hal : a.block < w.heap.size) (htl : t.block < w.heap.size) :
    Calls Tryd.prog 44 #[flt b, .iface 63 (.pointer (some t)), rval 63 a 150, typ 62] w fun ev w' =>
      ev = .returned (.bool true) ∧ w' = ((boxed w 63 a).alloc (.cells #[.pointer (some ⟨b, 0, none⟩)] 62)).setCell t (.pointer (some ⟨b, 0, none⟩)) := by
  have b2 := Tryd.callTypeOfFault
  have b3 := Tryd.methodAssignableTo
  have b5 := Tryd.assFF
  have b9 := Tryd.valueOfFault
  have el := Tryd.elemAt 63 62 a t 406 (boxed w 63 a) (Tryd.partsPF a _) Tryd.underlying63 (by rw [World.cell?_alloc_lt _ _ a hal]; exact ha) (Tryd.elemOfPF _) (Tryd.mkF t _)
  have st := Tryd.setAt 62 t ⟨w.heap.size + 1, 0, none⟩ 406 150 (.pointer (some ⟨b, 0, none⟩)) ((boxed w 63 a).alloc (.cells #[.pointer (some ⟨b, 0, none⟩)] 62)) (Tryd.partsF1 t _) (Tryd.partsF2 _ _) (by decide) (Tryd.loadF _ _ _ (by rw [World.cell?_alloc_at _ _ _ _ (by simp)]; rfl)) (Tryd.directF _)
    (Tryd.storeF t _ old _ (by rw [World.cell?_alloc_lt _ _ t (by simp; omega), World.cell?_alloc_lt _ _ t htl]; exact ht) (by rw [World.frozen?_alloc_old _ _ t (by simp; omega), World.frozen?_alloc_old _ _ t (Nat.ne_of_lt htl)]; exact hf))
  clear ha ht hf
  go_enter Tryd.func44, Tryd.ntmps44
  go_wp2
  refine wp_loop_rounds 1 ?_
  rw [rounds_succ]
  go_wp2
  go_ret
  exact ⟨rfl, rfl⟩

end Go.Proofs.YtildpgingcmfcaaDoor
/- errors.As itself: into an *Errno it finds the number at the bottom of a chain, or nothing where there is none; into a **Fault the outmost Fault; a target with Unwrap() []error finds nothing in an Errno. Nothing that was there before is changed but the target. -/
namespace Go.Proofs.YtildpgingcmfcaaDoor
open Go.RowKit Go.Extern.Stop Go.Stop Go.Extern
set_option maxRecDepth 100000

theorem hidden {p : Prop} (h : p) : Hid p := h

theorem Chain.held {w : World} {l : List (ByteArray × ByteArray)} {bot e : Value} (hc : Chain w l bot e) (h : l ≠ [] ∨ ∃ u v, bot = .iface u v) : ∃ u v, e = .iface u v := by
  cases l with
  | nil =>
    rcases h with h | ⟨u, v, rfl⟩
    · exact absurd rfl h
    · exact ⟨u, v, hc⟩
  | cons p r =>
    obtain ⟨op, nm⟩ := p
    obtain ⟨b, e', rfl, _⟩ := hc
    exact ⟨_, _, rfl⟩

/-- The world in which errors.As calls errors.as. -/
abbrev asked (w : World) (pt : TypeId) (t : Addr) : World := (w.alloc (.cells #[.pointer (some t)] pt)).alloc (.cells #[hdl pt, .pointer (some ⟨w.heap.size, 0, none⟩), .int .u64 150] 91)
theorem asked_below (w : World) (pt : TypeId) (t : Addr) : Below w.heap.size w (asked w pt t) := ((Below.refl _ _).alloc (Nat.le_refl _) _).alloc (by simp) _
theorem boxed_below (w : World) (pt : TypeId) (a : Addr) : Below w.heap.size w (boxed w pt a) := (Below.refl _ _).alloc (Nat.le_refl _) _
theorem asked_cell (w : World) (pt : TypeId) (t : Addr) : (asked w pt t).cell? ⟨w.heap.size, 0, none⟩ = some (.pointer (some t)) := by simp
theorem asked_size (w : World) (pt : TypeId) (t : Addr) : (asked w pt t).heap.size = w.heap.size + 2 := by simp
theorem lt_of_cell {w : World} {a : Addr} {v : Value} (h : w.cell? a = some v) : a.block < w.heap.size := by
  rcases Nat.lt_or_ge a.block w.heap.size with h1 | h1
  · exact h1
  · simp [World.cell?, Array.getElem?_eq_none h1] at h

set_option maxHeartbeats 1000000 in
theorem asE (n : Int) (w : World) (l : List (ByteArray × ByteArray)) (e old : Value) (t : Addr) (hc : Chain w l (num n) e) (ht : w.cell? t = some old) (hf : w.frozen? t = false) (hg : w.cell? ⟨0, 0, none⟩ = some (typ 29)) :
    Calls Tryd.prog 23 #[e, .iface 59 (.pointer (some t))] w fun ev w' => ev = .returned (.bool true) ∧ ∃ W, Below w.heap.size w W ∧ w' = W.setCell t (.int .i64 n) := by
  have hlow := hidden <| asE_low n (asked w 59 t) l e old ⟨w.heap.size, 0, none⟩ t (hc.below (asked_below w _ t)) (asked_cell _ _ _) ((asked_below w _ t |>.cell (lt_of_cell ht)).trans ht) ((asked_below w _ t |>.frozen (lt_of_cell ht)).trans hf) (by rw [asked_size]; show w.heap.size < _; omega) (by rw [asked_size]; have := lt_of_cell ht; omega)
  obtain ⟨u, v, rfl⟩ := hc.held (Or.inr ⟨_, _, rfl⟩)
  have c1 := Tryd.valueOfE
  have c2 := Tryd.typeE
  have c3 := Tryd.methodKind
  have c4 := Tryd.kindPE
  have c5 := Tryd.isNilAt 59 52 ⟨w.heap.size, 0, none⟩ t (asked w 59 t) (Tryd.partsPE _ _) Tryd.underlying59 (asked_cell _ _ _)
  have c6 := Tryd.methodElem
  have c7 := Tryd.elemPE
  have c8 := Tryd.kindE
  have c9 := Tryd.methodImplements
  have d1 := Tryd.implE
  have hg2 : (asked w 59 t).cell? ⟨0, 0, none⟩ = some (typ 29) := (asked_below w 59 t |>.cell (p := ⟨0, 0, none⟩) (lt_of_cell hg)).trans hg
  clear hg
  clear hc ht hf
  go_enter Tryd.func23, Tryd.ntmps23
  go_wp2_with (go_at_call 44; refine (hlow.out).mono ?_; rintro ev w' ⟨rfl, rfl⟩)
  go_ret
  exact ⟨rfl, _, ((asked_below w _ t).trans ((boxed_below _ _ _).mono (by simp; omega))).alloc (by simp; omega) _, rfl⟩

set_option maxHeartbeats 1000000 in
theorem asE_nothing (w : World) (l : List (ByteArray × ByteArray)) (e : Value) (t : Addr) (hc : Chain w l .nilIface e) (hg : w.cell? ⟨0, 0, none⟩ = some (typ 29)) :
    Calls Tryd.prog 23 #[e, .iface 59 (.pointer (some t))] w fun ev w' => ev = .returned (.bool false) ∧ Below w.heap.size w w' := by
  by_cases hne : l = []
  · subst hne
    have he : e = .nilIface := hc
    subst he
    exact (as_nil _ w).mono fun ev w' h => ⟨h.1, by rw [h.2]; exact Below.refl _ _⟩
  have hlow := hidden <| asE_none (asked w 59 t) l e ⟨w.heap.size, 0, none⟩ t (hc.below (asked_below w _ t)) hne
  obtain ⟨u, v, rfl⟩ := hc.held (Or.inl hne)
  have c1 := Tryd.valueOfE
  have c2 := Tryd.typeE
  have c3 := Tryd.methodKind
  have c4 := Tryd.kindPE
  have c5 := Tryd.isNilAt 59 52 ⟨w.heap.size, 0, none⟩ t (asked w 59 t) (Tryd.partsPE _ _) Tryd.underlying59 (asked_cell _ _ _)
  have c6 := Tryd.methodElem
  have c7 := Tryd.elemPE
  have c8 := Tryd.kindE
  have c9 := Tryd.methodImplements
  have d1 := Tryd.implE
  have hg2 : (asked w 59 t).cell? ⟨0, 0, none⟩ = some (typ 29) := (asked_below w 59 t |>.cell (p := ⟨0, 0, none⟩) (lt_of_cell hg)).trans hg
  clear hg
  clear hc
  go_enter Tryd.func23, Tryd.ntmps23
  go_wp2_with (go_at_call 44; refine (hlow.out).mono ?_; rintro ev w' ⟨rfl, rfl⟩)
  go_ret
  exact ⟨rfl, (asked_below w _ t).trans ((boxed_below _ _ _).mono (by simp; omega))⟩

set_option maxHeartbeats 1000000 in
theorem asF (w : World) (b : Nat) (old : Value) (t : Addr) (ht : w.cell? t = some old) (hf : w.frozen? t = false) (hg : w.cell? ⟨0, 0, none⟩ = some (typ 29)) :
    Calls Tryd.prog 23 #[flt b, .iface 63 (.pointer (some t))] w fun ev w' => ev = .returned (.bool true) ∧ ∃ W, Below w.heap.size w W ∧ w' = W.setCell t (.pointer (some ⟨b, 0, none⟩)) := by
  have hlow := hidden <| asF_low (asked w 63 t) b old ⟨w.heap.size, 0, none⟩ t (asked_cell _ _ _) ((asked_below w _ t |>.cell (lt_of_cell ht)).trans ht) ((asked_below w _ t |>.frozen (lt_of_cell ht)).trans hf) (by rw [asked_size]; show w.heap.size < _; omega) (by rw [asked_size]; have := lt_of_cell ht; omega)
  have c1 := Tryd.valueOfF
  have c2 := Tryd.typeF
  have c3 := Tryd.methodKind
  have c4 := Tryd.kindPF
  have c5 := Tryd.isNilAt 63 62 ⟨w.heap.size, 0, none⟩ t (asked w 63 t) (Tryd.partsPF _ _) Tryd.underlying63 (asked_cell _ _ _)
  have c6 := Tryd.methodElem
  have c7 := Tryd.elemPF
  have c8 := Tryd.kindF
  have c9 := Tryd.methodImplements
  have d1 := Tryd.implF
  have hg2 : (asked w 63 t).cell? ⟨0, 0, none⟩ = some (typ 29) := (asked_below w 63 t |>.cell (p := ⟨0, 0, none⟩) (lt_of_cell hg)).trans hg
  clear hg
  clear ht hf
  go_enter Tryd.func23, Tryd.ntmps23
  go_wp2_with (go_at_call 44; refine (hlow.out).mono ?_; rintro ev w' ⟨rfl, rfl⟩)
  go_ret
  exact ⟨rfl, _, ((asked_below w _ t).trans ((boxed_below _ _ _).mono (by simp; omega))).alloc (by simp; omega) _, rfl⟩

end Go.Proofs.YtildpgingcmfcaaDoor
