/- errors.As of a chain of Faults above an Errno (or above nothing), for the three kinds of targets that the program hands it: *Errno finds the number at the bottom, **Fault the outmost Fault, and a target of the kind interface with Unwrap() []error finds nothing in an Errno. -/
import Derived.Test.YtfoamhkgdlebdaaGreatDoorIs
namespace Go.Proofs.YtfoamhkgdlebdaaGreatDoor
open Go.RowKit Go.Extern.Stop Go.Stop Go.Extern
set_option maxRecDepth 100000

/-- errors.As(nil, target) -/
theorem as_nil (t : Value) (w : World) : Calls Tryz.prog 17 #[.nilIface, t] w fun e w' => e = .returned (.bool false) ∧ w' = w := by
  go_enter Tryz.func17, Tryz.ntmps17
  go_wp2
  go_ret
  exact ⟨rfl, rfl⟩

abbrev hdl (t : TypeId) : Value := .pointer (some ⟨7, t, none⟩)
abbrev typ (t : TypeId) : Value := .iface 100 (.agg #[hdl t])
abbrev rval (t : TypeId) (a : Addr) (fl : Int) : Value := .agg #[hdl t, .pointer (some a), .int .u64 fl]

/-! each entry found once -/
theorem Tryz.xValueOf (args : Array Value) (w : World) : (callFunc 28 args).run Tryz.prog w = ((ReflectliteValue.unpack (args.getD 0 (.tuple #[]))).run Tryz.prog w).andThen (fun v w' => .ok (.value v) w') := run_callFunc_extern (e := fun args => ReflectliteValue.unpack (args.getD 0 (.tuple #[]))) Tryz.func28 (by kernel_rfl) (by kernel_rfl) (by kernel_rfl) (by kernel_rfl) args w
theorem Tryz.xType (args : Array Value) (w : World) : (callFunc 29 args).run Tryz.prog w = (((ReflectliteValue.methodAny (ReflectliteValue.valueError "reflectlite.Value.Type" 0) (fun t _ _ _ => ReflectliteType.toType t)) args).run Tryz.prog w).andThen (fun v w' => .ok (.value v) w') := run_callFunc_extern Tryz.func29 (by kernel_rfl) (by kernel_rfl) (by kernel_rfl) (by kernel_rfl) args w
theorem Tryz.xIsNil (args : Array Value) (w : World) : (callFunc 30 args).run Tryz.prog w = (((ReflectliteValue.method (ReflectliteValue.valueError "reflectlite.Value.IsNil" 0) ReflectliteValue.isNil) args).run Tryz.prog w).andThen (fun v w' => .ok (.value v) w') := run_callFunc_extern Tryz.func30 (by kernel_rfl) (by kernel_rfl) (by kernel_rfl) (by kernel_rfl) args w
theorem Tryz.xKind (args : Array Value) (w : World) : (callFunc 127 args).run Tryz.prog w = (((ReflectliteType.abiMethod fun t => do pure (.int .u8 (← Rtype.kind t))) args).run Tryz.prog w).andThen (fun v w' => .ok (.value v) w') := run_callFunc_extern Tryz.func127 (by kernel_rfl) (by kernel_rfl) (by kernel_rfl) (by kernel_rfl) args w
theorem Tryz.xElemT (args : Array Value) (w : World) : (callFunc 142 args).run Tryz.prog w = (((ReflectliteType.method ReflectliteType.elem) args).run Tryz.prog w).andThen (fun v w' => .ok (.value v) w') := run_callFunc_extern Tryz.func142 (by kernel_rfl) (by kernel_rfl) (by kernel_rfl) (by kernel_rfl) args w
theorem Tryz.xImpl (args : Array Value) (w : World) : (callFunc 143 args).run Tryz.prog w = (((ReflectliteType.relation "Implements" ReflectliteType.implements_) args).run Tryz.prog w).andThen (fun v w' => .ok (.value v) w') := run_callFunc_extern Tryz.func143 (by kernel_rfl) (by kernel_rfl) (by kernel_rfl) (by kernel_rfl) args w
theorem Tryz.xAss (args : Array Value) (w : World) : (callFunc 140 args).run Tryz.prog w = (((ReflectliteType.relation "AssignableTo" ReflectliteType.assignableTo) args).run Tryz.prog w).andThen (fun v w' => .ok (.value v) w') := run_callFunc_extern Tryz.func140 (by kernel_rfl) (by kernel_rfl) (by kernel_rfl) (by kernel_rfl) args w
theorem Tryz.xElemV (args : Array Value) (w : World) : (callFunc 50 args).run Tryz.prog w = (((ReflectliteValue.method (ReflectliteValue.valueError "reflectlite.Value.Elem" 0) ReflectliteValue.elem) args).run Tryz.prog w).andThen (fun v w' => .ok (.value v) w') := run_callFunc_extern Tryz.func50 (by kernel_rfl) (by kernel_rfl) (by kernel_rfl) (by kernel_rfl) args w
theorem Tryz.xSet (args : Array Value) (w : World) : (callFunc 51 args).run Tryz.prog w = ((ReflectliteValue.set args).run Tryz.prog w).andThen (fun v w' => .ok (.value v) w') := run_callFunc_extern Tryz.func51 (by kernel_rfl) (by kernel_rfl) (by kernel_rfl) (by kernel_rfl) args w

/-! the library's entries, at these types -/
theorem Tryz.valueOfF (t : Addr) (w : World) : (callFunc 28 #[.iface 50 (.pointer (some t))]).run Tryz.prog w = .ok (.value (rval 50 ⟨w.heap.size, 0, none⟩ 150)) (w.alloc (.cells #[.pointer (some t)] 50)) := (Tryz.xValueOf _ _).trans (by kernel_rfl)
theorem Tryz.typeF (a : Addr) (w : World) : (callFunc 29 #[rval 50 a 150]).run Tryz.prog w = .ok (.value (typ 50)) w := (Tryz.xType _ _).trans (by kernel_rfl)
theorem Tryz.methodKind (h : Value) (w : World) : (Go.method 293 100 (.agg #[h]) "Kind").run Tryz.prog w = .ok (127, h) w := by kernel_rfl
theorem Tryz.methodElem (h : Value) (w : World) : (Go.method 293 100 (.agg #[h]) "Elem").run Tryz.prog w = .ok (142, .agg #[h]) w := by kernel_rfl
theorem Tryz.methodImplements (h : Value) (w : World) : (Go.method 293 100 (.agg #[h]) "Implements").run Tryz.prog w = .ok (143, .agg #[h]) w := by kernel_rfl
theorem Tryz.methodAssignableTo (h : Value) (w : World) : (Go.method 293 100 (.agg #[h]) "AssignableTo").run Tryz.prog w = .ok (140, .agg #[h]) w := by kernel_rfl
theorem Tryz.kindPF (w : World) : (callFunc 127 #[hdl 50]).run Tryz.prog w = .ok (.value (.int .u8 22)) w := (Tryz.xKind _ _).trans (by kernel_rfl)
theorem Tryz.kindE (w : World) : (callFunc 127 #[hdl 54]).run Tryz.prog w = .ok (.value (.int .u8 2)) w := (Tryz.xKind _ _).trans (by kernel_rfl)
theorem Tryz.kindF (w : World) : (callFunc 127 #[hdl 48]).run Tryz.prog w = .ok (.value (.int .u8 22)) w := (Tryz.xKind _ _).trans (by kernel_rfl)
theorem Tryz.kindJ (w : World) : (callFunc 127 #[hdl 109]).run Tryz.prog w = .ok (.value (.int .u8 20)) w := (Tryz.xKind _ _).trans (by kernel_rfl)
theorem Tryz.elemPF (w : World) : (callFunc 142 #[.agg #[hdl 50]]).run Tryz.prog w = .ok (.value (typ 48)) w := (Tryz.xElemT _ _).trans (by kernel_rfl)
theorem Tryz.implE (w : World) : (callFunc 143 #[.agg #[hdl 54], typ 31]).run Tryz.prog w = .ok (.value (.bool true)) w := (Tryz.xImpl _ _).trans (by kernel_rfl)
theorem Tryz.implF (w : World) : (callFunc 143 #[.agg #[hdl 48], typ 31]).run Tryz.prog w = .ok (.value (.bool true)) w := (Tryz.xImpl _ _).trans (by kernel_rfl)
theorem Tryz.callTypeOfFault (v : Value) (w : World) : (callFunc 32 #[.iface 48 v]).run Tryz.prog w = .ok (.value (typ 48)) w := by kernel_rfl
theorem Tryz.assFE (w : World) : (callFunc 140 #[.agg #[hdl 48], typ 54]).run Tryz.prog w = .ok (.value (.bool false)) w := (Tryz.xAss _ _).trans (by kernel_rfl)
theorem Tryz.assEE (w : World) : (callFunc 140 #[.agg #[hdl 54], typ 54]).run Tryz.prog w = .ok (.value (.bool true)) w := (Tryz.xAss _ _).trans (by kernel_rfl)
theorem Tryz.assFF (w : World) : (callFunc 140 #[.agg #[hdl 48], typ 48]).run Tryz.prog w = .ok (.value (.bool true)) w := (Tryz.xAss _ _).trans (by kernel_rfl)
/-- A type that lacks a method of the interface T does not implement it. -/
theorem run_implements_lacks {P : Program} {w : World} {T V U : TypeId} {want : Array (String × TypeId)} {iT iV iU : TypeInfo}
    (h1 : ∀ s, (Rtype.noPackMethods s V).run P w = .ok () w) (h2 : ∀ s, (Rtype.noPackMethods s T).run P w = .ok () w)
    (hT : (Rtype.under T).run P w = .ok (T, iT) w) (hTd : iT.desc = .interface want)
    (hV : (Rtype.under V).run P w = .ok (U, iU) w) (hVd : iU.desc = .int .i64 ∨ ∃ x, iU.desc = .pointer x) (hi : P.info? V = some iV) (hl : lacking want iV.methods ≠ []) :
    (Rtype.implements T V).run P w = .ok false w := by
  obtain ⟨m, hm⟩ := missingMethod_some hl
  rcases hVd with hVd | ⟨x, hVd⟩ <;> simp [Rtype.implements, h1, h2, hT, hV, hTd, hVd, typeInfo, hi, hm]
theorem infoJ : ∃ i, Tryz.prog.info? 109 = some i ∧ i.desc = .interface #[("Unwrap", 111)] := by
  have h : (Tryz.prog.info? 109).map (·.desc) = some (.interface #[("Unwrap", 111)]) := by kernel_rfl
  exact Option.map_eq_some_iff.1 h
theorem underJ (w : World) : ∃ i, (Rtype.under 109).run Tryz.prog w = .ok (109, i) w ∧ i.desc = .interface #[("Unwrap", 111)] := by
  obtain ⟨i, hi, hd⟩ := infoJ
  exact ⟨i, by simp [Rtype.under, typeInfo, hi, hd], hd⟩
theorem implJE (w : World) : (Rtype.implements 109 54).run Tryz.prog w = .ok false w := by
  obtain ⟨iT, hT, hTd⟩ := underJ w
  obtain ⟨iV, hi, hd, hl⟩ : ∃ i, Tryz.prog.info? 54 = some i ∧ i.desc = .named "credenza/api.Errno" 3 ∧ (lacking #[("Unwrap", 111)] i.methods).isEmpty = false := by
    have h : (Tryz.prog.info? 54).map (fun i => (i.desc, (lacking #[("Unwrap", 111)] i.methods).isEmpty)) = some (.named "credenza/api.Errno" 3, false) := by kernel_rfl
    obtain ⟨i, hi, h⟩ := Option.map_eq_some_iff.1 h
    exact ⟨i, hi, (Prod.mk.inj h).1, (Prod.mk.inj h).2⟩
  obtain ⟨iU, hu, hud⟩ : ∃ i, Tryz.prog.info? 3 = some i ∧ i.desc = .int .i64 := by
    have h : (Tryz.prog.info? 3).map (·.desc) = some (.int .i64) := by kernel_rfl
    exact Option.map_eq_some_iff.1 h
  exact run_implements_lacks (fun s => by kernel_rfl) (fun s => by kernel_rfl) hT hTd (U := 3) (iU := iU) (by simp [Rtype.under, typeInfo, hi, hd, hu]) (Or.inl hud) hi (fun e => by rw [e] at hl; cases hl)
theorem implJF (w : World) : (Rtype.implements 109 48).run Tryz.prog w = .ok false w := by
  obtain ⟨iT, hT, hTd⟩ := underJ w
  obtain ⟨iV, hi, hd, hl⟩ : ∃ i, Tryz.prog.info? 48 = some i ∧ i.desc = .pointer 52 ∧ (lacking #[("Unwrap", 111)] i.methods).isEmpty = false := by
    have h : (Tryz.prog.info? 48).map (fun i => (i.desc, (lacking #[("Unwrap", 111)] i.methods).isEmpty)) = some (.pointer 52, false) := by kernel_rfl
    obtain ⟨i, hi, h⟩ := Option.map_eq_some_iff.1 h
    exact ⟨i, hi, (Prod.mk.inj h).1, (Prod.mk.inj h).2⟩
  exact run_implements_lacks (fun s => by kernel_rfl) (fun s => by kernel_rfl) hT hTd (U := 48) (iU := iV) (by simp [Rtype.under, typeInfo, hi, hd]) (Or.inr ⟨_, hd⟩) hi (fun e => by rw [e] at hl; cases hl)
theorem relation_eq (s : String) (f : TypeId → TypeId → Sem Bool) (r u : Value) (t : TypeId) : ReflectliteType.relation s f #[r, .iface t u] = (do pure (.bool (← f (← ReflectliteType.ofRtype u) (← ReflectliteType.ofRtype r)))) := rfl
theorem assignable_lacks {P : Program} {w : World} {T V : TypeId} (hne : T ≠ V) (h1 : ∀ s, (Rtype.noPackMethods s V).run P w = .ok () w) (h2 : ∀ s, (Rtype.noPackMethods s T).run P w = .ok () w)
    (hd : (Rtype.directlyAssignable T V).run P w = .ok false w) (hi : (Rtype.implements T V).run P w = .ok false w) : (ReflectliteType.assignableTo T V).run P w = .ok false w := by
  simp [ReflectliteType.assignableTo, hne, h1, h2, hd, hi]
theorem Tryz.assEJ (w : World) : (callFunc 140 #[.agg #[hdl 54], typ 109]).run Tryz.prog w = .ok (.value (.bool false)) w := by
  have e1 : (ReflectliteType.ofRtype (.agg #[hdl 54])).run Tryz.prog w = .ok 54 w := by kernel_rfl
  have e2 : (ReflectliteType.ofRtype (.agg #[hdl 109])).run Tryz.prog w = .ok 109 w := by kernel_rfl
  have ha : (ReflectliteType.assignableTo 109 54).run Tryz.prog w = .ok false w := assignable_lacks (by decide) (fun s => by kernel_rfl) (fun s => by kernel_rfl) (by kernel_rfl) (implJE w)
  rw [Tryz.xAss _ _, relation_eq]
  simp only [Sem.run_bind, e1, e2, ha, Result.andThen, Sem.run_pure]
theorem Tryz.assFJ (w : World) : (callFunc 140 #[.agg #[hdl 48], typ 109]).run Tryz.prog w = .ok (.value (.bool false)) w := by
  have e1 : (ReflectliteType.ofRtype (.agg #[hdl 48])).run Tryz.prog w = .ok 48 w := by kernel_rfl
  have e2 : (ReflectliteType.ofRtype (.agg #[hdl 109])).run Tryz.prog w = .ok 109 w := by kernel_rfl
  have ha : (ReflectliteType.assignableTo 109 48).run Tryz.prog w = .ok false w := assignable_lacks (by decide) (fun s => by kernel_rfl) (fun s => by kernel_rfl) (by kernel_rfl) (implJF w)
  rw [Tryz.xAss _ _, relation_eq]
  simp only [Sem.run_bind, e1, e2, ha, Result.andThen, Sem.run_pure]
theorem Tryz.valueOfNum (n : Int) (w : World) : (callFunc 28 #[num n]).run Tryz.prog w = .ok (.value (rval 54 ⟨w.heap.size, 0, none⟩ 130)) (w.alloc (.cells #[.int .i64 n] 54)) := (Tryz.xValueOf _ _).trans (by kernel_rfl)
theorem Tryz.valueOfFault (v : Addr) (w : World) : (callFunc 28 #[.iface 48 (.pointer (some v))]).run Tryz.prog w = .ok (.value (rval 48 ⟨w.heap.size, 0, none⟩ 150)) (w.alloc (.cells #[.pointer (some v)] 48)) := (Tryz.xValueOf _ _).trans (by kernel_rfl)
theorem Tryz.asFault (v : Value) (xT : TypeId) (w : World) : (Instr.typeAssert (.iface 48 v) xT 104 true).run Tryz.prog w = .ok (.tuple #[.nilIface, .bool false]) w := run_typeAssert_lacksB Tryz.underlying104 (by kernel_rfl) (by kernel_rfl) v xT w
theorem Tryz.asNum (v : Value) (xT : TypeId) (w : World) : (Instr.typeAssert (.iface 54 v) xT 104 true).run Tryz.prog w = .ok (.tuple #[.nilIface, .bool false]) w := run_typeAssert_lacksB Tryz.underlying104 (by kernel_rfl) (by kernel_rfl) v xT w
end Go.Proofs.YtfoamhkgdlebdaaGreatDoor
