/- errors.As of a chain of Faults above an Errno (or above nothing), for the three kinds of targets that the program hands it: *Errno finds the number at the bottom, **Fault the outmost Fault, and a target of the kind interface with Unwrap() []error finds nothing in an Errno. -/
import Derived.Test.YtahehgbibmmaeaaDoorIs
namespace Go.Proofs.YtahehgbibmmaeaaDoor
open Go.RowKit Go.Extern.Stop Go.Stop Go.Extern
set_option maxRecDepth 100000

/-- errors.As(nil, target) -/
theorem as_nil (t : Value) (w : World) : Calls Tryd.prog 26 #[.nilIface, t] w fun e w' => e = .returned (.bool false) ∧ w' = w := by
  go_enter Tryd.func26, Tryd.ntmps26
  go_wp2
  go_ret
  exact ⟨rfl, rfl⟩

abbrev hdl (t : TypeId) : Value := .pointer (some ⟨4, t, none⟩)
abbrev typ (t : TypeId) : Value := .iface 82 (.agg #[hdl t])
abbrev rval (t : TypeId) (a : Addr) (fl : Int) : Value := .agg #[hdl t, .pointer (some a), .int .u64 fl]

/-! each entry found once -/
theorem Tryd.xValueOf (args : Array Value) (w : World) : (callFunc 31 args).run Tryd.prog w = ((ReflectliteValue.unpack (args.getD 0 (.tuple #[]))).run Tryd.prog w).andThen (fun v w' => .ok (.value v) w') := run_callFunc_extern (e := fun args => ReflectliteValue.unpack (args.getD 0 (.tuple #[]))) Tryd.func31 (by kernel_rfl) (by kernel_rfl) (by kernel_rfl) (by kernel_rfl) args w
theorem Tryd.xType (args : Array Value) (w : World) : (callFunc 32 args).run Tryd.prog w = (((ReflectliteValue.methodAny (ReflectliteValue.valueError "reflectlite.Value.Type" 0) (fun t _ _ _ => ReflectliteType.toType t)) args).run Tryd.prog w).andThen (fun v w' => .ok (.value v) w') := run_callFunc_extern Tryd.func32 (by kernel_rfl) (by kernel_rfl) (by kernel_rfl) (by kernel_rfl) args w
theorem Tryd.xIsNil (args : Array Value) (w : World) : (callFunc 33 args).run Tryd.prog w = (((ReflectliteValue.method (ReflectliteValue.valueError "reflectlite.Value.IsNil" 0) ReflectliteValue.isNil) args).run Tryd.prog w).andThen (fun v w' => .ok (.value v) w') := run_callFunc_extern Tryd.func33 (by kernel_rfl) (by kernel_rfl) (by kernel_rfl) (by kernel_rfl) args w
theorem Tryd.xKind (args : Array Value) (w : World) : (callFunc 66 args).run Tryd.prog w = (((ReflectliteType.abiMethod fun t => do pure (.int .u8 (← Rtype.kind t))) args).run Tryd.prog w).andThen (fun v w' => .ok (.value v) w') := run_callFunc_extern Tryd.func66 (by kernel_rfl) (by kernel_rfl) (by kernel_rfl) (by kernel_rfl) args w
theorem Tryd.xElemT (args : Array Value) (w : World) : (callFunc 78 args).run Tryd.prog w = (((ReflectliteType.method ReflectliteType.elem) args).run Tryd.prog w).andThen (fun v w' => .ok (.value v) w') := run_callFunc_extern Tryd.func78 (by kernel_rfl) (by kernel_rfl) (by kernel_rfl) (by kernel_rfl) args w
theorem Tryd.xImpl (args : Array Value) (w : World) : (callFunc 79 args).run Tryd.prog w = (((ReflectliteType.relation "Implements" ReflectliteType.implements_) args).run Tryd.prog w).andThen (fun v w' => .ok (.value v) w') := run_callFunc_extern Tryd.func79 (by kernel_rfl) (by kernel_rfl) (by kernel_rfl) (by kernel_rfl) args w
theorem Tryd.xAss (args : Array Value) (w : World) : (callFunc 76 args).run Tryd.prog w = (((ReflectliteType.relation "AssignableTo" ReflectliteType.assignableTo) args).run Tryd.prog w).andThen (fun v w' => .ok (.value v) w') := run_callFunc_extern Tryd.func76 (by kernel_rfl) (by kernel_rfl) (by kernel_rfl) (by kernel_rfl) args w
theorem Tryd.xElemV (args : Array Value) (w : World) : (callFunc 38 args).run Tryd.prog w = (((ReflectliteValue.method (ReflectliteValue.valueError "reflectlite.Value.Elem" 0) ReflectliteValue.elem) args).run Tryd.prog w).andThen (fun v w' => .ok (.value v) w') := run_callFunc_extern Tryd.func38 (by kernel_rfl) (by kernel_rfl) (by kernel_rfl) (by kernel_rfl) args w
theorem Tryd.xSet (args : Array Value) (w : World) : (callFunc 39 args).run Tryd.prog w = ((ReflectliteValue.set args).run Tryd.prog w).andThen (fun v w' => .ok (.value v) w') := run_callFunc_extern Tryd.func39 (by kernel_rfl) (by kernel_rfl) (by kernel_rfl) (by kernel_rfl) args w

/-! the library's entries, at these types -/
theorem Tryd.valueOfE (t : Addr) (w : World) : (callFunc 31 #[.iface 58 (.pointer (some t))]).run Tryd.prog w = .ok (.value (rval 58 ⟨w.heap.size, 0, none⟩ 150)) (w.alloc (.cells #[.pointer (some t)] 58)) := (Tryd.xValueOf _ _).trans (by kernel_rfl)
theorem Tryd.valueOfF (t : Addr) (w : World) : (callFunc 31 #[.iface 60 (.pointer (some t))]).run Tryd.prog w = .ok (.value (rval 60 ⟨w.heap.size, 0, none⟩ 150)) (w.alloc (.cells #[.pointer (some t)] 60)) := (Tryd.xValueOf _ _).trans (by kernel_rfl)
theorem Tryd.typeE (a : Addr) (w : World) : (callFunc 32 #[rval 58 a 150]).run Tryd.prog w = .ok (.value (typ 58)) w := (Tryd.xType _ _).trans (by kernel_rfl)
theorem Tryd.typeF (a : Addr) (w : World) : (callFunc 32 #[rval 60 a 150]).run Tryd.prog w = .ok (.value (typ 60)) w := (Tryd.xType _ _).trans (by kernel_rfl)
theorem Tryd.methodKind (h : Value) (w : World) : (Go.method 241 82 (.agg #[h]) "Kind").run Tryd.prog w = .ok (66, h) w := by kernel_rfl
theorem Tryd.methodElem (h : Value) (w : World) : (Go.method 241 82 (.agg #[h]) "Elem").run Tryd.prog w = .ok (78, .agg #[h]) w := by kernel_rfl
theorem Tryd.methodImplements (h : Value) (w : World) : (Go.method 241 82 (.agg #[h]) "Implements").run Tryd.prog w = .ok (79, .agg #[h]) w := by kernel_rfl
theorem Tryd.methodAssignableTo (h : Value) (w : World) : (Go.method 241 82 (.agg #[h]) "AssignableTo").run Tryd.prog w = .ok (76, .agg #[h]) w := by kernel_rfl
theorem Tryd.kindPE (w : World) : (callFunc 66 #[hdl 58]).run Tryd.prog w = .ok (.value (.int .u8 22)) w := (Tryd.xKind _ _).trans (by kernel_rfl)
theorem Tryd.kindPF (w : World) : (callFunc 66 #[hdl 60]).run Tryd.prog w = .ok (.value (.int .u8 22)) w := (Tryd.xKind _ _).trans (by kernel_rfl)
theorem Tryd.kindE (w : World) : (callFunc 66 #[hdl 49]).run Tryd.prog w = .ok (.value (.int .u8 2)) w := (Tryd.xKind _ _).trans (by kernel_rfl)
theorem Tryd.kindF (w : World) : (callFunc 66 #[hdl 59]).run Tryd.prog w = .ok (.value (.int .u8 22)) w := (Tryd.xKind _ _).trans (by kernel_rfl)
theorem Tryd.kindJ (w : World) : (callFunc 66 #[hdl 91]).run Tryd.prog w = .ok (.value (.int .u8 20)) w := (Tryd.xKind _ _).trans (by kernel_rfl)
theorem Tryd.elemPE (w : World) : (callFunc 78 #[.agg #[hdl 58]]).run Tryd.prog w = .ok (.value (typ 49)) w := (Tryd.xElemT _ _).trans (by kernel_rfl)
theorem Tryd.elemPF (w : World) : (callFunc 78 #[.agg #[hdl 60]]).run Tryd.prog w = .ok (.value (typ 59)) w := (Tryd.xElemT _ _).trans (by kernel_rfl)
theorem Tryd.implE (w : World) : (callFunc 79 #[.agg #[hdl 49], typ 24]).run Tryd.prog w = .ok (.value (.bool true)) w := (Tryd.xImpl _ _).trans (by kernel_rfl)
theorem Tryd.implF (w : World) : (callFunc 79 #[.agg #[hdl 59], typ 24]).run Tryd.prog w = .ok (.value (.bool true)) w := (Tryd.xImpl _ _).trans (by kernel_rfl)
theorem Tryd.callTypeOfFault (v : Value) (w : World) : (callFunc 35 #[.iface 59 v]).run Tryd.prog w = .ok (.value (typ 59)) w := by kernel_rfl
theorem Tryd.assFE (w : World) : (callFunc 76 #[.agg #[hdl 59], typ 49]).run Tryd.prog w = .ok (.value (.bool false)) w := (Tryd.xAss _ _).trans (by kernel_rfl)
theorem Tryd.assEE (w : World) : (callFunc 76 #[.agg #[hdl 49], typ 49]).run Tryd.prog w = .ok (.value (.bool true)) w := (Tryd.xAss _ _).trans (by kernel_rfl)
theorem Tryd.assFF (w : World) : (callFunc 76 #[.agg #[hdl 59], typ 59]).run Tryd.prog w = .ok (.value (.bool true)) w := (Tryd.xAss _ _).trans (by kernel_rfl)
/-- A type that lacks a method of the interface T does not implement it. -/
theorem run_implements_lacks {P : Program} {w : World} {T V U : TypeId} {want : Array (String × TypeId)} {iT iV iU : TypeInfo}
    (h1 : ∀ s, (Rtype.noPackMethods s V).run P w = .ok () w) (h2 : ∀ s, (Rtype.noPackMethods s T).run P w = .ok () w)
    (hT : (Rtype.under T).run P w = .ok (T, iT) w) (hTd : iT.desc = .interface want)
    (hV : (Rtype.under V).run P w = .ok (U, iU) w) (hVd : iU.desc = .int .i64 ∨ ∃ x, iU.desc = .pointer x) (hi : P.info? V = some iV) (hl : lacking want iV.methods ≠ []) :
    (Rtype.implements T V).run P w = .ok false w := by
  obtain ⟨m, hm⟩ := missingMethod_some hl
  rcases hVd with hVd | ⟨x, hVd⟩ <;> simp [Rtype.implements, h1, h2, hT, hV, hTd, hVd, typeInfo, hi, hm]
theorem infoJ : ∃ i, Tryd.prog.info? 91 = some i ∧ i.desc = .interface #[("Unwrap", 93)] := by
  have h : (Tryd.prog.info? 91).map (·.desc) = some (.interface #[("Unwrap", 93)]) := by kernel_rfl
  exact Option.map_eq_some_iff.1 h
theorem underJ (w : World) : ∃ i, (Rtype.under 91).run Tryd.prog w = .ok (91, i) w ∧ i.desc = .interface #[("Unwrap", 93)] := by
  obtain ⟨i, hi, hd⟩ := infoJ
  exact ⟨i, by simp [Rtype.under, typeInfo, hi, hd], hd⟩
theorem implJE (w : World) : (Rtype.implements 91 49).run Tryd.prog w = .ok false w := by
  obtain ⟨iT, hT, hTd⟩ := underJ w
  obtain ⟨iV, hi, hd, hl⟩ : ∃ i, Tryd.prog.info? 49 = some i ∧ i.desc = .named "credenza/api.Errno" 3 ∧ (lacking #[("Unwrap", 93)] i.methods).isEmpty = false := by
    have h : (Tryd.prog.info? 49).map (fun i => (i.desc, (lacking #[("Unwrap", 93)] i.methods).isEmpty)) = some (.named "credenza/api.Errno" 3, false) := by kernel_rfl
    obtain ⟨i, hi, h⟩ := Option.map_eq_some_iff.1 h
    exact ⟨i, hi, (Prod.mk.inj h).1, (Prod.mk.inj h).2⟩
  obtain ⟨iU, hu, hud⟩ : ∃ i, Tryd.prog.info? 3 = some i ∧ i.desc = .int .i64 := by
    have h : (Tryd.prog.info? 3).map (·.desc) = some (.int .i64) := by kernel_rfl
    exact Option.map_eq_some_iff.1 h
  exact run_implements_lacks (fun s => by kernel_rfl) (fun s => by kernel_rfl) hT hTd (U := 3) (iU := iU) (by simp [Rtype.under, typeInfo, hi, hd, hu]) (Or.inl hud) hi (fun e => by rw [e] at hl; cases hl)
theorem implJF (w : World) : (Rtype.implements 91 59).run Tryd.prog w = .ok false w := by
  obtain ⟨iT, hT, hTd⟩ := underJ w
  obtain ⟨iV, hi, hd, hl⟩ : ∃ i, Tryd.prog.info? 59 = some i ∧ i.desc = .pointer 62 ∧ (lacking #[("Unwrap", 93)] i.methods).isEmpty = false := by
    have h : (Tryd.prog.info? 59).map (fun i => (i.desc, (lacking #[("Unwrap", 93)] i.methods).isEmpty)) = some (.pointer 62, false) := by kernel_rfl
    obtain ⟨i, hi, h⟩ := Option.map_eq_some_iff.1 h
    exact ⟨i, hi, (Prod.mk.inj h).1, (Prod.mk.inj h).2⟩
  exact run_implements_lacks (fun s => by kernel_rfl) (fun s => by kernel_rfl) hT hTd (U := 59) (iU := iV) (by simp [Rtype.under, typeInfo, hi, hd]) (Or.inr ⟨_, hd⟩) hi (fun e => by rw [e] at hl; cases hl)
theorem relation_eq (s : String) (f : TypeId → TypeId → Sem Bool) (r u : Value) (t : TypeId) : ReflectliteType.relation s f #[r, .iface t u] = (do pure (.bool (← f (← ReflectliteType.ofRtype u) (← ReflectliteType.ofRtype r)))) := rfl
theorem assignable_lacks {P : Program} {w : World} {T V : TypeId} (hne : T ≠ V) (h1 : ∀ s, (Rtype.noPackMethods s V).run P w = .ok () w) (h2 : ∀ s, (Rtype.noPackMethods s T).run P w = .ok () w)
    (hd : (Rtype.directlyAssignable T V).run P w = .ok false w) (hi : (Rtype.implements T V).run P w = .ok false w) : (ReflectliteType.assignableTo T V).run P w = .ok false w := by
  simp [ReflectliteType.assignableTo, hne, h1, h2, hd, hi]
theorem Tryd.assEJ (w : World) : (callFunc 76 #[.agg #[hdl 49], typ 91]).run Tryd.prog w = .ok (.value (.bool false)) w := by
  have e1 : (ReflectliteType.ofRtype (.agg #[hdl 49])).run Tryd.prog w = .ok 49 w := by kernel_rfl
  have e2 : (ReflectliteType.ofRtype (.agg #[hdl 91])).run Tryd.prog w = .ok 91 w := by kernel_rfl
  have ha : (ReflectliteType.assignableTo 91 49).run Tryd.prog w = .ok false w := assignable_lacks (by decide) (fun s => by kernel_rfl) (fun s => by kernel_rfl) (by kernel_rfl) (implJE w)
  rw [Tryd.xAss _ _, relation_eq]
  simp only [Sem.run_bind, e1, e2, ha, Result.andThen, Sem.run_pure]
theorem Tryd.assFJ (w : World) : (callFunc 76 #[.agg #[hdl 59], typ 91]).run Tryd.prog w = .ok (.value (.bool false)) w := by
  have e1 : (ReflectliteType.ofRtype (.agg #[hdl 59])).run Tryd.prog w = .ok 59 w := by kernel_rfl
  have e2 : (ReflectliteType.ofRtype (.agg #[hdl 91])).run Tryd.prog w = .ok 91 w := by kernel_rfl
  have ha : (ReflectliteType.assignableTo 91 59).run Tryd.prog w = .ok false w := assignable_lacks (by decide) (fun s => by kernel_rfl) (fun s => by kernel_rfl) (by kernel_rfl) (implJF w)
  rw [Tryd.xAss _ _, relation_eq]
  simp only [Sem.run_bind, e1, e2, ha, Result.andThen, Sem.run_pure]
theorem Tryd.valueOfNum (n : Int) (w : World) : (callFunc 31 #[num n]).run Tryd.prog w = .ok (.value (rval 49 ⟨w.heap.size, 0, none⟩ 130)) (w.alloc (.cells #[.int .i64 n] 49)) := (Tryd.xValueOf _ _).trans (by kernel_rfl)
theorem Tryd.valueOfFault (v : Addr) (w : World) : (callFunc 31 #[.iface 59 (.pointer (some v))]).run Tryd.prog w = .ok (.value (rval 59 ⟨w.heap.size, 0, none⟩ 150)) (w.alloc (.cells #[.pointer (some v)] 59)) := (Tryd.xValueOf _ _).trans (by kernel_rfl)
theorem Tryd.asFault (v : Value) (xT : TypeId) (w : World) : (Instr.typeAssert (.iface 59 v) xT 86 true).run Tryd.prog w = .ok (.tuple #[.nilIface, .bool false]) w := run_typeAssert_lacksB Tryd.underlying86 (by kernel_rfl) (by kernel_rfl) v xT w
theorem Tryd.asNum (v : Value) (xT : TypeId) (w : World) : (Instr.typeAssert (.iface 49 v) xT 86 true).run Tryd.prog w = .ok (.tuple #[.nilIface, .bool false]) w := run_typeAssert_lacksB Tryd.underlying86 (by kernel_rfl) (by kernel_rfl) v xT w
end Go.Proofs.YtahehgbibmmaeaaDoor
