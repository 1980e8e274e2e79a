/- errors.As of a chain of Faults above an Errno (or above nothing), for the three kinds of targets that the program hands it: *Errno finds the number at the bottom, **Fault the outmost Fault, and a target of the kind interface with Unwrap() []error finds nothing in an Errno. -/
import Derived.Test.YtbagncolhckhjaaDoorIs
namespace Go.Proofs.YtbagncolhckhjaaDoor
open Go.RowKit Go.Extern.Stop Go.Stop Go.Extern
set_option maxRecDepth 100000

/-- errors.As(nil, target) -/
theorem as_nil (t : Value) (w : World) : Calls Tryd.prog 32 #[.nilIface, t] w fun e w' => e = .returned (.bool false) ∧ w' = w := by
  go_enter Tryd.func32, Tryd.ntmps32
  go_wp2
  go_ret
  exact ⟨rfl, rfl⟩

abbrev hdl (t : TypeId) : Value := .pointer (some ⟨4, t, none⟩)
abbrev typ (t : TypeId) : Value := .iface 107 (.agg #[hdl t])
abbrev rval (t : TypeId) (a : Addr) (fl : Int) : Value := .agg #[hdl t, .pointer (some a), .int .u64 fl]

/-! each entry found once -/
theorem Tryd.xValueOf (args : Array Value) (w : World) : (callFunc 40 args).run Tryd.prog w = ((ReflectliteValue.unpack (args.getD 0 (.tuple #[]))).run Tryd.prog w).andThen (fun v w' => .ok (.value v) w') := run_callFunc_extern (e := fun args => ReflectliteValue.unpack (args.getD 0 (.tuple #[]))) Tryd.func40 (by kernel_rfl) (by kernel_rfl) (by kernel_rfl) (by kernel_rfl) args w
theorem Tryd.xType (args : Array Value) (w : World) : (callFunc 41 args).run Tryd.prog w = (((ReflectliteValue.methodAny (ReflectliteValue.valueError "reflectlite.Value.Type" 0) (fun t _ _ _ => ReflectliteType.toType t)) args).run Tryd.prog w).andThen (fun v w' => .ok (.value v) w') := run_callFunc_extern Tryd.func41 (by kernel_rfl) (by kernel_rfl) (by kernel_rfl) (by kernel_rfl) args w
theorem Tryd.xIsNil (args : Array Value) (w : World) : (callFunc 42 args).run Tryd.prog w = (((ReflectliteValue.method (ReflectliteValue.valueError "reflectlite.Value.IsNil" 0) ReflectliteValue.isNil) args).run Tryd.prog w).andThen (fun v w' => .ok (.value v) w') := run_callFunc_extern Tryd.func42 (by kernel_rfl) (by kernel_rfl) (by kernel_rfl) (by kernel_rfl) args w
theorem Tryd.xKind (args : Array Value) (w : World) : (callFunc 87 args).run Tryd.prog w = (((ReflectliteType.abiMethod fun t => do pure (.int .u8 (← Rtype.kind t))) args).run Tryd.prog w).andThen (fun v w' => .ok (.value v) w') := run_callFunc_extern Tryd.func87 (by kernel_rfl) (by kernel_rfl) (by kernel_rfl) (by kernel_rfl) args w
theorem Tryd.xElemT (args : Array Value) (w : World) : (callFunc 99 args).run Tryd.prog w = (((ReflectliteType.method ReflectliteType.elem) args).run Tryd.prog w).andThen (fun v w' => .ok (.value v) w') := run_callFunc_extern Tryd.func99 (by kernel_rfl) (by kernel_rfl) (by kernel_rfl) (by kernel_rfl) args w
theorem Tryd.xImpl (args : Array Value) (w : World) : (callFunc 100 args).run Tryd.prog w = (((ReflectliteType.relation "Implements" ReflectliteType.implements_) args).run Tryd.prog w).andThen (fun v w' => .ok (.value v) w') := run_callFunc_extern Tryd.func100 (by kernel_rfl) (by kernel_rfl) (by kernel_rfl) (by kernel_rfl) args w
theorem Tryd.xAss (args : Array Value) (w : World) : (callFunc 97 args).run Tryd.prog w = (((ReflectliteType.relation "AssignableTo" ReflectliteType.assignableTo) args).run Tryd.prog w).andThen (fun v w' => .ok (.value v) w') := run_callFunc_extern Tryd.func97 (by kernel_rfl) (by kernel_rfl) (by kernel_rfl) (by kernel_rfl) args w
theorem Tryd.xElemV (args : Array Value) (w : World) : (callFunc 56 args).run Tryd.prog w = (((ReflectliteValue.method (ReflectliteValue.valueError "reflectlite.Value.Elem" 0) ReflectliteValue.elem) args).run Tryd.prog w).andThen (fun v w' => .ok (.value v) w') := run_callFunc_extern Tryd.func56 (by kernel_rfl) (by kernel_rfl) (by kernel_rfl) (by kernel_rfl) args w
theorem Tryd.xSet (args : Array Value) (w : World) : (callFunc 57 args).run Tryd.prog w = ((ReflectliteValue.set args).run Tryd.prog w).andThen (fun v w' => .ok (.value v) w') := run_callFunc_extern Tryd.func57 (by kernel_rfl) (by kernel_rfl) (by kernel_rfl) (by kernel_rfl) args w

/-! the library's entries, at these types -/
theorem Tryd.valueOfE (t : Addr) (w : World) : (callFunc 40 #[.iface 76 (.pointer (some t))]).run Tryd.prog w = .ok (.value (rval 76 ⟨w.heap.size, 0, none⟩ 150)) (w.alloc (.cells #[.pointer (some t)] 76)) := (Tryd.xValueOf _ _).trans (by kernel_rfl)
theorem Tryd.valueOfF (t : Addr) (w : World) : (callFunc 40 #[.iface 72 (.pointer (some t))]).run Tryd.prog w = .ok (.value (rval 72 ⟨w.heap.size, 0, none⟩ 150)) (w.alloc (.cells #[.pointer (some t)] 72)) := (Tryd.xValueOf _ _).trans (by kernel_rfl)
theorem Tryd.typeE (a : Addr) (w : World) : (callFunc 41 #[rval 76 a 150]).run Tryd.prog w = .ok (.value (typ 76)) w := (Tryd.xType _ _).trans (by kernel_rfl)
theorem Tryd.typeF (a : Addr) (w : World) : (callFunc 41 #[rval 72 a 150]).run Tryd.prog w = .ok (.value (typ 72)) w := (Tryd.xType _ _).trans (by kernel_rfl)
theorem Tryd.methodKind (h : Value) (w : World) : (Go.method 268 107 (.agg #[h]) "Kind").run Tryd.prog w = .ok (87, h) w := by kernel_rfl
theorem Tryd.methodElem (h : Value) (w : World) : (Go.method 268 107 (.agg #[h]) "Elem").run Tryd.prog w = .ok (99, .agg #[h]) w := by kernel_rfl
theorem Tryd.methodImplements (h : Value) (w : World) : (Go.method 268 107 (.agg #[h]) "Implements").run Tryd.prog w = .ok (100, .agg #[h]) w := by kernel_rfl
theorem Tryd.methodAssignableTo (h : Value) (w : World) : (Go.method 268 107 (.agg #[h]) "AssignableTo").run Tryd.prog w = .ok (97, .agg #[h]) w := by kernel_rfl
theorem Tryd.kindPE (w : World) : (callFunc 87 #[hdl 76]).run Tryd.prog w = .ok (.value (.int .u8 22)) w := (Tryd.xKind _ _).trans (by kernel_rfl)
theorem Tryd.kindPF (w : World) : (callFunc 87 #[hdl 72]).run Tryd.prog w = .ok (.value (.int .u8 22)) w := (Tryd.xKind _ _).trans (by kernel_rfl)
theorem Tryd.kindE (w : World) : (callFunc 87 #[hdl 61]).run Tryd.prog w = .ok (.value (.int .u8 2)) w := (Tryd.xKind _ _).trans (by kernel_rfl)
theorem Tryd.kindF (w : World) : (callFunc 87 #[hdl 70]).run Tryd.prog w = .ok (.value (.int .u8 22)) w := (Tryd.xKind _ _).trans (by kernel_rfl)
theorem Tryd.kindJ (w : World) : (callFunc 87 #[hdl 115]).run Tryd.prog w = .ok (.value (.int .u8 20)) w := (Tryd.xKind _ _).trans (by kernel_rfl)
theorem Tryd.elemPE (w : World) : (callFunc 99 #[.agg #[hdl 76]]).run Tryd.prog w = .ok (.value (typ 61)) w := (Tryd.xElemT _ _).trans (by kernel_rfl)
theorem Tryd.elemPF (w : World) : (callFunc 99 #[.agg #[hdl 72]]).run Tryd.prog w = .ok (.value (typ 70)) w := (Tryd.xElemT _ _).trans (by kernel_rfl)
theorem Tryd.implE (w : World) : (callFunc 100 #[.agg #[hdl 61], typ 25]).run Tryd.prog w = .ok (.value (.bool true)) w := (Tryd.xImpl _ _).trans (by kernel_rfl)
theorem Tryd.implF (w : World) : (callFunc 100 #[.agg #[hdl 70], typ 25]).run Tryd.prog w = .ok (.value (.bool true)) w := (Tryd.xImpl _ _).trans (by kernel_rfl)
theorem Tryd.callTypeOfFault (v : Value) (w : World) : (callFunc 44 #[.iface 70 v]).run Tryd.prog w = .ok (.value (typ 70)) w := by kernel_rfl
theorem Tryd.assFE (w : World) : (callFunc 97 #[.agg #[hdl 70], typ 61]).run Tryd.prog w = .ok (.value (.bool false)) w := (Tryd.xAss _ _).trans (by kernel_rfl)
theorem Tryd.assEE (w : World) : (callFunc 97 #[.agg #[hdl 61], typ 61]).run Tryd.prog w = .ok (.value (.bool true)) w := (Tryd.xAss _ _).trans (by kernel_rfl)
theorem Tryd.assFF (w : World) : (callFunc 97 #[.agg #[hdl 70], typ 70]).run Tryd.prog w = .ok (.value (.bool true)) w := (Tryd.xAss _ _).trans (by kernel_rfl)
/-- A type that lacks a method of the interface T does not implement it. -/
theorem run_implements_lacks {P : Program} {w : World} {T V U : TypeId} {want : Array (String × TypeId)} {iT iV iU : TypeInfo}
    (h1 : ∀ s, (Rtype.noPackMethods s V).run P w = .ok () w) (h2 : ∀ s, (Rtype.noPackMethods s T).run P w = .ok () w)
    (hT : (Rtype.under T).run P w = .ok (T, iT) w) (hTd : iT.desc = .interface want)
    (hV : (Rtype.under V).run P w = .ok (U, iU) w) (hVd : iU.desc = .int .i64 ∨ ∃ x, iU.desc = .pointer x) (hi : P.info? V = some iV) (hl : lacking want iV.methods ≠ []) :
    (Rtype.implements T V).run P w = .ok false w := by
  obtain ⟨m, hm⟩ := missingMethod_some hl
  rcases hVd with hVd | ⟨x, hVd⟩ <;> simp [Rtype.implements, h1, h2, hT, hV, hTd, hVd, typeInfo, hi, hm]
theorem infoJ : ∃ i, Tryd.prog.info? 115 = some i ∧ i.desc = .interface #[("Unwrap", 117)] := by
  have h : (Tryd.prog.info? 115).map (·.desc) = some (.interface #[("Unwrap", 117)]) := by kernel_rfl
  exact Option.map_eq_some_iff.1 h
theorem underJ (w : World) : ∃ i, (Rtype.under 115).run Tryd.prog w = .ok (115, i) w ∧ i.desc = .interface #[("Unwrap", 117)] := by
  obtain ⟨i, hi, hd⟩ := infoJ
  exact ⟨i, by simp [Rtype.under, typeInfo, hi, hd], hd⟩
theorem implJE (w : World) : (Rtype.implements 115 61).run Tryd.prog w = .ok false w := by
  obtain ⟨iT, hT, hTd⟩ := underJ w
  obtain ⟨iV, hi, hd, hl⟩ : ∃ i, Tryd.prog.info? 61 = some i ∧ i.desc = .named "credenza/api.Errno" 3 ∧ (lacking #[("Unwrap", 117)] i.methods).isEmpty = false := by
    have h : (Tryd.prog.info? 61).map (fun i => (i.desc, (lacking #[("Unwrap", 117)] i.methods).isEmpty)) = some (.named "credenza/api.Errno" 3, false) := by kernel_rfl
    obtain ⟨i, hi, h⟩ := Option.map_eq_some_iff.1 h
    exact ⟨i, hi, (Prod.mk.inj h).1, (Prod.mk.inj h).2⟩
  obtain ⟨iU, hu, hud⟩ : ∃ i, Tryd.prog.info? 3 = some i ∧ i.desc = .int .i64 := by
    have h : (Tryd.prog.info? 3).map (·.desc) = some (.int .i64) := by kernel_rfl
    exact Option.map_eq_some_iff.1 h
  exact run_implements_lacks (fun s => by kernel_rfl) (fun s => by kernel_rfl) hT hTd (U := 3) (iU := iU) (by simp [Rtype.under, typeInfo, hi, hd, hu]) (Or.inl hud) hi (fun e => by rw [e] at hl; cases hl)
theorem implJF (w : World) : (Rtype.implements 115 70).run Tryd.prog w = .ok false w := by
  obtain ⟨iT, hT, hTd⟩ := underJ w
  obtain ⟨iV, hi, hd, hl⟩ : ∃ i, Tryd.prog.info? 70 = some i ∧ i.desc = .pointer 74 ∧ (lacking #[("Unwrap", 117)] i.methods).isEmpty = false := by
    have h : (Tryd.prog.info? 70).map (fun i => (i.desc, (lacking #[("Unwrap", 117)] i.methods).isEmpty)) = some (.pointer 74, false) := by kernel_rfl
    obtain ⟨i, hi, h⟩ := Option.map_eq_some_iff.1 h
    exact ⟨i, hi, (Prod.mk.inj h).1, (Prod.mk.inj h).2⟩
  exact run_implements_lacks (fun s => by kernel_rfl) (fun s => by kernel_rfl) hT hTd (U := 70) (iU := iV) (by simp [Rtype.under, typeInfo, hi, hd]) (Or.inr ⟨_, hd⟩) hi (fun e => by rw [e] at hl; cases hl)
theorem relation_eq (s : String) (f : TypeId → TypeId → Sem Bool) (r u : Value) (t : TypeId) : ReflectliteType.relation s f #[r, .iface t u] = (do pure (.bool (← f (← ReflectliteType.ofRtype u) (← ReflectliteType.ofRtype r)))) := rfl
theorem assignable_lacks {P : Program} {w : World} {T V : TypeId} (hne : T ≠ V) (h1 : ∀ s, (Rtype.noPackMethods s V).run P w = .ok () w) (h2 : ∀ s, (Rtype.noPackMethods s T).run P w = .ok () w)
    (hd : (Rtype.directlyAssignable T V).run P w = .ok false w) (hi : (Rtype.implements T V).run P w = .ok false w) : (ReflectliteType.assignableTo T V).run P w = .ok false w := by
  simp [ReflectliteType.assignableTo, hne, h1, h2, hd, hi]
theorem Tryd.assEJ (w : World) : (callFunc 97 #[.agg #[hdl 61], typ 115]).run Tryd.prog w = .ok (.value (.bool false)) w := by
  have e1 : (ReflectliteType.ofRtype (.agg #[hdl 61])).run Tryd.prog w = .ok 61 w := by kernel_rfl
  have e2 : (ReflectliteType.ofRtype (.agg #[hdl 115])).run Tryd.prog w = .ok 115 w := by kernel_rfl
  have ha : (ReflectliteType.assignableTo 115 61).run Tryd.prog w = .ok false w := assignable_lacks (by decide) (fun s => by kernel_rfl) (fun s => by kernel_rfl) (by kernel_rfl) (implJE w)
  rw [Tryd.xAss _ _, relation_eq]
  simp only [Sem.run_bind, e1, e2, ha, Result.andThen, Sem.run_pure]
theorem Tryd.assFJ (w : World) : (callFunc 97 #[.agg #[hdl 70], typ 115]).run Tryd.prog w = .ok (.value (.bool false)) w := by
  have e1 : (ReflectliteType.ofRtype (.agg #[hdl 70])).run Tryd.prog w = .ok 70 w := by kernel_rfl
  have e2 : (ReflectliteType.ofRtype (.agg #[hdl 115])).run Tryd.prog w = .ok 115 w := by kernel_rfl
  have ha : (ReflectliteType.assignableTo 115 70).run Tryd.prog w = .ok false w := assignable_lacks (by decide) (fun s => by kernel_rfl) (fun s => by kernel_rfl) (by kernel_rfl) (implJF w)
  rw [Tryd.xAss _ _, relation_eq]
  simp only [Sem.run_bind, e1, e2, ha, Result.andThen, Sem.run_pure]
theorem Tryd.valueOfNum (n : Int) (w : World) : (callFunc 40 #[num n]).run Tryd.prog w = .ok (.value (rval 61 ⟨w.heap.size, 0, none⟩ 130)) (w.alloc (.cells #[.int .i64 n] 61)) := (Tryd.xValueOf _ _).trans (by kernel_rfl)
theorem Tryd.valueOfFault (v : Addr) (w : World) : (callFunc 40 #[.iface 70 (.pointer (some v))]).run Tryd.prog w = .ok (.value (rval 70 ⟨w.heap.size, 0, none⟩ 150)) (w.alloc (.cells #[.pointer (some v)] 70)) := (Tryd.xValueOf _ _).trans (by kernel_rfl)
theorem Tryd.asFault (v : Value) (xT : TypeId) (w : World) : (Instr.typeAssert (.iface 70 v) xT 111 true).run Tryd.prog w = .ok (.tuple #[.nilIface, .bool false]) w := run_typeAssert_lacksB Tryd.underlying111 (by kernel_rfl) (by kernel_rfl) v xT w
theorem Tryd.asNum (v : Value) (xT : TypeId) (w : World) : (Instr.typeAssert (.iface 61 v) xT 111 true).run Tryd.prog w = .ok (.tuple #[.nilIface, .bool false]) w := run_typeAssert_lacksB Tryd.underlying111 (by kernel_rfl) (by kernel_rfl) v xT w
end Go.Proofs.YtbagncolhckhjaaDoor
