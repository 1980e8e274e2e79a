/- errors.As of a chain of Faults above an Errno (or above nothing), for the three kinds of targets that the program hands it: *Errno finds the number at the bottom, **Fault the outmost Fault, and a target of the kind interface with Unwrap() []error finds nothing in an Errno. -/
import Derived.Test.YtleafmdjhmnjmaaGreatDoorIsp
namespace Go.Proofs.YtleafmdjhmnjmaaGreatDoor
open Go.RowKit Go.Extern.Stop Go.Stop Go.Extern
set_option maxRecDepth 100000
set_option maxHeartbeats 2000000
abbrev hdl (t : TypeId) : Value := .pointer (some ⟨5, t, none⟩)
abbrev typ (t : TypeId) : Value := .iface 144 (.agg #[hdl t])
abbrev rval (t : TypeId) (a : Addr) (fl : Int) : Value := .agg #[hdl t, .pointer (some a), .int .u64 fl]
/-! each entry found once -/
theorem Tryz.xValueOf (args : Array Value) (w : World) : (callFunc 50 args).run Tryz.prog w = ((ReflectliteValue.unpack (args.getD 0 (.tuple #[]))).run Tryz.prog w).andThen (fun v w' => .ok (.value v) w') := run_callFunc_extern (e := fun args => ReflectliteValue.unpack (args.getD 0 (.tuple #[]))) Tryz.func50 (by kernel_rfl) (by kernel_rfl) (by kernel_rfl) (by kernel_rfl) args w
theorem Tryz.xType (args : Array Value) (w : World) : (callFunc 51 args).run Tryz.prog w = (((ReflectliteValue.methodAny (ReflectliteValue.valueError "reflectlite.Value.Type" 0) (fun t _ _ _ => ReflectliteType.toType t)) args).run Tryz.prog w).andThen (fun v w' => .ok (.value v) w') := run_callFunc_extern Tryz.func51 (by kernel_rfl) (by kernel_rfl) (by kernel_rfl) (by kernel_rfl) args w
theorem Tryz.xIsNil (args : Array Value) (w : World) : (callFunc 52 args).run Tryz.prog w = (((ReflectliteValue.method (ReflectliteValue.valueError "reflectlite.Value.IsNil" 0) ReflectliteValue.isNil) args).run Tryz.prog w).andThen (fun v w' => .ok (.value v) w') := run_callFunc_extern Tryz.func52 (by kernel_rfl) (by kernel_rfl) (by kernel_rfl) (by kernel_rfl) args w
theorem Tryz.xKind (args : Array Value) (w : World) : (callFunc 319 args).run Tryz.prog w = (((ReflectliteType.abiMethod fun t => do pure (.int .u8 (<- Rtype.kind t))) args).run Tryz.prog w).andThen (fun v w' => .ok (.value v) w') := run_callFunc_extern Tryz.func319 (by kernel_rfl) (by kernel_rfl) (by kernel_rfl) (by kernel_rfl) args w
theorem Tryz.xElemT (args : Array Value) (w : World) : (callFunc 334 args).run Tryz.prog w = (((ReflectliteType.method ReflectliteType.elem) args).run Tryz.prog w).andThen (fun v w' => .ok (.value v) w') := run_callFunc_extern Tryz.func334 (by kernel_rfl) (by kernel_rfl) (by kernel_rfl) (by kernel_rfl) args w
theorem Tryz.xImpl (args : Array Value) (w : World) : (callFunc 335 args).run Tryz.prog w = (((ReflectliteType.relation "Implements" ReflectliteType.implements_) args).run Tryz.prog w).andThen (fun v w' => .ok (.value v) w') := run_callFunc_extern Tryz.func335 (by kernel_rfl) (by kernel_rfl) (by kernel_rfl) (by kernel_rfl) args w
theorem Tryz.xAss (args : Array Value) (w : World) : (callFunc 332 args).run Tryz.prog w = (((ReflectliteType.relation "AssignableTo" ReflectliteType.assignableTo) args).run Tryz.prog w).andThen (fun v w' => .ok (.value v) w') := run_callFunc_extern Tryz.func332 (by kernel_rfl) (by kernel_rfl) (by kernel_rfl) (by kernel_rfl) args w
theorem Tryz.xElemV (args : Array Value) (w : World) : (callFunc 97 args).run Tryz.prog w = (((ReflectliteValue.method (ReflectliteValue.valueError "reflectlite.Value.Elem" 0) ReflectliteValue.elem) args).run Tryz.prog w).andThen (fun v w' => .ok (.value v) w') := run_callFunc_extern Tryz.func97 (by kernel_rfl) (by kernel_rfl) (by kernel_rfl) (by kernel_rfl) args w
theorem Tryz.xSet (args : Array Value) (w : World) : (callFunc 98 args).run Tryz.prog w = ((ReflectliteValue.set args).run Tryz.prog w).andThen (fun v w' => .ok (.value v) w') := run_callFunc_extern Tryz.func98 (by kernel_rfl) (by kernel_rfl) (by kernel_rfl) (by kernel_rfl) args w
/-! the library's entries, at these types -/
theorem Tryz.valueOfE (t : Addr) (w : World) : (callFunc 50 #[.iface 64 (.pointer (some t))]).run Tryz.prog w = .ok (.value (rval 64 ⟨w.heap.size, 0, none⟩ 150)) (w.alloc (.cells #[.pointer (some t)] 64)) := (Tryz.xValueOf _ _).trans (by kernel_rfl)
theorem Tryz.valueOfF (t : Addr) (w : World) : (callFunc 50 #[.iface 66 (.pointer (some t))]).run Tryz.prog w = .ok (.value (rval 66 ⟨w.heap.size, 0, none⟩ 150)) (w.alloc (.cells #[.pointer (some t)] 66)) := (Tryz.xValueOf _ _).trans (by kernel_rfl)
theorem Tryz.typeE (a : Addr) (w : World) : (callFunc 51 #[rval 64 a 150]).run Tryz.prog w = .ok (.value (typ 64)) w := (Tryz.xType _ _).trans (by kernel_rfl)
theorem Tryz.typeF (a : Addr) (w : World) : (callFunc 51 #[rval 66 a 150]).run Tryz.prog w = .ok (.value (typ 66)) w := (Tryz.xType _ _).trans (by kernel_rfl)
theorem Tryz.methodKind (h : Value) (w : World) : (Go.method 477 144 (.agg #[h]) "Kind").run Tryz.prog w = .ok (319, h) w := by kernel_rfl
theorem Tryz.methodElem (h : Value) (w : World) : (Go.method 477 144 (.agg #[h]) "Elem").run Tryz.prog w = .ok (334, .agg #[h]) w := by kernel_rfl
theorem Tryz.methodImplements (h : Value) (w : World) : (Go.method 477 144 (.agg #[h]) "Implements").run Tryz.prog w = .ok (335, .agg #[h]) w := by kernel_rfl
theorem Tryz.methodAssignableTo (h : Value) (w : World) : (Go.method 477 144 (.agg #[h]) "AssignableTo").run Tryz.prog w = .ok (332, .agg #[h]) w := by kernel_rfl
theorem Tryz.kindPE (w : World) : (callFunc 319 #[hdl 64]).run Tryz.prog w = .ok (.value (.int .u8 22)) w := (Tryz.xKind _ _).trans (by kernel_rfl)
theorem Tryz.kindPF (w : World) : (callFunc 319 #[hdl 66]).run Tryz.prog w = .ok (.value (.int .u8 22)) w := (Tryz.xKind _ _).trans (by kernel_rfl)
theorem Tryz.kindE (w : World) : (callFunc 319 #[hdl 62]).run Tryz.prog w = .ok (.value (.int .u8 2)) w := (Tryz.xKind _ _).trans (by kernel_rfl)
theorem Tryz.kindF (w : World) : (callFunc 319 #[hdl 65]).run Tryz.prog w = .ok (.value (.int .u8 22)) w := (Tryz.xKind _ _).trans (by kernel_rfl)
theorem Tryz.elemPE (w : World) : (callFunc 334 #[.agg #[hdl 64]]).run Tryz.prog w = .ok (.value (typ 62)) w := (Tryz.xElemT _ _).trans (by kernel_rfl)
theorem Tryz.elemPF (w : World) : (callFunc 334 #[.agg #[hdl 66]]).run Tryz.prog w = .ok (.value (typ 65)) w := (Tryz.xElemT _ _).trans (by kernel_rfl)
theorem Tryz.implE (w : World) : (callFunc 335 #[.agg #[hdl 62], typ 25]).run Tryz.prog w = .ok (.value (.bool true)) w := (Tryz.xImpl _ _).trans (by kernel_rfl)
theorem Tryz.implF (w : World) : (callFunc 335 #[.agg #[hdl 65], typ 25]).run Tryz.prog w = .ok (.value (.bool true)) w := (Tryz.xImpl _ _).trans (by kernel_rfl)
theorem Tryz.callTypeOfFault (v : Value) (w : World) : (callFunc 65 #[.iface 65 v]).run Tryz.prog w = .ok (.value (typ 65)) w := by kernel_rfl
theorem Tryz.assFE (w : World) : (callFunc 332 #[.agg #[hdl 65], typ 62]).run Tryz.prog w = .ok (.value (.bool false)) w := (Tryz.xAss _ _).trans (by kernel_rfl)
theorem Tryz.assEE (w : World) : (callFunc 332 #[.agg #[hdl 62], typ 62]).run Tryz.prog w = .ok (.value (.bool true)) w := (Tryz.xAss _ _).trans (by kernel_rfl)
theorem Tryz.assFF (w : World) : (callFunc 332 #[.agg #[hdl 65], typ 65]).run Tryz.prog w = .ok (.value (.bool true)) w := (Tryz.xAss _ _).trans (by kernel_rfl)
theorem Tryz.valueOfNum (n : Int) (w : World) : (callFunc 50 #[num n]).run Tryz.prog w = .ok (.value (rval 62 ⟨w.heap.size, 0, none⟩ 130)) (w.alloc (.cells #[.int .i64 n] 62)) := (Tryz.xValueOf _ _).trans (by kernel_rfl)
theorem Tryz.valueOfFault (v : Addr) (w : World) : (callFunc 50 #[.iface 65 (.pointer (some v))]).run Tryz.prog w = .ok (.value (rval 65 ⟨w.heap.size, 0, none⟩ 150)) (w.alloc (.cells #[.pointer (some v)] 65)) := (Tryz.xValueOf _ _).trans (by kernel_rfl)
theorem Tryz.asFault (v : Value) (xT : TypeId) (w : World) : (Instr.typeAssert (.iface 65 v) xT 148 true).run Tryz.prog w = .ok (.tuple #[.nilIface, .bool false]) w := run_typeAssert_lacksB Tryz.underlying148 (by kernel_rfl) (by kernel_rfl) v xT w
/-! the entries that read or write memory -/
theorem Tryz.isNilAt (pt et : TypeId) (a p : Addr) (W : World) (hp : (ReflectliteValue.parts (rval pt a 150)).run Tryz.prog W = .ok (some (pt, a, 150)) W) (hu : Tryz.prog.underlying pt = some (.pointer et)) (ha : W.cell? a = some (.pointer (some p))) :
    (callFunc 52 #[rval pt a 150]).run Tryz.prog W = .ok (.value (.bool false)) W := by
  rw [Tryz.xIsNil]
  change Result.andThen (Sem.run Tryz.prog (ReflectliteValue.parts (rval pt a 150) >>= _) W) _ = _
  simp only [Sem.run_bind, hp, Result.andThen]
  simp [ReflectliteValue.isNil, loadVar, isAgg, underlying, hu, ha, Result.andThen]
theorem Tryz.elemAt (pt et : TypeId) (a p : Addr) (fl : Int) (W : World) (hp : (ReflectliteValue.parts (rval pt a 150)).run Tryz.prog W = .ok (some (pt, a, 150)) W) (hu : Tryz.prog.underlying pt = some (.pointer et)) (ha : W.cell? a = some (.pointer (some p)))
    (he : (Rtype.elem? pt).run Tryz.prog W = .ok (some et) W) (hm : (ReflectliteValue.mk et p ReflectliteValue.flagAddr).run Tryz.prog W = .ok (rval et p fl) W) :
    (callFunc 97 #[rval pt a 150]).run Tryz.prog W = .ok (.value (rval et p fl)) W := by
  rw [Tryz.xElemV]
  change Result.andThen (Sem.run Tryz.prog (ReflectliteValue.parts (rval pt a 150) >>= _) W) _ = _
  simp only [Sem.run_bind, hp, Result.andThen]
  simp [ReflectliteValue.elem, loadVar, isAgg, underlying, hu, ha, Result.andThen, he, hm]
theorem Tryz.setAt (dt : TypeId) (ta b : Addr) (f1 f2 : Int) (v : Value) (W : World) (h1 : (ReflectliteValue.parts (rval dt ta f1)).run Tryz.prog W = .ok (some (dt, ta, f1.toNat)) W) (h2 : (ReflectliteValue.parts (rval dt b f2)).run Tryz.prog W = .ok (some (dt, b, f2.toNat)) W)
    (hf : ¬ f1.toNat / ReflectliteValue.flagAddr % 2 = 0) (hl : (loadVar dt b).run Tryz.prog W = .ok v W) (hd : (Rtype.directlyAssignable dt dt).run Tryz.prog W = .ok true W) (hs : (storeVar dt ta v).run Tryz.prog W = .ok () (W.setCell ta v)) :
    (callFunc 98 #[rval dt ta f1, rval dt b f2]).run Tryz.prog W = .ok (.value (.tuple #[])) (W.setCell ta v) := by
  rw [Tryz.xSet]
  change Result.andThen (Sem.run Tryz.prog (ReflectliteValue.parts (rval dt ta f1) >>= fun p => ReflectliteValue.parts (rval dt b f2) >>= _) W) _ = _
  simp only [Sem.run_bind, h1, h2, Result.andThen]
  simp [hf, hl, hd, hs, Result.andThen]
theorem Tryz.partsPE (a : Addr) (w : World) : (ReflectliteValue.parts (rval 64 a 150)).run Tryz.prog w = .ok (some (64, a, 150)) w := by kernel_rfl
theorem Tryz.partsE1 (a : Addr) (w : World) : (ReflectliteValue.parts (rval 62 a 386)).run Tryz.prog w = .ok (some (62, a, 386)) w := by kernel_rfl
theorem Tryz.partsE2 (a : Addr) (w : World) : (ReflectliteValue.parts (rval 62 a 130)).run Tryz.prog w = .ok (some (62, a, 130)) w := by kernel_rfl
theorem Tryz.mkE (p : Addr) (w : World) : (ReflectliteValue.mk 62 p ReflectliteValue.flagAddr).run Tryz.prog w = .ok (rval 62 p 386) w := by kernel_rfl
theorem Tryz.elemOfPE (w : World) : (Rtype.elem? 64).run Tryz.prog w = .ok (some 62) w := by kernel_rfl
theorem Tryz.directE (w : World) : (Rtype.directlyAssignable 62 62).run Tryz.prog w = .ok true w := by kernel_rfl
theorem Tryz.storeE (ta : Addr) (n : Int) (old : Value) (W : World) (ht : W.cell? ta = some old) (hf : W.frozen? ta = false) : (storeVar 62 ta (.int .i64 n)).run Tryz.prog W = .ok () (W.setCell ta (.int .i64 n)) := by
  simp [storeVar, Value.cells, storeCells, Addr.add]
  rw [run_store Tryz.prog W ta _ _ (by rfl)]
  simp [ht, hf]
theorem Tryz.loadE (b : Addr) (n : Int) (W : World) (hb : W.cell? b = some (.int .i64 n)) : (loadVar 62 b).run Tryz.prog W = .ok (.int .i64 n) W := by
  simp [loadVar, isAgg, underlying, Tryz.underlying62, hb, Result.andThen]
abbrev boxed (w : World) (t : TypeId) (a : Addr) : World := w.alloc (.cells #[hdl t, .pointer (some a), .int .u64 150] 106)
theorem asE_low (n : Int) (w : World) (l : List (ByteArray × ByteArray)) (e old : Value) (a t : Addr) (hc : Chain w l (num n) e) (ha : w.cell? a = some (.pointer (some t))) (ht : w.cell? t = some old) (hf : w.frozen? t = false)
    (hal : a.block < w.heap.size) (htl : t.block < w.heap.size) :
    Calls Tryz.prog 53 #[e, .iface 64 (.pointer (some t)), rval 64 a 150, typ 62] w fun ev w' =>
      ev = .returned (.bool true) /\ w' = ((boxed w 64 a).alloc (.cells #[.int .i64 n] 62)).setCell t (.int .i64 n) := by
  have b1 := Tryz.callTypeOfNum
  have b2 := Tryz.callTypeOfFault
  have b3 := Tryz.methodAssignableTo
  have b4 := Tryz.assFE
  have b5 := Tryz.assEE
  have b6 := Tryz.asFault
  have b7 := Tryz.unwrapFault
  have b8 := Tryz.methodUnwrap
  have b9 := Tryz.valueOfNum
  have el := Tryz.elemAt 64 62 a t 386 (boxed w 64 a) (Tryz.partsPE a _) Tryz.underlying64 (by rw [World.cell?_alloc_lt _ _ a hal]; exact ha) (Tryz.elemOfPE _) (Tryz.mkE t _)
  have st := Tryz.setAt 62 t ⟨w.heap.size + 1, 0, none⟩ 386 130 (.int .i64 n) ((boxed w 64 a).alloc (.cells #[.int .i64 n] 62)) (Tryz.partsE1 t _) (Tryz.partsE2 _ _) (by decide) (Tryz.loadE _ n _ (by rw [World.cell?_alloc_at _ _ _ _ (by simp)]; rfl)) (Tryz.directE _)
    (Tryz.storeE t n old _ (by rw [World.cell?_alloc_lt _ _ t (by simp; omega), World.cell?_alloc_lt _ _ t htl]; exact ht) (by rw [World.frozen?_alloc_old _ _ t (by simp; omega), World.frozen?_alloc_old _ _ t (Nat.ne_of_lt htl)]; exact hf))
  have hB : Below w.heap.size w (boxed w 64 a) := (Below.refl _ _).alloc (Nat.le_refl _) _
  have hC : Hid (Chain (boxed w 64 a) l (num n) e) := hc.below hB
  clear hc hB ha ht hf
  go_enter Tryz.func53, Tryz.ntmps53
  go_wp2
  go_loopg [0] l.length (fun k e wr => ∃ l, l.length = k /\ Chain (boxed w 64 a) l (num n) e /\ wr = boxed w 64 a)
  case atStart => exact ⟨l, rfl, hC.out, rfl⟩
  case round =>
    obtain ⟨l, hk, hc, rfl⟩ := hrel
    cases l with
    | nil =>
      have he : _ = num n := hc
      subst he
      go_wp2
      go_ret
      exact ⟨rfl, rfl⟩
    | cons p r =>
      obtain ⟨op, nm⟩ := p
      obtain ⟨b, e', rfl, hb, -, h0, h1, h2, hr⟩ := hc
      cases r with
      | nil =>
        have he : e' = num n := hr
        subst he
        clear h0 h1
        go_wp2
        go_roundg 0
        case measure => rw [<- hk]; simp
        case rel => exact ⟨[], rfl, rfl, rfl⟩
      | cons p r =>
        obtain ⟨op', nm'⟩ := p
        have hr' := hr
        obtain ⟨b', e'', rfl, _⟩ := hr'
        have hr := (show Hid _ from hr)
        clear h0 h1
        go_wp2
        go_roundg (r.length + 1)
        case measure => rw [<- hk]; simp
        case rel => exact ⟨(op', nm') :: r, rfl, hr, rfl⟩
theorem Tryz.partsPF (a : Addr) (w : World) : (ReflectliteValue.parts (rval 66 a 150)).run Tryz.prog w = .ok (some (66, a, 150)) w := by kernel_rfl
theorem Tryz.partsF1 (a : Addr) (w : World) : (ReflectliteValue.parts (rval 65 a 406)).run Tryz.prog w = .ok (some (65, a, 406)) w := by kernel_rfl
theorem Tryz.partsF2 (a : Addr) (w : World) : (ReflectliteValue.parts (rval 65 a 150)).run Tryz.prog w = .ok (some (65, a, 150)) w := by kernel_rfl
theorem Tryz.mkF (p : Addr) (w : World) : (ReflectliteValue.mk 65 p ReflectliteValue.flagAddr).run Tryz.prog w = .ok (rval 65 p 406) w := by kernel_rfl
theorem Tryz.elemOfPF (w : World) : (Rtype.elem? 66).run Tryz.prog w = .ok (some 65) w := by kernel_rfl
theorem Tryz.directF (w : World) : (Rtype.directlyAssignable 65 65).run Tryz.prog w = .ok true w := by kernel_rfl
theorem Tryz.storeF (ta : Addr) (p : Addr) (old : Value) (W : World) (ht : W.cell? ta = some old) (hf : W.frozen? ta = false) : (storeVar 65 ta (.pointer (some p))).run Tryz.prog W = .ok () (W.setCell ta (.pointer (some p))) := by
  simp [storeVar, Value.cells, storeCells, Addr.add]
  rw [run_store Tryz.prog W ta _ _ (by rfl)]
  simp [ht, hf]
theorem Tryz.loadF (b : Addr) (p : Addr) (W : World) (hb : W.cell? b = some (.pointer (some p))) : (loadVar 65 b).run Tryz.prog W = .ok (.pointer (some p)) W := by
  simp [loadVar, isAgg, underlying, Tryz.underlying65, hb, Result.andThen]
theorem asF_low (w : World) (b : Nat) (old : Value) (a t : Addr) (ha : w.cell? a = some (.pointer (some t))) (ht : w.cell? t = some old) (hf : w.frozen? t = false)
    (hal : a.block < w.heap.size) (htl : t.block < w.heap.size) :
    Calls Tryz.prog 53 #[flt b, .iface 66 (.pointer (some t)), rval 66 a 150, typ 65] w fun ev w' =>
      ev = .returned (.bool true) /\ w' = ((boxed w 66 a).alloc (.cells #[.pointer (some ⟨b, 0, none⟩)] 65)).setCell t (.pointer (some ⟨b, 0, none⟩)) := by
  have b2 := Tryz.callTypeOfFault
  have b3 := Tryz.methodAssignableTo
  have b5 := Tryz.assFF
  have b9 := Tryz.valueOfFault
  have el := Tryz.elemAt 66 65 a t 406 (boxed w 66 a) (Tryz.partsPF a _) Tryz.underlying66 (by rw [World.cell?_alloc_lt _ _ a hal]; exact ha) (Tryz.elemOfPF _) (Tryz.mkF t _)
  have st := Tryz.setAt 65 t ⟨w.heap.size + 1, 0, none⟩ 406 150 (.pointer (some ⟨b, 0, none⟩)) ((boxed w 66 a).alloc (.cells #[.pointer (some ⟨b, 0, none⟩)] 65)) (Tryz.partsF1 t _) (Tryz.partsF2 _ _) (by decide) (Tryz.loadF _ _ _ (by rw [World.cell?_alloc_at _ _ _ _ (by simp)]; rfl)) (Tryz.directF _)
    (Tryz.storeF t _ old _ (by rw [World.cell?_alloc_lt _ _ t (by simp; omega), World.cell?_alloc_lt _ _ t htl]; exact ht) (by rw [World.frozen?_alloc_old _ _ t (by simp; omega), World.frozen?_alloc_old _ _ t (Nat.ne_of_lt htl)]; exact hf))
  clear ha ht hf
  go_enter Tryz.func53, Tryz.ntmps53
  go_wp2
  refine wp_loop_rounds 1 ?_
  rw [rounds_succ]
  go_wp2
  go_ret
  exact ⟨rfl, rfl⟩
theorem hidden {p : Prop} (h : p) : Hid p := h
theorem Chain.held {w : World} {l : List (ByteArray × ByteArray)} {bot e : Value} (hc : Chain w l bot e) (h : l ≠ [] \/ ∃ u v, bot = .iface u v) : ∃ u v, e = .iface u v := by
  cases l with
  | nil =>
    rcases h with h | ⟨u, v, rfl⟩
    · exact absurd rfl h
    · exact ⟨u, v, hc⟩
  | cons p r =>
    obtain ⟨op, nm⟩ := p
    obtain ⟨b, e', rfl, _⟩ := hc
    exact ⟨_, _, rfl⟩
abbrev asked (w : World) (pt : TypeId) (t : Addr) : World := (w.alloc (.cells #[.pointer (some t)] pt)).alloc (.cells #[hdl pt, .pointer (some ⟨w.heap.size, 0, none⟩), .int .u64 150] 106)
theorem asked_below (w : World) (pt : TypeId) (t : Addr) : Below w.heap.size w (asked w pt t) := ((Below.refl _ _).alloc (Nat.le_refl _) _).alloc (by simp) _
theorem boxed_below (w : World) (pt : TypeId) (a : Addr) : Below w.heap.size w (boxed w pt a) := (Below.refl _ _).alloc (Nat.le_refl _) _
theorem asked_cell (w : World) (pt : TypeId) (t : Addr) : (asked w pt t).cell? ⟨w.heap.size, 0, none⟩ = some (.pointer (some t)) := by simp
theorem asked_size (w : World) (pt : TypeId) (t : Addr) : (asked w pt t).heap.size = w.heap.size + 2 := by simp
theorem lt_of_cell {w : World} {a : Addr} {v : Value} (h : w.cell? a = some v) : a.block < w.heap.size := by
  rcases Nat.lt_or_ge a.block w.heap.size with h1 | h1
  · exact h1
  · simp [World.cell?, Array.getElem?_eq_none h1] at h
theorem asE (n : Int) (w : World) (l : List (ByteArray × ByteArray)) (e old : Value) (t : Addr) (hc : Chain w l (num n) e) (ht : w.cell? t = some old) (hf : w.frozen? t = false) (hg : w.cell? ⟨0, 0, none⟩ = some (typ 25)) :
    Calls Tryz.prog 29 #[e, .iface 64 (.pointer (some t))] w fun ev w' => ev = .returned (.bool true) /\ ∃ W, Below w.heap.size w W /\ w' = W.setCell t (.int .i64 n) := by
  have hlow := hidden <| asE_low n (asked w 64 t) l e old ⟨w.heap.size, 0, none⟩ t (hc.below (asked_below w _ t)) (asked_cell _ _ _) ((asked_below w _ t |>.cell (lt_of_cell ht)).trans ht) ((asked_below w _ t |>.frozen (lt_of_cell ht)).trans hf) (by rw [asked_size]; show w.heap.size < _; omega) (by rw [asked_size]; have := lt_of_cell ht; omega)
  obtain ⟨u, v, rfl⟩ := hc.held (Or.inr ⟨_, _, rfl⟩)
  have c1 := Tryz.valueOfE
  have c2 := Tryz.typeE
  have c3 := Tryz.methodKind
  have c4 := Tryz.kindPE
  have c5 := Tryz.isNilAt 64 62 ⟨w.heap.size, 0, none⟩ t (asked w 64 t) (Tryz.partsPE _ _) Tryz.underlying64 (asked_cell _ _ _)
  have c6 := Tryz.methodElem
  have c7 := Tryz.elemPE
  have c8 := Tryz.kindE
  have c9 := Tryz.methodImplements
  have d1 := Tryz.implE
  have hg2 : (asked w 64 t).cell? ⟨0, 0, none⟩ = some (typ 25) := (asked_below w 64 t |>.cell (p := ⟨0, 0, none⟩) (lt_of_cell hg)).trans hg
  clear hg
  clear hc ht hf
  go_enter Tryz.func29, Tryz.ntmps29
  go_wp2_with (go_at_call 53; refine (hlow.out).mono ?_; rintro ev w' ⟨rfl, rfl⟩)
  go_ret
  exact ⟨rfl, _, ((asked_below w _ t).trans ((boxed_below _ _ _).mono (by simp; omega))).alloc (by simp; omega) _, rfl⟩
theorem asF (w : World) (b : Nat) (old : Value) (t : Addr) (ht : w.cell? t = some old) (hf : w.frozen? t = false) (hg : w.cell? ⟨0, 0, none⟩ = some (typ 25)) :
    Calls Tryz.prog 29 #[flt b, .iface 66 (.pointer (some t))] w fun ev w' => ev = .returned (.bool true) /\ ∃ W, Below w.heap.size w W /\ w' = W.setCell t (.pointer (some ⟨b, 0, none⟩)) := by
  have hlow := hidden <| asF_low (asked w 66 t) b old ⟨w.heap.size, 0, none⟩ t (asked_cell _ _ _) ((asked_below w _ t |>.cell (lt_of_cell ht)).trans ht) ((asked_below w _ t |>.frozen (lt_of_cell ht)).trans hf) (by rw [asked_size]; show w.heap.size < _; omega) (by rw [asked_size]; have := lt_of_cell ht; omega)
  have c1 := Tryz.valueOfF
  have c2 := Tryz.typeF
  have c3 := Tryz.methodKind
  have c4 := Tryz.kindPF
  have c5 := Tryz.isNilAt 66 65 ⟨w.heap.size, 0, none⟩ t (asked w 66 t) (Tryz.partsPF _ _) Tryz.underlying66 (asked_cell _ _ _)
  have c6 := Tryz.methodElem
  have c7 := Tryz.elemPF
  have c8 := Tryz.kindF
  have c9 := Tryz.methodImplements
  have d1 := Tryz.implF
  have hg2 : (asked w 66 t).cell? ⟨0, 0, none⟩ = some (typ 25) := (asked_below w 66 t |>.cell (p := ⟨0, 0, none⟩) (lt_of_cell hg)).trans hg
  clear hg
  clear ht hf
  go_enter Tryz.func29, Tryz.ntmps29
  go_wp2_with (go_at_call 53; refine (hlow.out).mono ?_; rintro ev w' ⟨rfl, rfl⟩)
  go_ret
  exact ⟨rfl, _, ((asked_below w _ t).trans ((boxed_below _ _ _).mono (by simp; omega))).alloc (by simp; omega) _, rfl⟩
end Go.Proofs.YtleafmdjhmnjmaaGreatDoor
