/- errors.Is of a chain of Faults above an Errno, asked for an Errno: true just if the two numbers are the same; nothing is changed. -/
import Derived.Test.YtpofmiecjkghgaaGreatDoorErrp
import Derived.Deep.LoopGhost
namespace Go.Proofs.YtpofmiecjkghgaaGreatDoor
open Go.RowKit Go.Extern.Stop Go.Stop Go.Extern
set_option maxRecDepth 100000
/-! two errors held against each other -/
theorem Tryz.eqNums (a b : Int) (w : World) : (binOp .eql 28 (num a) (num b)).run Tryz.prog w = .ok (.bool (a == b)) w := by
  have hin : ∀ d : Nat, (Op.equalIn (d + 2) 28 (num a) (num b)).run Tryz.prog w = .ok (a == b) w := fun d => by
    have h1 : Tryz.prog.underlying 28 = some (.interface #[("Error", 351)]) := by kernel_rfl
    have h2 : Tryz.prog.underlying 76 = some (.int .i64) := by kernel_rfl
    obtain ⟨i, hi, hc⟩ : ∃ i, Tryz.prog.info? 76 = some i /\ i.comparable = true := by
      have h : (Tryz.prog.info? 76).map (·.comparable) = some true := by kernel_rfl
      exact Option.map_eq_some_iff.1 h
    simp [Op.equalIn, num, run_underlying h1, run_underlying h2, typeInfo, hi, hc]
  simp only [binOp]
  simp [Op.equal, Op.maxDepth, hin 9998]
theorem Tryz.eqFaultNum (v : Value) (b : Int) (w : World) : (binOp .eql 28 (.iface 70 v) (num b)).run Tryz.prog w = .ok (.bool false) w :=
  run_eql_iface_types _ _ _ _ (show Tryz.prog.underlying 28 = some (.interface #[("Error", 351)]) by kernel_rfl) (by decide) w
theorem Tryz.isFault (v : Value) (xT : TypeId) (w : World) : (Instr.typeAssert (.iface 70 v) xT 190 true).run Tryz.prog w = .ok (.tuple #[.nilIface, .bool false]) w := run_typeAssert_lacksB Tryz.underlying190 (by kernel_rfl) (by kernel_rfl) v xT w
theorem Tryz.isNum (v : Value) (xT : TypeId) (w : World) : (Instr.typeAssert (.iface 76 v) xT 190 true).run Tryz.prog w = .ok (.tuple #[.nilIface, .bool false]) w := run_typeAssert_lacksB Tryz.underlying190 (by kernel_rfl) (by kernel_rfl) v xT w
theorem Tryz.manyNum (v : Value) (xT : TypeId) (w : World) : (Instr.typeAssert (.iface 76 v) xT 187 true).run Tryz.prog w = .ok (.tuple #[.nilIface, .bool false]) w := run_typeAssert_lacksB Tryz.underlying187 (by kernel_rfl) (by kernel_rfl) v xT w
theorem Tryz.methodComparable (h : Value) (w : World) : (Go.method 480 179 (.agg #[h]) "Comparable").run Tryz.prog w = .ok (354, .agg #[h]) w := by kernel_rfl
theorem Tryz.callTypeOfNum (v : Value) (w : World) : (callFunc 92 #[.iface 76 v]).run Tryz.prog w = .ok (.value (.iface 179 (.agg #[.pointer (some ⟨5, 76, none⟩)]))) w := by kernel_rfl
theorem Tryz.callComparable (w : World) : (callFunc 354 #[.agg #[.pointer (some ⟨5, 76, none⟩)]]).run Tryz.prog w = .ok (.value (.bool true)) w := by kernel_rfl
theorem is_low (n m : Int) (w : World) (l : List (ByteArray × ByteArray)) (e : Value) (hc : Chain w l (num n) e) :
    Calls Tryz.prog 93 #[e, num m, .bool true] w fun ev w' => ev = .returned (.bool (n == m)) /\ w' = w := by
  have a1 := Tryz.eqNums
  have a2 := Tryz.eqFaultNum
  have a3 := Tryz.isFault
  have a4 := Tryz.isNum
  have a5 := Tryz.manyNum
  have a6 := Tryz.unwrapFault
  have a7 := Tryz.unwrapNum
  have a8 := Tryz.methodUnwrap
  go_enter Tryz.func93, Tryz.ntmps93
  go_wp2
  go_loopg [0] l.length (fun k e wr => ∃ l, l.length = k /\ Chain w l (num n) e /\ wr = w)
  case atStart => exact ⟨l, rfl, hc, rfl⟩
  case round =>
    obtain ⟨l, hk, hc, rfl⟩ := hrel
    cases l with
    | nil =>
      have he : _ = num n := hc
      subst he
      cases hnm : (n == m) with
      | true => go_wp2; go_ret; exact ⟨by rw [hnm]; rfl, rfl⟩
      | false => go_wp2; go_ret; exact ⟨by rw [hnm]; rfl, rfl⟩
    | cons p r =>
      obtain ⟨op, nm⟩ := p
      obtain ⟨b, e', rfl, hb, -, h0, h1, h2, hr⟩ := hc
      cases r with
      | nil =>
        have he : e' = num n := hr
        subst he
        clear h0 h1
        go_wp2
        go_roundg 0
        case measure => rw [<- hk]; simp
        case rel => exact ⟨[], rfl, rfl, rfl⟩
      | cons p r =>
        obtain ⟨op', nm'⟩ := p
        have hr' := hr
        obtain ⟨b', e'', rfl, _⟩ := hr'
        have hr := (show Hid _ from hr)
        clear h0 h1
        go_wp2
        go_roundg (r.length + 1)
        case measure => rw [<- hk]; simp
        case rel => exact ⟨(op', nm') :: r, rfl, hr, rfl⟩
theorem is_chain (n m : Int) (w : World) (l : List (ByteArray × ByteArray)) (e : Value) (hc : Chain w l (num n) e) :
    Calls Tryz.prog 46 #[e, num m] w fun ev w' => ev = .returned (.bool (n == m)) /\ w' = w := by
  have c1 := Tryz.callTypeOfNum
  have c2 := Tryz.callComparable
  have c3 := Tryz.methodComparable
  cases l with
  | nil =>
    have he : e = num n := hc
    subst he
    go_enter Tryz.func46, Tryz.ntmps46
    go_wp2_with (go_at_call 93; refine (is_low n m _ [] _ rfl).mono ?_; rintro ev w' ⟨rfl, rfl⟩)
    go_ret
    exact ⟨rfl, rfl⟩
  | cons p r =>
    obtain ⟨op, nm⟩ := p
    have hcc := hc
    obtain ⟨b, e', rfl, _⟩ := hcc
    have hc : Hid _ := hc
    go_enter Tryz.func46, Tryz.ntmps46
    go_wp2_with (go_at_call 93; refine (is_low n m _ ((op, nm) :: r) _ hc.out).mono ?_; rintro ev w' ⟨rfl, rfl⟩)
    go_ret
    exact ⟨rfl, rfl⟩
theorem Tryz.eqNilNum (v : Value) (w : World) : (binOp .eql 28 .nilIface (.iface 76 v)).run Tryz.prog w = .ok (.bool false) w := by kernel_rfl
theorem is_nil (m : Int) (w : World) :
    Calls Tryz.prog 46 #[.nilIface, num m] w fun ev w' => ev = .returned (.bool false) /\ w' = w := by
  have hA := Tryz.eqNilNum
  go_enter Tryz.func46, Tryz.ntmps46
  go_wp2
  go_ret
  exact ⟨rfl, rfl⟩
end Go.Proofs.YtpofmiecjkghgaaGreatDoor
