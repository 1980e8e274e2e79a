/- errors.Is of a chain of Faults above an Errno, asked for an Errno: true just if the two numbers are the same; nothing is changed. -/
import Derived.Test.YtildpgingcmfcaaDoorErr
import Derived.Deep.LoopGhost
namespace Go.Proofs.YtildpgingcmfcaaDoor
open Go.RowKit Go.Extern.Stop Go.Stop Go.Extern
set_option maxRecDepth 100000

/-! two errors held against each other -/
theorem Tryd.eqNums (a b : Int) (w : World) : (binOp .eql 29 (num a) (num b)).run Tryd.prog w = .ok (.bool (a == b)) w := by
  have hin : ∀ d : Nat, (Op.equalIn (d + 2) 29 (num a) (num b)).run Tryd.prog w = .ok (a == b) w := fun d => by
    have h1 : Tryd.prog.underlying 29 = some (.interface #[("Error", 152)]) := by kernel_rfl
    have h2 : Tryd.prog.underlying 52 = some (.int .i64) := by kernel_rfl
    obtain ⟨i, hi, hc⟩ : ∃ i, Tryd.prog.info? 52 = some i ∧ i.comparable = true := by
      have h : (Tryd.prog.info? 52).map (·.comparable) = some true := by kernel_rfl
      exact Option.map_eq_some_iff.1 h
    simp [Op.equalIn, num, run_underlying h1, run_underlying h2, typeInfo, hi, hc]
  simp only [binOp]
  simp [Op.equal, Op.maxDepth, hin 9998]
theorem Tryd.eqFaultNum (v : Value) (b : Int) (w : World) : (binOp .eql 29 (.iface 62 v) (num b)).run Tryd.prog w = .ok (.bool false) w :=
  run_eql_iface_types _ _ _ _ (show Tryd.prog.underlying 29 = some (.interface #[("Error", 152)]) by kernel_rfl) (by decide) w

theorem Tryd.isFault (v : Value) (xT : TypeId) (w : World) : (Instr.typeAssert (.iface 62 v) xT 121 true).run Tryd.prog w = .ok (.tuple #[.nilIface, .bool false]) w := run_typeAssert_lacksB Tryd.underlying121 (by kernel_rfl) (by kernel_rfl) v xT w
theorem Tryd.isNum (v : Value) (xT : TypeId) (w : World) : (Instr.typeAssert (.iface 52 v) xT 121 true).run Tryd.prog w = .ok (.tuple #[.nilIface, .bool false]) w := run_typeAssert_lacksB Tryd.underlying121 (by kernel_rfl) (by kernel_rfl) v xT w
theorem Tryd.manyNum (v : Value) (xT : TypeId) (w : World) : (Instr.typeAssert (.iface 52 v) xT 118 true).run Tryd.prog w = .ok (.tuple #[.nilIface, .bool false]) w := run_typeAssert_lacksB Tryd.underlying118 (by kernel_rfl) (by kernel_rfl) v xT w

theorem Tryd.methodComparable (h : Value) (w : World) : (Go.method 280 110 (.agg #[h]) "Comparable").run Tryd.prog w = .ok (110, .agg #[h]) w := by kernel_rfl
theorem Tryd.callTypeOfNum (v : Value) (w : World) : (callFunc 45 #[.iface 52 v]).run Tryd.prog w = .ok (.value (.iface 110 (.agg #[.pointer (some ⟨4, 52, none⟩)]))) w := by kernel_rfl
theorem Tryd.callComparable (w : World) : (callFunc 110 #[.agg #[.pointer (some ⟨4, 52, none⟩)]]).run Tryd.prog w = .ok (.value (.bool true)) w := by kernel_rfl

/-- errors.is -/
theorem is_low (n m : Int) (w : World) (l : List (ByteArray × ByteArray)) (e : Value) (hc : Chain w l (num n) e) :
    Calls Tryd.prog 46 #[e, num m, .bool true] w fun ev w' => ev = .returned (.bool (n == m)) ∧ w' = w := by
  have a1 := Tryd.eqNums
  have a2 := Tryd.eqFaultNum
  have a3 := Tryd.isFault
  have a4 := Tryd.isNum
  have a5 := Tryd.manyNum
  have a6 := Tryd.unwrapFault
  have a7 := Tryd.unwrapNum
  have a8 := Tryd.methodUnwrap
  go_enter Tryd.func46, Tryd.ntmps46
  go_wp2
  go_loopg [0] l.length (fun k e wr => ∃ l, l.length = k ∧ Chain w l (num n) e ∧ wr = w)
  case atStart => exact ⟨l, rfl, hc, rfl⟩
  case round =>
    obtain ⟨l, hk, hc, rfl⟩ := hrel
    cases l with
    | nil =>
      have he : _ = num n := hc
      subst he
      cases hnm : (n == m) with
      | true => go_wp2; go_ret; exact ⟨by rw [hnm]; rfl, rfl⟩
      | false => go_wp2; go_ret; exact ⟨by rw [hnm]; rfl, rfl⟩
    | cons p r =>
      obtain ⟨op, nm⟩ := p
      obtain ⟨b, e', rfl, hb, -, h0, h1, h2, hr⟩ := hc
      cases r with
      | nil =>
        have he : e' = num n := hr
        subst he
        clear h0 h1
        go_wp2
        go_roundg 0
        case measure => rw [← hk]; simp
        case rel => exact ⟨[], rfl, rfl, rfl⟩
      | cons p r =>
        obtain ⟨op', nm'⟩ := p
        have hr' := hr
        obtain ⟨b', e'', rfl, _⟩ := hr'
        have hr := (show Hid _ from hr)
        clear h0 h1
        go_wp2
        go_roundg (r.length + 1)
        case measure => rw [← hk]; simp
        case rel => exact ⟨(op', nm') :: r, rfl, hr, rfl⟩

/-- errors.Is of a chain above an Errno, for an Errno. -/
theorem is_chain (n m : Int) (w : World) (l : List (ByteArray × ByteArray)) (e : Value) (hc : Chain w l (num n) e) :
    Calls Tryd.prog 26 #[e, num m] w fun ev w' => ev = .returned (.bool (n == m)) ∧ w' = w := by
  have c1 := Tryd.callTypeOfNum
  have c2 := Tryd.callComparable
  have c3 := Tryd.methodComparable
  cases l with
  | nil =>
    have he : e = num n := hc
    subst he
    go_enter Tryd.func26, Tryd.ntmps26
    go_wp2_with (go_at_call 46; refine (is_low n m _ [] _ rfl).mono ?_; rintro ev w' ⟨rfl, rfl⟩)
    go_ret
    exact ⟨rfl, rfl⟩
  | cons p r =>
    obtain ⟨op, nm⟩ := p
    have hcc := hc
    obtain ⟨b, e', rfl, _⟩ := hcc
    have hc : Hid _ := hc
    go_enter Tryd.func26, Tryd.ntmps26
    go_wp2_with (go_at_call 46; refine (is_low n m _ ((op, nm) :: r) _ hc.out).mono ?_; rintro ev w' ⟨rfl, rfl⟩)
    go_ret
    exact ⟨rfl, rfl⟩
theorem Tryd.eqNilNum (v : Value) (w : World) : (binOp .eql 29 .nilIface (.iface 52 v)).run Tryd.prog w = .ok (.bool false) w := by kernel_rfl
theorem is_nil (m : Int) (w : World) :
    Calls Tryd.prog 26 #[.nilIface, num m] w fun ev w' => ev = .returned (.bool false) ∧ w' = w := by
  have hA := Tryd.eqNilNum
  go_enter Tryd.func26, Tryd.ntmps26
  go_wp2
  go_ret
  exact ⟨rfl, rfl⟩
end Go.Proofs.YtildpgingcmfcaaDoor
