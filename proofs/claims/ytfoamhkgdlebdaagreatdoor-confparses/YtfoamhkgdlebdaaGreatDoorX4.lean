/- The error of a line (wrong): errors.Is of a Fault above it, asked for a number; errors.As into a *wrong; conf.place; what the statements call Is of it. -/
import Derived.Test.YtfoamhkgdlebdaaGreatDoorX0
namespace Go.Proofs.YtfoamhkgdlebdaaGreatDoor
open Go.RowKit Go.Extern.Stop Go.Stop Go.Extern
set_option maxRecDepth 100000

abbrev lnE (i : Int) : Value := .iface 66 (.int .i64 i)
theorem Tryz.unwrapWrong (v : Value) (xT : TypeId) (w : World) : (Instr.typeAssert (.iface 66 v) xT 107 true).run Tryz.prog w = .ok (.tuple #[.iface 66 v, .bool true]) w := run_typeAssert_hasB Tryz.underlying107 (by kernel_rfl) v xT w
theorem Tryz.methodUnwrapW (v : Value) (w : World) : (Go.method 293 66 v "Unwrap").run Tryz.prog w = .ok (135, v) w := by kernel_rfl
theorem Tryz.eqWrongNum (v : Value) (b : Int) (w : World) : (binOp .eql 31 (.iface 66 v) (num b)).run Tryz.prog w = .ok (.bool false) w :=
  run_eql_iface_types _ _ _ _ (show Tryz.prog.underlying 31 = some (.interface #[("Error", 22)]) by kernel_rfl) (by decide) w
theorem Tryz.isWrong (v : Value) (xT : TypeId) (w : World) : (Instr.typeAssert (.iface 66 v) xT 112 true).run Tryz.prog w = .ok (.tuple #[.nilIface, .bool false]) w := run_typeAssert_lacksB Tryz.underlying112 (by kernel_rfl) (by kernel_rfl) v xT w
theorem wrong_unwrap (i : Int) (w : World) : Calls Tryz.prog 135 #[.int .i64 i] w fun e w' => e = .returned (num 30) ∧ w' = w := by
  go_enter Tryz.func135, Tryz.ntmps135
  go_wp2
  go_ret
  exact ⟨rfl, rfl⟩
/-- A Fault above the error of a line, held against a number. -/
theorem isw_low (i m : Int) (w : World) (b : Nat) (h2 : w.cell? ⟨b, 2, none⟩ = some (lnE i)) :
    Calls Tryz.prog 33 #[flt b, num m, .bool true] w fun ev w' => ev = .returned (.bool ((30 : Int) == m)) ∧ w' = w := by
  have a1 := Tryz.eqNums
  have a2 := Tryz.eqFaultNum
  have a3 := Tryz.isFault
  have a4 := Tryz.isNum
  have a5 := Tryz.manyNum
  have a6 := Tryz.unwrapFault
  have a7 := Tryz.unwrapNum
  have a8 := Tryz.methodUnwrap
  have b1 := Tryz.unwrapWrong
  have b2 := Tryz.methodUnwrapW
  have b3 := Tryz.eqWrongNum
  have b4 := Tryz.isWrong
  have hU := hidden (wrong_unwrap i w)
  go_enter Tryz.func33, Tryz.ntmps33
  go_wp2
  go_loopg [0] 3 (fun k e wr => (k = 3 ∧ e = flt b ∨ k = 2 ∧ e = lnE i ∨ k = 1 ∧ e = num 30) ∧ wr = w)
  case atStart => exact ⟨Or.inl ⟨rfl, rfl⟩, rfl⟩
  case round =>
    obtain ⟨(⟨hk, rfl⟩ | ⟨hk, rfl⟩ | ⟨hk, rfl⟩), rfl⟩ := hrel
    · go_wp2
      go_roundg 2
      case measure => rw [hk]; simp
      case rel => exact ⟨Or.inr (Or.inl ⟨rfl, rfl⟩), rfl⟩
    · go_wp2_with (go_at_call 135; refine (hU.out).mono ?_; rintro ev w' ⟨rfl, rfl⟩)
      go_roundg 1
      case measure => rw [hk]; simp
      case rel => exact ⟨Or.inr (Or.inr ⟨rfl, rfl⟩), rfl⟩
    · cases hnm : ((30 : Int) == m) with
      | true => go_wp2; go_ret; exact ⟨by rw [hnm]; rfl, rfl⟩
      | false => go_wp2; go_ret; exact ⟨by rw [hnm]; rfl, rfl⟩
theorem is_wrong (i m : Int) (w : World) (b : Nat) (h2 : w.cell? ⟨b, 2, none⟩ = some (lnE i)) :
    Calls Tryz.prog 18 #[flt b, num m] w fun ev w' => ev = .returned (.bool ((30 : Int) == m)) ∧ w' = w := by
  have c1 := Tryz.callTypeOfNum
  have c2 := Tryz.callComparable
  have c3 := Tryz.methodComparable
  have hI := hidden (isw_low i m w b h2)
  clear h2
  go_enter Tryz.func18, Tryz.ntmps18
  go_wp2_with (go_at_call 33; refine (hI.out).mono ?_; rintro ev w' ⟨rfl, rfl⟩)
  go_ret
  exact ⟨rfl, rfl⟩
set_option maxHeartbeats 1000000 in
/-- Is: of such an error, by its Op, its Name and the number 30. -/
theorem law_isw (i : Int) (w : World) (op nm : ByteArray) (b : Nat) (hb : b < w.heap.size) (h0 : w.cell? ⟨b, 0, none⟩ = some (.string op)) (h1 : w.cell? ⟨b, 1, none⟩ = some (.string nm)) (h2 : w.cell? ⟨b, 2, none⟩ = some (lnE i)) (hg : GT w) :
    Calls Tryz.prog 8 #[flt b, .string op, .string nm, .int .i64 30] w fun ev w' => ev = .returned (.bool true) ∧ Below w.heap.size w w' := by
  have hB0 : Below w.heap.size w (w.alloc (.cells #[.pointer none] 48)) := (Below.refl _ _).alloc (Nat.le_refl _) _
  have hAs := hidden (asF (w.alloc (.cells #[.pointer none] 48)) b (.pointer none) ⟨w.heap.size, 0, none⟩ (by simp) (by simp) (hg.below hB0))
  clear hg
  go_enter Tryz.func8, Tryz.ntmps8
  go_wp2_with fail
  refine (hAs.out).mono ?_
  rintro ev w1 ⟨rfl, W, hB1, hw1⟩
  have hsz : (w.alloc (.cells #[.pointer none] 48)).heap.size = w.heap.size + 1 := by simp
  rw [hsz] at hB1
  have hBW : Below w.heap.size w w1 := by rw [hw1]; exact (hB0.trans (hB1.mono (by omega))).setCell (Nat.le_refl _) _
  have ct : w1.cell? ⟨w.heap.size, 0, none⟩ = some (.pointer (some ⟨b, 0, none⟩)) := by
    rw [hw1]; exact World.cell?_setCell_same' _ _ _ (by rw [hB1.cell (p := ⟨w.heap.size, 0, none⟩) (by show w.heap.size < _; omega)]; simp)
  have c0 : w1.cell? ⟨b, 0, none⟩ = some (.string op) := (hBW.cell (p := ⟨b, 0, none⟩) hb).trans h0
  have c1 : w1.cell? ⟨b, 1, none⟩ = some (.string nm) := (hBW.cell (p := ⟨b, 1, none⟩) hb).trans h1
  have hI := hidden (is_wrong i 30 w1 b ((hBW.cell (p := ⟨b, 2, none⟩) hb).trans h2))
  clear hw1 hB1 h0 h1 h2 hAs hsz
  go_wp2_with (go_at_call 18; refine (hI.out).mono ?_; rintro ev w' ⟨rfl, rfl⟩)
  go_ret
  refine ⟨?_, hBW⟩
  simp

/-! errors.As into a *wrong -/
theorem Tryz.valueOfW (t : Addr) (w : World) : (callFunc 28 #[.iface 67 (.pointer (some t))]).run Tryz.prog w = .ok (.value (rval 67 ⟨w.heap.size, 0, none⟩ 150)) (w.alloc (.cells #[.pointer (some t)] 67)) := (Tryz.xValueOf _ _).trans (by kernel_rfl)
theorem Tryz.typeW (a : Addr) (w : World) : (callFunc 29 #[rval 67 a 150]).run Tryz.prog w = .ok (.value (typ 67)) w := (Tryz.xType _ _).trans (by kernel_rfl)
theorem Tryz.kindPW (w : World) : (callFunc 127 #[hdl 67]).run Tryz.prog w = .ok (.value (.int .u8 22)) w := (Tryz.xKind _ _).trans (by kernel_rfl)
theorem Tryz.kindW (w : World) : (callFunc 127 #[hdl 66]).run Tryz.prog w = .ok (.value (.int .u8 2)) w := (Tryz.xKind _ _).trans (by kernel_rfl)
theorem Tryz.elemPW (w : World) : (callFunc 142 #[.agg #[hdl 67]]).run Tryz.prog w = .ok (.value (typ 66)) w := (Tryz.xElemT _ _).trans (by kernel_rfl)
theorem Tryz.implW (w : World) : (callFunc 143 #[.agg #[hdl 66], typ 31]).run Tryz.prog w = .ok (.value (.bool true)) w := (Tryz.xImpl _ _).trans (by kernel_rfl)
theorem Tryz.assEW (w : World) : (callFunc 140 #[.agg #[hdl 54], typ 66]).run Tryz.prog w = .ok (.value (.bool false)) w := (Tryz.xAss _ _).trans (by kernel_rfl)
theorem Tryz.assWW (w : World) : (callFunc 140 #[.agg #[hdl 66], typ 66]).run Tryz.prog w = .ok (.value (.bool true)) w := (Tryz.xAss _ _).trans (by kernel_rfl)
theorem Tryz.callTypeOfWrong (v : Value) (w : World) : (callFunc 32 #[.iface 66 v]).run Tryz.prog w = .ok (.value (typ 66)) w := by kernel_rfl
theorem Tryz.valueOfWrong (n : Int) (w : World) : (callFunc 28 #[lnE n]).run Tryz.prog w = .ok (.value (rval 66 ⟨w.heap.size, 0, none⟩ 130)) (w.alloc (.cells #[.int .i64 n] 66)) := (Tryz.xValueOf _ _).trans (by kernel_rfl)
theorem Tryz.partsPW (a : Addr) (w : World) : (ReflectliteValue.parts (rval 67 a 150)).run Tryz.prog w = .ok (some (67, a, 150)) w := by kernel_rfl
theorem Tryz.partsW1 (a : Addr) (w : World) : (ReflectliteValue.parts (rval 66 a 386)).run Tryz.prog w = .ok (some (66, a, 386)) w := by kernel_rfl
theorem Tryz.partsW2 (a : Addr) (w : World) : (ReflectliteValue.parts (rval 66 a 130)).run Tryz.prog w = .ok (some (66, a, 130)) w := by kernel_rfl
theorem Tryz.mkW (p : Addr) (w : World) : (ReflectliteValue.mk 66 p ReflectliteValue.flagAddr).run Tryz.prog w = .ok (rval 66 p 386) w := by kernel_rfl
theorem Tryz.elemOfPW (w : World) : (Rtype.elem? 67).run Tryz.prog w = .ok (some 66) w := by kernel_rfl
theorem Tryz.directW (w : World) : (Rtype.directlyAssignable 66 66).run Tryz.prog w = .ok true w := by kernel_rfl
theorem Tryz.storeW (ta : Addr) (n : Int) (old : Value) (W : World) (ht : W.cell? ta = some old) (hf : W.frozen? ta = false) : (storeVar 66 ta (.int .i64 n)).run Tryz.prog W = .ok () (W.setCell ta (.int .i64 n)) := by
  simp [storeVar, Value.cells, storeCells, Addr.add]
  rw [run_store Tryz.prog W ta _ _ (by rfl)]
  simp [ht, hf]
theorem Tryz.loadW (b : Addr) (n : Int) (W : World) (hb : W.cell? b = some (.int .i64 n)) : (loadVar 66 b).run Tryz.prog W = .ok (.int .i64 n) W := by
  simp [loadVar, isAgg, underlying, Tryz.underlying66, hb, Result.andThen]
set_option maxHeartbeats 1000000 in
theorem asW_low (n : Int) (w : World) (old : Value) (a t : Addr) (ha : w.cell? a = some (.pointer (some t))) (ht : w.cell? t = some old) (hf : w.frozen? t = false) (hal : a.block < w.heap.size) (htl : t.block < w.heap.size) :
    Calls Tryz.prog 31 #[lnE n, .iface 67 (.pointer (some t)), rval 67 a 150, typ 66] w fun ev w' =>
      ev = .returned (.bool true) ∧ w' = ((boxed w 67 a).alloc (.cells #[.int .i64 n] 66)).setCell t (.int .i64 n) := by
  have b1 := Tryz.callTypeOfWrong
  have b3 := Tryz.methodAssignableTo
  have b5 := Tryz.assWW
  have b9 := Tryz.valueOfWrong
  have el := Tryz.elemAt 67 66 a t 386 (boxed w 67 a) (Tryz.partsPW a _) Tryz.underlying67 (by rw [World.cell?_alloc_lt _ _ a hal]; exact ha) (Tryz.elemOfPW _) (Tryz.mkW t _)
  have st := Tryz.setAt 66 t ⟨w.heap.size + 1, 0, none⟩ 386 130 (.int .i64 n) ((boxed w 67 a).alloc (.cells #[.int .i64 n] 66)) (Tryz.partsW1 t _) (Tryz.partsW2 _ _) (by decide) (Tryz.loadW _ n _ (by rw [World.cell?_alloc_at _ _ _ _ (by simp)]; rfl)) (Tryz.directW _)
    (Tryz.storeW t n old _ (by rw [World.cell?_alloc_lt _ _ t (by simp; omega), World.cell?_alloc_lt _ _ t htl]; exact ht) (by rw [World.frozen?_alloc_old _ _ t (by simp; omega), World.frozen?_alloc_old _ _ t (Nat.ne_of_lt htl)]; exact hf))
  clear ha ht hf
  go_enter Tryz.func31, Tryz.ntmps31
  go_wp2
  refine wp_loop_rounds 1 ?_
  rw [rounds_succ]
  go_wp2
  go_ret
  exact ⟨rfl, rfl⟩
set_option maxHeartbeats 1000000 in
theorem asW_no (n : Int) (w : World) (a t : Addr) :
    Calls Tryz.prog 31 #[num n, .iface 67 (.pointer (some t)), rval 67 a 150, typ 66] w fun ev w' =>
      ev = .returned (.bool false) ∧ w' = boxed w 67 a := by
  have b1 : ∀ (v : Value) (w : World), (callFunc 32 #[.iface 54 v]).run Tryz.prog w = .ok (.value (typ 54)) w := fun v w => by kernel_rfl
  have b3 := Tryz.methodAssignableTo
  have b4 := Tryz.assEW
  have b6 := Tryz.asNum
  have b7 := Tryz.unwrapNum
  have b8 := Tryz.manyNum
  go_enter Tryz.func31, Tryz.ntmps31
  go_wp2
  refine wp_loop_rounds 1 ?_
  rw [rounds_succ]
  go_wp2
  go_ret
  exact ⟨rfl, rfl⟩
set_option maxHeartbeats 1000000 in
theorem asW (n : Int) (w : World) (old : Value) (t : Addr) (ht : w.cell? t = some old) (hf : w.frozen? t = false) (hg : GT w) :
    Calls Tryz.prog 17 #[lnE n, .iface 67 (.pointer (some t))] w fun ev w' => ev = .returned (.bool true) ∧ ∃ W, Below w.heap.size w W ∧ w' = W.setCell t (.int .i64 n) := by
  have hlow := hidden <| asW_low n (asked w 67 t) old ⟨w.heap.size, 0, none⟩ t (asked_cell _ _ _) ((asked_below w _ t |>.cell (lt_of_cell ht)).trans ht) ((asked_below w _ t |>.frozen (lt_of_cell ht)).trans hf) (by rw [asked_size]; show w.heap.size < _; omega) (by rw [asked_size]; have := lt_of_cell ht; omega)
  have c1 := Tryz.valueOfW
  have c2 := Tryz.typeW
  have c3 := Tryz.methodKind
  have c4 := Tryz.kindPW
  have c5 := Tryz.isNilAt 67 66 ⟨w.heap.size, 0, none⟩ t (asked w 67 t) (Tryz.partsPW _ _) Tryz.underlying67 (asked_cell _ _ _)
  have c6 := Tryz.methodElem
  have c7 := Tryz.elemPW
  have c8 := Tryz.kindW
  have c9 := Tryz.methodImplements
  have d1 := Tryz.implW
  have hg2 : (asked w 67 t).cell? ⟨0, 0, none⟩ = some (typ 31) := (asked_below w 67 t |>.cell (p := ⟨0, 0, none⟩) (lt_of_cell hg)).trans hg
  clear hg
  clear ht hf
  go_enter Tryz.func17, Tryz.ntmps17
  go_wp2_with (go_at_call 31; refine (hlow.out).mono ?_; rintro ev w' ⟨rfl, rfl⟩)
  go_ret
  exact ⟨rfl, _, ((asked_below w _ t).trans ((boxed_below _ _ _).mono (by simp; omega))).alloc (by simp; omega) _, rfl⟩
set_option maxHeartbeats 1000000 in
theorem asW_num (n : Int) (w : World) (t : Addr) (hg : GT w) :
    Calls Tryz.prog 17 #[num n, .iface 67 (.pointer (some t))] w fun ev w' => ev = .returned (.bool false) ∧ Below w.heap.size w w' := by
  have hlow := hidden <| asW_no n (asked w 67 t) ⟨w.heap.size, 0, none⟩ t
  have c1 := Tryz.valueOfW
  have c2 := Tryz.typeW
  have c3 := Tryz.methodKind
  have c4 := Tryz.kindPW
  have c5 := Tryz.isNilAt 67 66 ⟨w.heap.size, 0, none⟩ t (asked w 67 t) (Tryz.partsPW _ _) Tryz.underlying67 (asked_cell _ _ _)
  have c6 := Tryz.methodElem
  have c7 := Tryz.elemPW
  have c8 := Tryz.kindW
  have c9 := Tryz.methodImplements
  have d1 := Tryz.implW
  have hg2 : (asked w 67 t).cell? ⟨0, 0, none⟩ = some (typ 31) := (asked_below w 67 t |>.cell (p := ⟨0, 0, none⟩) (lt_of_cell hg)).trans hg
  clear hg
  go_enter Tryz.func17, Tryz.ntmps17
  go_wp2_with (go_at_call 31; refine (hlow.out).mono ?_; rintro ev w' ⟨rfl, rfl⟩)
  go_ret
  exact ⟨rfl, (asked_below w _ t).trans ((boxed_below _ _ _).mono (by simp; omega))⟩

/-! conf.place -/
theorem place_wrong (n : Int) (w : World) (hn : 0 ≤ n ∧ n < 1000000) (hg : GT w) (hG : Ground w) :
    Calls Tryz.prog 16 #[lnE n] w fun e w' => e = .returned (.string (itoaB n)) ∧ Below w.heap.size w w' := by
  have hB0 : Below w.heap.size w (w.alloc (.cells #[.int .i64 0] 66)) := (Below.refl _ _).alloc (Nat.le_refl _) _
  have hAs := hidden (asW n (w.alloc (.cells #[.int .i64 0] 66)) (.int .i64 0) ⟨w.heap.size, 0, none⟩ (by simp) (by simp) (hg.below hB0))
  have hsz : (w.alloc (.cells #[.int .i64 0] 66)).heap.size = w.heap.size + 1 := by simp
  clear hg
  go_enter Tryz.func16, Tryz.ntmps16
  go_wp2_with fail
  refine (hAs.out).mono ?_
  rintro ev w1 ⟨rfl, W, hB1, hw1⟩
  rw [hsz] at hB1
  have hBW : Below w.heap.size w w1 := by rw [hw1]; exact (hB0.trans (hB1.mono (by omega))).setCell (Nat.le_refl _) _
  have ct : w1.cell? ⟨w.heap.size, 0, none⟩ = some (.int .i64 n) := by
    rw [hw1]; exact World.cell?_setCell_same' _ _ _ (by rw [hB1.cell (p := ⟨w.heap.size, 0, none⟩) (by show w.heap.size < _; omega)]; simp)
  have kI := hidden (Tryz.strconv_Itoa n (by omega) (by omega) w1 (hG.below hBW).p)
  clear hw1 hB1 hAs hsz hB0 hG
  go_wp2_with fail
  refine (kI.out).mono ?_
  rintro ev w2 ⟨rfl, d, os, rfl⟩
  have hb : Below w1.heap.size w1 (Go.Sort.grow (w1.drewN d) os) := Lib.below_grow _ w1 (Nat.le_refl _) d os
  generalize Go.Sort.grow (w1.drewN d) os = w2 at hb ⊢
  have hB := hidden (hBW.trans (hb.mono hBW.size))
  clear hb hBW
  go_wp2
  go_ret
  exact ⟨rfl, hB.out⟩
theorem place_num (n : Int) (w : World) (hg : GT w) :
    Calls Tryz.prog 16 #[num n] w fun e w' => e = .returned (.string ⟨#[]⟩) ∧ Below w.heap.size w w' := by
  have hB0 : Below w.heap.size w (w.alloc (.cells #[.int .i64 0] 66)) := (Below.refl _ _).alloc (Nat.le_refl _) _
  have hAs := hidden (asW_num n (w.alloc (.cells #[.int .i64 0] 66)) ⟨w.heap.size, 0, none⟩ (hg.below hB0))
  clear hg
  go_enter Tryz.func16, Tryz.ntmps16
  go_wp2_with fail
  refine (hAs.out).mono ?_
  rintro ev w1 ⟨rfl, hB1⟩
  have hB := hidden (hB0.trans (hB1.mono (by simp)))
  clear hB1 hAs hB0
  go_wp2
  go_ret
  exact ⟨rfl, hB.out⟩
end Go.Proofs.YtfoamhkgdlebdaaGreatDoor
