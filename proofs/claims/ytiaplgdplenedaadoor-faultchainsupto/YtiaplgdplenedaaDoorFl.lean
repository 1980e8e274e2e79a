/- fault.New, fault.Wrap, and the small helpers of package fault. -/
import Derived.Test.YtiaplgdplenedaaDoorAs5
namespace Go.Proofs.YtiaplgdplenedaaDoor
open Go.RowKit Go.Extern.Stop Go.Stop Go.Extern
set_option maxRecDepth 100000

abbrev fcells (op nm : ByteArray) (e : Value) : Obj := .cells #[.string op, .string nm, e] 45

theorem new_ok (op nm : ByteArray) (w : World) :
    Calls Tryd.prog 16 #[.string op, .string nm, .int .i64 0] w fun e w' => e = .returned .nilIface ∧ w' = w := by
  go_enter Tryd.func16, Tryd.ntmps16
  go_wp2_with (go_at_call 20; refine (is_chain 0 0 _ [] _ rfl).mono ?_; rintro ev w' ⟨rfl, rfl⟩)
  go_ret
  exact ⟨rfl, rfl⟩
theorem new_num (op nm : ByteArray) (n : Int) (w : World) (hn : (n == 0) = false) :
    Calls Tryd.prog 16 #[.string op, .string nm, .int .i64 n] w fun e w' => e = .returned (flt w.heap.size) ∧ w' = w.alloc (fcells op nm (num n)) := by
  go_enter Tryd.func16, Tryd.ntmps16
  go_wp2_with (go_at_call 20; refine (is_chain n 0 _ [] _ rfl).mono ?_; rintro ev w' ⟨rfl, rfl⟩)
  go_ret
  exact ⟨rfl, rfl⟩
theorem wrap_nil (op nm : ByteArray) (w : World) :
    Calls Tryd.prog 10 #[.string op, .string nm, .nilIface] w fun e w' => e = .returned .nilIface ∧ w' = w := by
  go_enter Tryd.func10, Tryd.ntmps10
  go_wp2
  go_ret
  exact ⟨rfl, rfl⟩
theorem wrap_some (op nm : ByteArray) (u : TypeId) (v : Value) (w : World) :
    Calls Tryd.prog 10 #[.string op, .string nm, .iface u v] w fun e w' => e = .returned (flt w.heap.size) ∧ w' = w.alloc (fcells op nm (.iface u v)) := by
  go_enter Tryd.func10, Tryd.ntmps10
  go_wp2
  go_ret
  exact ⟨rfl, rfl⟩

theorem Chain.alloc {w : World} {l : List (ByteArray × ByteArray)} {bot e : Value} (op nm : ByteArray) (hc : Chain w l bot e) : Chain (w.alloc (fcells op nm e)) ((op, nm) :: l) bot (flt w.heap.size) :=
  ⟨w.heap.size, e, rfl, by simp, ⟨_, _, by show (w.heap.push _)[w.heap.size]? = _; rw [Array.getElem?_push, if_pos rfl]⟩, by simp, by simp, by simp, hc.below ((Below.refl _ _).alloc (Nat.le_refl _) _)⟩

theorem Tryd.toFault (v : Value) (w : World) : (Instr.typeAssert (.iface 43 v) 25 43 true).run Tryd.prog w = .ok (.tuple #[v, .bool true]) w := by kernel_rfl
theorem Tryd.toFaultNum (v : Value) (w : World) : (Instr.typeAssert (.iface 23 v) 25 43 true).run Tryd.prog w = .ok (.tuple #[.pointer none, .bool false]) w := by kernel_rfl
theorem itself_fault (b : Nat) (w : World) :
    Calls Tryd.prog 26 #[flt b] w fun e w' => e = .returned (.pointer (some ⟨b, 0, none⟩)) ∧ w' = w := by
  have hA := Tryd.toFault
  have hB := Tryd.toFaultNum
  go_enter Tryd.func26, Tryd.ntmps26
  go_wp2
  go_ret
  exact ⟨rfl, rfl⟩
theorem itself_num (n : Int) (w : World) :
    Calls Tryd.prog 26 #[num n] w fun e w' => e = .returned (.pointer none) ∧ w' = w := by
  have hA := Tryd.toFault
  have hB := Tryd.toFaultNum
  go_enter Tryd.func26, Tryd.ntmps26
  go_wp2
  go_ret
  exact ⟨rfl, rfl⟩

/-! next -/
theorem next_idle (p : Addr) (w : World) :
    CallsD Tryd.prog 36 #[.pointer (some p)] .returning w fun e u' w' => e = .returned (.tuple #[]) ∧ u' = .returning ∧ w' = w := by
  refine callsD_of_wpS Tryd.func36 rfl fun c₀ cs hu => ?_
  apply wpS_seq
  apply wpS_region
  simp [wpOpsS, go_sem, recoverD, hu, Tryd.ntmps36, Exit.thenS]
  refine wpS_cond (t := false) (by simp [Act.eval, Array.replicate]) ?_
  simp only [Bool.false_eq_true, if_false]
  refine wpS_of_wp (wp_skip ?_)
  cases c₀
  simp_all [bodyPostS, results, Tryd.results36]
theorem next_fault (b : Nat) (u : TypeId) (v : Value) (w : World) (hb : b < w.heap.size) (h2 : w.cell? ⟨b, 2, none⟩ = some (.iface u v)) :
    Calls Tryd.prog 28 #[flt b] w fun e w' => e = .returned (.iface u v) ∧ w' = (w.alloc (.cells #[.nilIface] 25)).setCell ⟨w.heap.size, 0, none⟩ (.iface u v) := by
  have hmf : ∀ (fn : Fn) (first cap : Array Value) (w : World), (Instr.makeFunc fn first cap).run Tryd.prog w = .ok (.func fn first cap) w := fun _ _ _ _ => rfl
  have h2' : (w.alloc (.cells #[.nilIface] 25)).cell? ⟨b, 2, none⟩ = some (.iface u v) := (World.cell?_alloc_lt _ _ ⟨b, 2, none⟩ hb).trans h2
  clear h2
  go_enter_defers Tryd.func28, Tryd.ntmps28
  go_wp2_with (go_at_call 21; refine (unwrap_fault b _ _ h2').mono ?_; rintro ev w' ⟨rfl, rfl⟩)
  refine leaves_cons (f := 36) (args := #[.pointer (some ⟨w.heap.size, 0, none⟩)]) (by simp) (by simp [go_sem]) ?_
  refine (next_idle ⟨w.heap.size, 0, none⟩ _).mono ?_
  rintro e u' w'' ⟨rfl, rfl, rfl⟩
  simp [Leaves, settle, results, Tryd.results28, go_sem]
theorem next_last (b : Nat) (w : World) (hb : b < w.heap.size) (h2 : w.cell? ⟨b, 2, none⟩ = some (.nilIface)) :
    Calls Tryd.prog 28 #[flt b] w fun e w' => e = .returned (.nilIface) ∧ w' = (w.alloc (.cells #[.nilIface] 25)).setCell ⟨w.heap.size, 0, none⟩ (.nilIface) := by
  have hmf : ∀ (fn : Fn) (first cap : Array Value) (w : World), (Instr.makeFunc fn first cap).run Tryd.prog w = .ok (.func fn first cap) w := fun _ _ _ _ => rfl
  have h2' : (w.alloc (.cells #[.nilIface] 25)).cell? ⟨b, 2, none⟩ = some (.nilIface) := (World.cell?_alloc_lt _ _ ⟨b, 2, none⟩ hb).trans h2
  clear h2
  go_enter_defers Tryd.func28, Tryd.ntmps28
  go_wp2_with (go_at_call 21; refine (unwrap_fault b _ _ h2').mono ?_; rintro ev w' ⟨rfl, rfl⟩)
  refine leaves_cons (f := 36) (args := #[.pointer (some ⟨w.heap.size, 0, none⟩)]) (by simp) (by simp [go_sem]) ?_
  refine (next_idle ⟨w.heap.size, 0, none⟩ _).mono ?_
  rintro e u' w'' ⟨rfl, rfl, rfl⟩
  simp [Leaves, settle, results, Tryd.results28, go_sem]
theorem next_num (n : Int) (w : World) :
    Calls Tryd.prog 28 #[num n] w fun e w' => e = .returned (.nilIface) ∧ w' = (w.alloc (.cells #[.nilIface] 25)).setCell ⟨w.heap.size, 0, none⟩ (.nilIface) := by
  have hmf : ∀ (fn : Fn) (first cap : Array Value) (w : World), (Instr.makeFunc fn first cap).run Tryd.prog w = .ok (.func fn first cap) w := fun _ _ _ _ => rfl
  go_enter_defers Tryd.func28, Tryd.ntmps28
  go_wp2_with (go_at_call 21; refine (unwrap_num n _).mono ?_; rintro ev w' ⟨rfl, rfl⟩)
  refine leaves_cons (f := 36) (args := #[.pointer (some ⟨w.heap.size, 0, none⟩)]) (by simp) (by simp [go_sem]) ?_
  refine (next_idle ⟨w.heap.size, 0, none⟩ _).mono ?_
  rintro e u' w'' ⟨rfl, rfl, rfl⟩
  simp [Leaves, settle, results, Tryd.results28, go_sem]
theorem next_nil  (w : World) :
    Calls Tryd.prog 28 #[.nilIface] w fun e w' => e = .returned (.nilIface) ∧ w' = (w.alloc (.cells #[.nilIface] 25)).setCell ⟨w.heap.size, 0, none⟩ (.nilIface) := by
  have hmf : ∀ (fn : Fn) (first cap : Array Value) (w : World), (Instr.makeFunc fn first cap).run Tryd.prog w = .ok (.func fn first cap) w := fun _ _ _ _ => rfl
  go_enter_defers Tryd.func28, Tryd.ntmps28
  go_wp2_with (go_at_call 21; refine (unwrap_nil _).mono ?_; rintro ev w' ⟨rfl, rfl⟩)
  refine leaves_cons (f := 36) (args := #[.pointer (some ⟨w.heap.size, 0, none⟩)]) (by simp) (by simp [go_sem]) ?_
  refine (next_idle ⟨w.heap.size, 0, none⟩ _).mono ?_
  rintro e u' w'' ⟨rfl, rfl, rfl⟩
  simp [Leaves, settle, results, Tryd.results28, go_sem]
end Go.Proofs.YtiaplgdplenedaaDoor
