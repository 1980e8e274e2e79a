/- fault.New, fault.Wrap, and the small helpers of package fault. -/
import Derived.Test.YtfoamhkgdlebdaaGreatDoorAs5
namespace Go.Proofs.YtfoamhkgdlebdaaGreatDoor
open Go.RowKit Go.Extern.Stop Go.Stop Go.Extern
set_option maxRecDepth 100000

abbrev fcells (op nm : ByteArray) (e : Value) : Obj := .cells #[.string op, .string nm, e] 52

theorem new_ok (op nm : ByteArray) (w : World) :
    Calls Tryz.prog 22 #[.string op, .string nm, .int .i64 0] w fun e w' => e = .returned .nilIface ∧ w' = w := by
  go_enter Tryz.func22, Tryz.ntmps22
  go_wp2_with (go_at_call 18; refine (is_chain 0 0 _ [] _ rfl).mono ?_; rintro ev w' ⟨rfl, rfl⟩)
  go_ret
  exact ⟨rfl, rfl⟩
theorem new_num (op nm : ByteArray) (n : Int) (w : World) (hn : (n == 0) = false) :
    Calls Tryz.prog 22 #[.string op, .string nm, .int .i64 n] w fun e w' => e = .returned (flt w.heap.size) ∧ w' = w.alloc (fcells op nm (num n)) := by
  go_enter Tryz.func22, Tryz.ntmps22
  go_wp2_with (go_at_call 18; refine (is_chain n 0 _ [] _ rfl).mono ?_; rintro ev w' ⟨rfl, rfl⟩)
  go_ret
  exact ⟨rfl, rfl⟩
theorem wrap_nil (op nm : ByteArray) (w : World) :
    Calls Tryz.prog 15 #[.string op, .string nm, .nilIface] w fun e w' => e = .returned .nilIface ∧ w' = w := by
  go_enter Tryz.func15, Tryz.ntmps15
  go_wp2
  go_ret
  exact ⟨rfl, rfl⟩
theorem wrap_some (op nm : ByteArray) (u : TypeId) (v : Value) (w : World) :
    Calls Tryz.prog 15 #[.string op, .string nm, .iface u v] w fun e w' => e = .returned (flt w.heap.size) ∧ w' = w.alloc (fcells op nm (.iface u v)) := by
  go_enter Tryz.func15, Tryz.ntmps15
  go_wp2
  go_ret
  exact ⟨rfl, rfl⟩

theorem Chain.alloc {w : World} {l : List (ByteArray × ByteArray)} {bot e : Value} (op nm : ByteArray) (hc : Chain w l bot e) : Chain (w.alloc (fcells op nm e)) ((op, nm) :: l) bot (flt w.heap.size) :=
  ⟨w.heap.size, e, rfl, by simp, ⟨_, _, by show (w.heap.push _)[w.heap.size]? = _; rw [Array.getElem?_push, if_pos rfl]⟩, by simp, by simp, by simp, hc.below ((Below.refl _ _).alloc (Nat.le_refl _) _)⟩

end Go.Proofs.YtfoamhkgdlebdaaGreatDoor
