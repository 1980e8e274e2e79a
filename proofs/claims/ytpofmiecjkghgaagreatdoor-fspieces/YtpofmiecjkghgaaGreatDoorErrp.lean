/- Contracts of errors.Unwrap, errors.Is, errors.As and of the two kinds of errors that the program makes: an api.Errno and a chain of *api.Fault above it. -/
import Derived.Test.YtpofmiecjkghgaaGreatDoorChecked
import Derived.WalkKit
import Derived.WalkSpells
import Derived.LaidEql
import Derived.Stop.Asserts
import Derived.RowKitTokens
import Derived.Defers
import Derived.Recover
namespace Go.Proofs.YtpofmiecjkghgaaGreatDoor
open Go.RowKit Go.Extern.Stop Go.Stop Go.Extern
set_option maxRecDepth 100000
def Chain (w : World) : List (ByteArray × ByteArray) -> Value -> Value -> Prop
  | [], bot, e => e = bot
  | (op, nm) :: r, bot, e => ∃ b e', e = .iface 70 (.pointer (some ⟨b, 0, none⟩)) /\ b < w.heap.size /\ (∃ cs t, w.heap[b]? = some (.cells cs t (0, 0))) /\ w.cell? ⟨b, 0, none⟩ = some (.string op) /\ w.cell? ⟨b, 1, none⟩ = some (.string nm) /\ w.cell? ⟨b, 2, none⟩ = some e' /\ Chain w r bot e'
theorem Chain.below {w w' : World} (h : Below w.heap.size w w') : ∀ (l : List (ByteArray × ByteArray)) (bot e : Value), Chain w l bot e -> Chain w' l bot e
  | [], _, _, hc => hc
  | (op, nm) :: r, bot, e, hc => by
    obtain ⟨b, e', he, hb, ⟨cs, t, hs⟩, h0, h1, h2, hr⟩ := hc
    exact ⟨b, e', he, Nat.lt_of_lt_of_le hb h.size, ⟨cs, t, (h.block b hb).trans hs⟩, (h.cell (p := ⟨b, 0, none⟩) hb).trans h0, (h.cell (p := ⟨b, 1, none⟩) hb).trans h1, (h.cell (p := ⟨b, 2, none⟩) hb).trans h2, Chain.below h r bot e' hr⟩
abbrev num (n : Int) : Value := .iface 76 (.int .i64 n)
abbrev flt (b : Nat) : Value := .iface 70 (.pointer (some ⟨b, 0, none⟩))
/-! the type assertions -/
theorem Tryz.unwrapFault (v : Value) (xT : TypeId) (w : World) : (Instr.typeAssert (.iface 70 v) xT 186 true).run Tryz.prog w = .ok (.tuple #[.iface 70 v, .bool true]) w := run_typeAssert_hasB Tryz.underlying186 (by kernel_rfl) v xT w
theorem Tryz.unwrapNum (v : Value) (xT : TypeId) (w : World) : (Instr.typeAssert (.iface 76 v) xT 186 true).run Tryz.prog w = .ok (.tuple #[.nilIface, .bool false]) w := run_typeAssert_lacksB Tryz.underlying186 (by kernel_rfl) (by kernel_rfl) v xT w
theorem Tryz.methodUnwrap (v : Value) (w : World) : (Go.method 480 70 v "Unwrap").run Tryz.prog w = .ok (347, v) w := by kernel_rfl
end Go.Proofs.YtpofmiecjkghgaaGreatDoor
