/- Contracts of errors.Unwrap, errors.Is, errors.As and of the two kinds of errors that the program makes: an api.Errno and a chain of *api.Fault above it. -/
import Derived.Test.YtleafmdjhmnjmaaGreatDoorChecked
import Derived.WalkKit
import Derived.WalkSpells
import Derived.LaidEql
import Derived.Stop.Asserts
import Derived.RowKitTokens
import Derived.Defers
import Derived.Recover
namespace Go.Proofs.YtleafmdjhmnjmaaGreatDoor
open Go.RowKit Go.Extern.Stop Go.Stop Go.Extern
set_option maxRecDepth 100000
def Chain (w : World) : List (ByteArray × ByteArray) -> Value -> Value -> Prop
  | [], bot, e => e = bot
  | (op, nm) :: r, bot, e => ∃ b e', e = .iface 65 (.pointer (some ⟨b, 0, none⟩)) /\ b < w.heap.size /\ (∃ cs t, w.heap[b]? = some (.cells cs t (0, 0))) /\ w.cell? ⟨b, 0, none⟩ = some (.string op) /\ w.cell? ⟨b, 1, none⟩ = some (.string nm) /\ w.cell? ⟨b, 2, none⟩ = some e' /\ Chain w r bot e'
theorem Chain.below {w w' : World} (h : Below w.heap.size w w') : ∀ (l : List (ByteArray × ByteArray)) (bot e : Value), Chain w l bot e -> Chain w' l bot e
  | [], _, _, hc => hc
  | (op, nm) :: r, bot, e, hc => by
    obtain ⟨b, e', he, hb, ⟨cs, t, hs⟩, h0, h1, h2, hr⟩ := hc
    exact ⟨b, e', he, Nat.lt_of_lt_of_le hb h.size, ⟨cs, t, (h.block b hb).trans hs⟩, (h.cell (p := ⟨b, 0, none⟩) hb).trans h0, (h.cell (p := ⟨b, 1, none⟩) hb).trans h1, (h.cell (p := ⟨b, 2, none⟩) hb).trans h2, Chain.below h r bot e' hr⟩
abbrev num (n : Int) : Value := .iface 62 (.int .i64 n)
abbrev flt (b : Nat) : Value := .iface 65 (.pointer (some ⟨b, 0, none⟩))
/-! the type assertions -/
theorem Tryz.unwrapFault (v : Value) (xT : TypeId) (w : World) : (Instr.typeAssert (.iface 65 v) xT 151 true).run Tryz.prog w = .ok (.tuple #[.iface 65 v, .bool true]) w := run_typeAssert_hasB Tryz.underlying151 (by kernel_rfl) v xT w
theorem Tryz.unwrapNum (v : Value) (xT : TypeId) (w : World) : (Instr.typeAssert (.iface 62 v) xT 151 true).run Tryz.prog w = .ok (.tuple #[.nilIface, .bool false]) w := run_typeAssert_lacksB Tryz.underlying151 (by kernel_rfl) (by kernel_rfl) v xT w
theorem Tryz.methodUnwrap (v : Value) (w : World) : (Go.method 477 65 v "Unwrap").run Tryz.prog w = .ok (327, v) w := by kernel_rfl
end Go.Proofs.YtleafmdjhmnjmaaGreatDoor
