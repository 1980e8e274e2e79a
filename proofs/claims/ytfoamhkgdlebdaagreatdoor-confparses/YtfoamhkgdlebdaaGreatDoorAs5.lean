/- errors.As itself: into an *Errno it finds the number at the bottom of a chain, or nothing where there is none; into a **Fault the outmost Fault; a target with Unwrap() []error finds nothing in an Errno. Nothing that was there before is changed but the target. -/
import Derived.Test.YtfoamhkgdlebdaaGreatDoorAs4
namespace Go.Proofs.YtfoamhkgdlebdaaGreatDoor
open Go.RowKit Go.Extern.Stop Go.Stop Go.Extern
set_option maxRecDepth 100000

theorem hidden {p : Prop} (h : p) : Hid p := h

theorem Chain.held {w : World} {l : List (ByteArray × ByteArray)} {bot e : Value} (hc : Chain w l bot e) (h : l ≠ [] ∨ ∃ u v, bot = .iface u v) : ∃ u v, e = .iface u v := by
  cases l with
  | nil =>
    rcases h with h | ⟨u, v, rfl⟩
    · exact absurd rfl h
    · exact ⟨u, v, hc⟩
  | cons p r =>
    obtain ⟨op, nm⟩ := p
    obtain ⟨b, e', rfl, _⟩ := hc
    exact ⟨_, _, rfl⟩

/-- The world in which errors.As calls errors.as. -/
abbrev asked (w : World) (pt : TypeId) (t : Addr) : World := (w.alloc (.cells #[.pointer (some t)] pt)).alloc (.cells #[hdl pt, .pointer (some ⟨w.heap.size, 0, none⟩), .int .u64 150] 71)
theorem asked_below (w : World) (pt : TypeId) (t : Addr) : Below w.heap.size w (asked w pt t) := ((Below.refl _ _).alloc (Nat.le_refl _) _).alloc (by simp) _
theorem boxed_below (w : World) (pt : TypeId) (a : Addr) : Below w.heap.size w (boxed w pt a) := (Below.refl _ _).alloc (Nat.le_refl _) _
theorem asked_cell (w : World) (pt : TypeId) (t : Addr) : (asked w pt t).cell? ⟨w.heap.size, 0, none⟩ = some (.pointer (some t)) := by simp
theorem asked_size (w : World) (pt : TypeId) (t : Addr) : (asked w pt t).heap.size = w.heap.size + 2 := by simp
theorem lt_of_cell {w : World} {a : Addr} {v : Value} (h : w.cell? a = some v) : a.block < w.heap.size := by
  rcases Nat.lt_or_ge a.block w.heap.size with h1 | h1
  · exact h1
  · simp [World.cell?, Array.getElem?_eq_none h1] at h



set_option maxHeartbeats 1000000 in
theorem asF (w : World) (b : Nat) (old : Value) (t : Addr) (ht : w.cell? t = some old) (hf : w.frozen? t = false) (hg : w.cell? ⟨0, 0, none⟩ = some (typ 31)) :
    Calls Tryz.prog 17 #[flt b, .iface 50 (.pointer (some t))] w fun ev w' => ev = .returned (.bool true) ∧ ∃ W, Below w.heap.size w W ∧ w' = W.setCell t (.pointer (some ⟨b, 0, none⟩)) := by
  have hlow := hidden <| asF_low (asked w 50 t) b old ⟨w.heap.size, 0, none⟩ t (asked_cell _ _ _) ((asked_below w _ t |>.cell (lt_of_cell ht)).trans ht) ((asked_below w _ t |>.frozen (lt_of_cell ht)).trans hf) (by rw [asked_size]; show w.heap.size < _; omega) (by rw [asked_size]; have := lt_of_cell ht; omega)
  have c1 := Tryz.valueOfF
  have c2 := Tryz.typeF
  have c3 := Tryz.methodKind
  have c4 := Tryz.kindPF
  have c5 := Tryz.isNilAt 50 48 ⟨w.heap.size, 0, none⟩ t (asked w 50 t) (Tryz.partsPF _ _) Tryz.underlying50 (asked_cell _ _ _)
  have c6 := Tryz.methodElem
  have c7 := Tryz.elemPF
  have c8 := Tryz.kindF
  have c9 := Tryz.methodImplements
  have d1 := Tryz.implF
  have hg2 : (asked w 50 t).cell? ⟨0, 0, none⟩ = some (typ 31) := (asked_below w 50 t |>.cell (p := ⟨0, 0, none⟩) (lt_of_cell hg)).trans hg
  clear hg
  clear ht hf
  go_enter Tryz.func17, Tryz.ntmps17
  go_wp2_with (go_at_call 31; refine (hlow.out).mono ?_; rintro ev w' ⟨rfl, rfl⟩)
  go_ret
  exact ⟨rfl, _, ((asked_below w _ t).trans ((boxed_below _ _ _).mono (by simp; omega))).alloc (by simp; omega) _, rfl⟩

end Go.Proofs.YtfoamhkgdlebdaaGreatDoor
