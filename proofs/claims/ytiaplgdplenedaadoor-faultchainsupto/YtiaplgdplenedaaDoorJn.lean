/- fault's helper that asks for joined errors: it finds none in an Errno, in nil, or in a Fault with nothing at its bottom. -/
import Derived.Test.YtiaplgdplenedaaDoorFl
namespace Go.Proofs.YtiaplgdplenedaaDoor
open Go.RowKit Go.Extern.Stop Go.Stop Go.Extern
set_option maxRecDepth 100000

set_option maxHeartbeats 1000000 in
theorem asJ_raw_low (w : World) (b : Nat) (a t : Addr) (hb : b < w.heap.size) (h2 : w.cell? ⟨b, 2, none⟩ = some .nilIface) :
    Calls Tryd.prog 40 #[flt b, .iface 123 (.pointer (some t)), rval 123 a 150, typ 94] w fun ev w' =>
      ev = .returned (.bool false) ∧ w' = boxed w 123 a := by
  have b1 := Tryd.callTypeOfFault
  have b3 := Tryd.methodAssignableTo
  have b4 := Tryd.assFJ
  have b6 := Tryd.asFault
  have b7 := Tryd.unwrapFault
  have b8 := Tryd.methodUnwrap
  have h2' : (boxed w 123 a).cell? ⟨b, 2, none⟩ = some .nilIface := (World.cell?_alloc_lt _ _ ⟨b, 2, none⟩ hb).trans h2
  clear h2
  go_enter Tryd.func40, Tryd.ntmps40
  go_wp2
  refine wp_loop_rounds 1 ?_
  rw [rounds_succ]
  go_wp2
  go_ret
  exact ⟨rfl, rfl⟩
set_option maxHeartbeats 1000000 in
theorem asJ_raw (w : World) (b : Nat) (t : Addr) (hb : b < w.heap.size) (h2 : w.cell? ⟨b, 2, none⟩ = some .nilIface) :
    Calls Tryd.prog 29 #[flt b, .iface 123 (.pointer (some t))] w fun ev w' => ev = .returned (.bool false) ∧ Below w.heap.size w w' := by
  have hlow := hidden <| asJ_raw_low (asked w 123 t) b ⟨w.heap.size, 0, none⟩ t (by simp; omega) (((asked_below w _ t).cell (p := ⟨b, 2, none⟩) hb).trans h2)
  clear h2
  have c1 := Tryd.valueOfJ
  have c2 := Tryd.typeJ
  have c3 := Tryd.methodKind
  have c4 := Tryd.kindPJ
  have c5 := Tryd.isNilAt 123 94 ⟨w.heap.size, 0, none⟩ t (asked w 123 t) (Tryd.partsPJ _ _) Tryd.underlying123 (asked_cell _ _ _)
  have c6 := Tryd.methodElem
  have c7 := Tryd.elemPJ
  have c8 := Tryd.kindJ
  go_enter Tryd.func29, Tryd.ntmps29
  go_wp2_with (go_at_call 40; refine (hlow.out).mono ?_; rintro ev w' ⟨rfl, rfl⟩)
  go_ret
  exact ⟨rfl, (asked_below w _ t).trans ((boxed_below _ _ _).mono (by simp; omega))⟩

theorem joined_idle (p : Addr) (w : World) :
    CallsD Tryd.prog 55 #[.pointer (some p)] .returning w fun e u' w' => e = .returned (.tuple #[]) ∧ u' = .returning ∧ w' = w := by
  refine callsD_of_wpS Tryd.func55 rfl fun c₀ cs hu => ?_
  apply wpS_seq
  apply wpS_region
  simp [wpOpsS, go_sem, recoverD, hu, Tryd.ntmps55, Exit.thenS]
  refine wpS_cond (t := false) (by simp [Act.eval, Array.replicate]) ?_
  simp only [Bool.false_eq_true, if_false]
  refine wpS_of_wp (wp_skip ?_)
  cases c₀
  simp_all [bodyPostS, results, Tryd.results55]

/-- The world in which joined calls errors.As. -/
abbrev joinW (w : World) : World := (w.alloc (.cells #[.slice none 0 0] 72)).alloc (.cells #[.nilIface] 94)
set_option maxHeartbeats 1000000 in
theorem joined_of (e : Value) (w : World) (hAs : Hid (Calls Tryd.prog 29 #[e, .iface 123 (.pointer (some ⟨w.heap.size + 1, 0, none⟩))] (joinW w) fun ev w' => ev = .returned (.bool false) ∧ Below (joinW w).heap.size (joinW w) w')) :
    Calls Tryd.prog 48 #[e] w fun ev w' => ev = .returned (.slice none 0 0) ∧ Below w.heap.size w w' := by
  have hmf : ∀ (fn : Fn) (first cap : Array Value) (w : World), (Instr.makeFunc fn first cap).run Tryd.prog w = .ok (.func fn first cap) w := fun _ _ _ _ => rfl
  go_enter_defers Tryd.func48, Tryd.ntmps48
  go_wp2_with fail
  refine (hAs.out).mono ?_
  rintro ev w' ⟨rfl, hb⟩
  have hb : Below (w.heap.size + 2) (joinW w) w' := by simpa using hb
  have hc : w'.cell? ⟨w.heap.size, 0, none⟩ = some (.slice none 0 0) := (hb.cell (p := ⟨w.heap.size, 0, none⟩) (by show w.heap.size < _; omega)).trans (by simp)
  have hz : w'.frozen? ⟨w.heap.size, 0, none⟩ = false := (hb.frozen (p := ⟨w.heap.size, 0, none⟩) (by show w.heap.size < _; omega)).trans (by simp)
  go_wp2
  refine leaves_cons (f := 55) (args := #[.pointer (some ⟨w.heap.size, 0, none⟩)]) (by simp) (by simp [go_sem]) ?_
  refine (joined_idle ⟨w.heap.size, 0, none⟩ _).mono ?_
  rintro e u' w'' ⟨rfl, rfl, rfl⟩
  have hB : Below w.heap.size w (w'.setCell ⟨w.heap.size, 0, none⟩ (.slice none 0 0)) := ((((Below.refl _ _).alloc (Nat.le_refl _) _).alloc (by simp) _).trans (hb.mono (by omega))).setCell (Nat.le_refl _) _
  simp [Leaves, settle, results, Tryd.results48, go_sem, hc]
  exact hB

theorem joined_num (n : Int) (w : World) : Calls Tryd.prog 48 #[num n] w fun ev w' => ev = .returned (.slice none 0 0) ∧ Below w.heap.size w w' :=
  joined_of _ w (hidden (asJ (joinW w) n _))
theorem joined_nil (w : World) : Calls Tryd.prog 48 #[.nilIface] w fun ev w' => ev = .returned (.slice none 0 0) ∧ Below w.heap.size w w' :=
  joined_of _ w (hidden ((as_nil _ (joinW w)).mono fun _ _ h => ⟨h.1, by rw [h.2]; exact Below.refl _ _⟩))
theorem joinW_below (w : World) : Below w.heap.size w (joinW w) := ((Below.refl _ _).alloc (Nat.le_refl _) _).alloc (by simp) _
theorem joined_raw (b : Nat) (w : World) (hb : b < w.heap.size) (h2 : w.cell? ⟨b, 2, none⟩ = some .nilIface) : Calls Tryd.prog 48 #[flt b] w fun ev w' => ev = .returned (.slice none 0 0) ∧ Below w.heap.size w w' :=
  joined_of _ w (hidden (asJ_raw (joinW w) b _ (by simp; omega) (((joinW_below w).cell (p := ⟨b, 2, none⟩) hb).trans h2)))
end Go.Proofs.YtiaplgdplenedaaDoor
