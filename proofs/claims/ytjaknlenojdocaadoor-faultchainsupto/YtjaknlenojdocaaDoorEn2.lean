/- fault's helper that asks whether a chain ends: it does at nil and at a Fault with nothing at its bottom. -/
import Derived.Test.YtjaknlenojdocaaDoorEn
namespace Go.Proofs.YtjaknlenojdocaaDoor
open Go.RowKit Go.Extern.Stop Go.Stop Go.Extern
set_option maxRecDepth 100000

set_option maxHeartbeats 1000000 in
theorem ends_nil (w : World) :
    Calls Tryd.prog 26 #[.nilIface] w fun ev w' => ev = .returned (.bool true) ∧ Below w.heap.size w w' := by
  have hB : Below w.heap.size w (w.alloc (.cells #[.nilIface] 25)) := (Below.refl _ _).alloc (Nat.le_refl _) _
  go_enter Tryd.func26, Tryd.ntmps26
  go_wp2_with fail
  refine wp_loop_rounds 2 ?_
  rw [rounds_succ]
  go_wp2_with (go_at_call 32; refine (next_nil _).mono ?_; rintro ev w' ⟨rfl, rfl⟩)
  refine (joined_nil _).mono ?_
  rintro ev w1 ⟨rfl, hB1⟩
  go_wp2
  rw [rounds_succ]
  go_wp2
  go_ret
  exact ⟨rfl, (hB.alloc (by simp) _).trans (hB1.mono (by simp; omega))⟩

set_option maxHeartbeats 1000000 in
theorem ends_raw (b : Nat) (w : World) (hb : b < w.heap.size) (h2 : w.cell? ⟨b, 2, none⟩ = some .nilIface) :
    Calls Tryd.prog 26 #[flt b] w fun ev w' => ev = .returned (.bool true) ∧ Below w.heap.size w w' := by
  have h2' : (w.alloc (.cells #[flt b] 25)).cell? ⟨b, 2, none⟩ = some .nilIface := (World.cell?_alloc_lt _ _ ⟨b, 2, none⟩ hb).trans h2
  clear h2
  have hB : Below w.heap.size w (w.alloc (.cells #[flt b] 25)) := (Below.refl _ _).alloc (Nat.le_refl _) _
  go_enter Tryd.func26, Tryd.ntmps26
  go_wp2_with fail
  refine wp_loop_rounds 2 ?_
  rw [rounds_succ]
  go_wp2_with (go_at_call 32; refine (next_last b _ (by simp; omega) h2').mono ?_; rintro ev w' ⟨rfl, rfl⟩)
  refine (joined_raw b _ (by simp; omega) ((World.cell?_alloc_lt _ _ ⟨b, 2, none⟩ (by simp; omega)).trans h2')).mono ?_
  rintro ev w1 ⟨rfl, hB1⟩
  go_wp2
  rw [rounds_succ]
  go_wp2
  go_ret
  exact ⟨rfl, (hB.alloc (by simp) _).trans (hB1.mono (by simp; omega))⟩
end Go.Proofs.YtjaknlenojdocaaDoor
