/- fault's helper alone: the number at the bottom of a chain, by errors.As; nothing of a Fault with nothing at its bottom. -/
import Derived.Test.YtiaplgdplenedaaDoorCl
import Derived.RegionTactic
namespace Go.Proofs.YtiaplgdplenedaaDoor
open Go.RowKit Go.Extern.Stop Go.Stop Go.Extern
set_option maxRecDepth 100000

theorem alone_idle (p q : Addr) (w : World) :
    CallsD Tryd.prog 56 #[.pointer (some p), .pointer (some q)] .returning w fun e u' w' => e = .returned (.tuple #[]) ∧ u' = .returning ∧ w' = w := by
  refine callsD_of_wpS Tryd.func56 rfl fun c₀ cs hu => ?_
  apply wpS_seq
  apply wpS_region
  simp [wpOpsS, go_sem, recoverD, hu, Tryd.ntmps56, Exit.thenS]
  refine wpS_cond (t := false) (by simp [Act.eval, Array.replicate]) ?_
  simp only [Bool.false_eq_true, if_false]
  refine wpS_of_wp (wp_skip ?_)
  cases c₀
  simp_all [bodyPostS, results, Tryd.results56]

/-- The world in which bottom asks. -/
abbrev botW (w : World) : World := (w.alloc (.cells #[.int .i64 0] 23)).alloc (.cells #[.bool false] 4)
set_option maxHeartbeats 1000000 in
theorem alone_of (e : Value) (w : World) (n : Int) (ok : Bool)
    (hA : Hid (Calls Tryd.prog 29 #[e, .iface 124 (.pointer (some ⟨w.heap.size, 0, none⟩))] (botW w) fun ev w' => ev = .returned (.bool ok) ∧ Below (w.heap.size) w w' ∧ w.heap.size + 2 ≤ w'.heap.size ∧ w'.cell? ⟨w.heap.size, 0, none⟩ = some (.int .i64 n) ∧ w'.frozen? ⟨w.heap.size, 0, none⟩ = false ∧ w'.cell? ⟨w.heap.size + 1, 0, none⟩ = some (.bool false) ∧ w'.frozen? ⟨w.heap.size + 1, 0, none⟩ = false)) :
    Calls Tryd.prog 49 #[e] w fun ev w' => ev = .returned (.tuple #[.int .i64 n, .bool ok]) ∧ Below w.heap.size w w' := by
  have hmf : ∀ (fn : Fn) (first cap : Array Value) (w : World), (Instr.makeFunc fn first cap).run Tryd.prog w = .ok (.func fn first cap) w := fun _ _ _ _ => rfl
  go_enter_defers Tryd.func49, Tryd.ntmps49
  go_wp2_with fail
  refine (hA.out).mono ?_
  rintro ev w2 ⟨rfl, hB2, hs, c0, f0, c1, f1⟩
  clear hA
  go_wp2_with fail
  have hB3 : Below w.heap.size w (w2.setCell ⟨w.heap.size + 1, 0, none⟩ (.bool ok)) := hB2.setCell (by show w.heap.size ≤ w.heap.size + 1; omega) _
  have g0 : (w2.setCell ⟨w.heap.size + 1, 0, none⟩ (.bool ok)).cell? ⟨w.heap.size, 0, none⟩ = some (.int .i64 n) := (World.cell?_setCell_other _ _ _ _ (by intro h; simp at h)).trans c0
  have g1 : (w2.setCell ⟨w.heap.size + 1, 0, none⟩ (.bool ok)).cell? ⟨w.heap.size + 1, 0, none⟩ = some (.bool ok) := World.cell?_setCell_same' _ _ _ (by rw [c1]; rfl)
  have k0 : (w2.setCell ⟨w.heap.size + 1, 0, none⟩ (.bool ok)).frozen? ⟨w.heap.size, 0, none⟩ = false := by simp [f0]
  have k1 : (w2.setCell ⟨w.heap.size + 1, 0, none⟩ (.bool ok)).frozen? ⟨w.heap.size + 1, 0, none⟩ = false := by simp [f1]
  clear c0 c1 f0 f1 hB2 hs
  generalize w2.setCell ⟨w.heap.size + 1, 0, none⟩ (.bool ok) = w3 at hB3 g0 g1 k0 k1 ⊢
  go_region
  go_wp2
  have hB4 : Below w.heap.size w ((w3.setCell ⟨w.heap.size, 0, none⟩ (.int .i64 n)).setCell ⟨w.heap.size + 1, 0, none⟩ (.bool ok)).drew := ((hB3.setCell (Nat.le_refl _) _).setCell (by show w.heap.size ≤ w.heap.size + 1; omega) _).drew
  have q0 : ((w3.setCell ⟨w.heap.size, 0, none⟩ (.int .i64 n)).setCell ⟨w.heap.size + 1, 0, none⟩ (.bool ok)).drew.cell? ⟨w.heap.size, 0, none⟩ = some (.int .i64 n) := (World.cell?_setCell_other _ _ _ _ (by intro h; simp at h)).trans (World.cell?_setCell_same' _ _ _ (by rw [g0]; rfl))
  have q1 : ((w3.setCell ⟨w.heap.size, 0, none⟩ (.int .i64 n)).setCell ⟨w.heap.size + 1, 0, none⟩ (.bool ok)).drew.cell? ⟨w.heap.size + 1, 0, none⟩ = some (.bool ok) := World.cell?_setCell_same' _ _ _ (by rw [World.cell?_setCell_other _ _ _ _ (by intro h; simp at h), g1]; rfl)
  generalize ((w3.setCell ⟨w.heap.size, 0, none⟩ (.int .i64 n)).setCell ⟨w.heap.size + 1, 0, none⟩ (.bool ok)).drew = w4 at hB4 q0 q1 ⊢
  refine leaves_cons (f := 56) (args := #[.pointer (some ⟨w.heap.size, 0, none⟩), .pointer (some ⟨w.heap.size + 1, 0, none⟩)]) (by simp) (by simp [go_sem]) ?_
  refine (alone_idle ⟨w.heap.size, 0, none⟩ ⟨w.heap.size + 1, 0, none⟩ _).mono ?_
  rintro e u' w'' ⟨rfl, rfl, rfl⟩
  simp [Leaves, settle, results, Tryd.results49, go_sem, q0, q1]
  exact hB4

theorem botW_below (w : World) : Below w.heap.size w (botW w) := ((Below.refl _ _).alloc (Nat.le_refl _) _).alloc (by simp) _
theorem botW_size (w : World) : (botW w).heap.size = w.heap.size + 2 := by simp
abbrev GT (w : World) : Prop := w.cell? ⟨0, 0, none⟩ = some (typ 25)
theorem GT.below {w w' : World} (hg : GT w) (h : Below w.heap.size w w') : GT w' := (h.cell (p := ⟨0, 0, none⟩) (lt_of_cell hg)).trans hg
theorem alone_chain (n : Int) (w : World) (l : List (ByteArray × ByteArray)) (e : Value) (hc : Chain w l (num n) e) (hg : GT w) :
    Calls Tryd.prog 49 #[e] w fun ev w' => ev = .returned (.tuple #[.int .i64 n, .bool true]) ∧ Below w.heap.size w w' := by
  have hb1 := botW_below w
  refine alone_of e w n true (hidden ?_)
  refine (asE n (botW w) l e (.int .i64 0) _ (hc.below hb1) (by simp) (by simp) (hg.below hb1)).mono ?_
  rintro ev w' ⟨rfl, W, h2, rfl⟩
  rw [botW_size] at h2
  have c0 : W.cell? ⟨w.heap.size, 0, none⟩ = some (.int .i64 0) := (h2.cell (p := ⟨w.heap.size, 0, none⟩) (by show w.heap.size < _; omega)).trans (by simp)
  have f0 : W.frozen? ⟨w.heap.size, 0, none⟩ = false := (h2.frozen (p := ⟨w.heap.size, 0, none⟩) (by show w.heap.size < _; omega)).trans (by simp)
  have c1 : W.cell? ⟨w.heap.size + 1, 0, none⟩ = some (.bool false) := (h2.cell (p := ⟨w.heap.size + 1, 0, none⟩) (by show w.heap.size + 1 < _; omega)).trans (by simp)
  have f1 : W.frozen? ⟨w.heap.size + 1, 0, none⟩ = false := (h2.frozen (p := ⟨w.heap.size + 1, 0, none⟩) (by show w.heap.size + 1 < _; omega)).trans (by simp)
  have hs := h2.size
  rw [botW_size] at hs
  exact ⟨rfl, (hb1.trans (h2.mono (by omega))).setCell (Nat.le_refl _) _, by simp [World.setCell]; omega, World.cell?_setCell_same' _ _ _ (by rw [c0]; rfl), by simp [f0], (World.cell?_setCell_other _ _ _ _ (by intro h; simp at h)).trans c1, by simp [f1]⟩
theorem alone_raw (b : Nat) (op nm : ByteArray) (w : World) (hc : Chain w [(op, nm)] .nilIface (flt b)) (hg : GT w) :
    Calls Tryd.prog 49 #[flt b] w fun ev w' => ev = .returned (.tuple #[.int .i64 0, .bool false]) ∧ Below w.heap.size w w' := by
  have hb1 := botW_below w
  refine alone_of (flt b) w 0 false (hidden ?_)
  refine (asE_nothing (botW w) [(op, nm)] _ _ (hc.below hb1) (hg.below hb1)).mono ?_
  rintro ev w' ⟨rfl, h2⟩
  have hs := h2.size
  rw [botW_size] at h2 hs
  exact ⟨rfl, hb1.trans (h2.mono (by omega)), by omega, (h2.cell (p := ⟨w.heap.size, 0, none⟩) (by show w.heap.size < _; omega)).trans (by simp), (h2.frozen (p := ⟨w.heap.size, 0, none⟩) (by show w.heap.size < _; omega)).trans (by simp), (h2.cell (p := ⟨w.heap.size + 1, 0, none⟩) (by show w.heap.size + 1 < _; omega)).trans (by simp), (h2.frozen (p := ⟨w.heap.size + 1, 0, none⟩) (by show w.heap.size + 1 < _; omega)).trans (by simp)⟩
end Go.Proofs.YtiaplgdplenedaaDoor
