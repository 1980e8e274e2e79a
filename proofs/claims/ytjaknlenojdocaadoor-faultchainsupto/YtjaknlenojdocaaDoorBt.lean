/- fault.Num: the number at the bottom of a chain of fewer than 1,000,000 Faults; OK of nil; ErrArg of a Fault with nothing at its bottom. -/
import Derived.Test.YtjaknlenojdocaaDoorEn2
import Derived.RegionTactic
namespace Go.Proofs.YtjaknlenojdocaaDoor
open Go.RowKit Go.Extern.Stop Go.Stop Go.Extern
set_option maxRecDepth 100000

theorem bottom_idle (p q : Addr) (w : World) :
    CallsD Tryd.prog 34 #[.pointer (some p), .pointer (some q)] .returning w fun e u' w' => e = .returned (.tuple #[]) ∧ u' = .returning ∧ w' = w := by
  refine callsD_of_wpS Tryd.func34 rfl fun c₀ cs hu => ?_
  apply wpS_seq
  apply wpS_region
  simp [wpOpsS, go_sem, recoverD, hu, Tryd.ntmps34, Exit.thenS]
  refine wpS_cond (t := false) (by simp [Act.eval, Array.replicate]) ?_
  simp only [Bool.false_eq_true, if_false]
  refine wpS_of_wp (wp_skip ?_)
  cases c₀
  simp_all [bodyPostS, results, Tryd.results34]

/-- The world in which bottom asks. -/
abbrev botW (w : World) : World := (w.alloc (.cells #[.int .i64 0] 23)).alloc (.cells #[.bool false] 4)
set_option maxHeartbeats 1000000 in
theorem bottom_of (e : Value) (w : World) (n : Int) (ok : Bool)
    (hE : Hid (Calls Tryd.prog 26 #[e] (botW w) fun ev w' => ev = .returned (.bool true) ∧ Below (botW w).heap.size (botW w) w'))
    (hA : ∀ w1, Below (botW w).heap.size (botW w) w1 → Hid (Calls Tryd.prog 27 #[e, .iface 70 (.pointer (some ⟨w.heap.size, 0, none⟩))] w1 fun ev w' => ev = .returned (.bool ok) ∧ Below (w.heap.size) w w' ∧ w.heap.size + 2 ≤ w'.heap.size ∧ w'.cell? ⟨w.heap.size, 0, none⟩ = some (.int .i64 n) ∧ w'.frozen? ⟨w.heap.size, 0, none⟩ = false ∧ w'.cell? ⟨w.heap.size + 1, 0, none⟩ = some (.bool false) ∧ w'.frozen? ⟨w.heap.size + 1, 0, none⟩ = false)) :
    Calls Tryd.prog 25 #[e] w fun ev w' => ev = .returned (.tuple #[.int .i64 n, .bool ok]) ∧ Below w.heap.size w w' := by
  have hmf : ∀ (fn : Fn) (first cap : Array Value) (w : World), (Instr.makeFunc fn first cap).run Tryd.prog w = .ok (.func fn first cap) w := fun _ _ _ _ => rfl
  go_enter_defers Tryd.func25, Tryd.ntmps25
  go_wp2_with fail
  refine (hE.out).mono ?_
  rintro ev w1 ⟨rfl, hB1⟩
  have hA' := hA w1 hB1
  clear hA hE
  go_wp2_with fail
  refine (hA'.out).mono ?_
  rintro ev w2 ⟨rfl, hB2, hs, c0, f0, c1, f1⟩
  clear hB1 hA'
  go_wp2_with fail
  have hB3 : Below w.heap.size w (w2.setCell ⟨w.heap.size + 1, 0, none⟩ (.bool ok)) := hB2.setCell (by show w.heap.size ≤ w.heap.size + 1; omega) _
  have g0 : (w2.setCell ⟨w.heap.size + 1, 0, none⟩ (.bool ok)).cell? ⟨w.heap.size, 0, none⟩ = some (.int .i64 n) := (World.cell?_setCell_other _ _ _ _ (by intro h; simp at h)).trans c0
  have g1 : (w2.setCell ⟨w.heap.size + 1, 0, none⟩ (.bool ok)).cell? ⟨w.heap.size + 1, 0, none⟩ = some (.bool ok) := World.cell?_setCell_same' _ _ _ (by rw [c1]; rfl)
  have k0 : (w2.setCell ⟨w.heap.size + 1, 0, none⟩ (.bool ok)).frozen? ⟨w.heap.size, 0, none⟩ = false := by simp [f0]
  have k1 : (w2.setCell ⟨w.heap.size + 1, 0, none⟩ (.bool ok)).frozen? ⟨w.heap.size + 1, 0, none⟩ = false := by simp [f1]
  clear c0 c1 f0 f1 hB2 hs
  generalize w2.setCell ⟨w.heap.size + 1, 0, none⟩ (.bool ok) = w3 at hB3 g0 g1 k0 k1 ⊢
  go_region
  go_wp2
  have hB4 : Below w.heap.size w ((w3.setCell ⟨w.heap.size, 0, none⟩ (.int .i64 n)).setCell ⟨w.heap.size + 1, 0, none⟩ (.bool ok)).drew := ((hB3.setCell (Nat.le_refl _) _).setCell (by show w.heap.size ≤ w.heap.size + 1; omega) _).drew
  have q0 : ((w3.setCell ⟨w.heap.size, 0, none⟩ (.int .i64 n)).setCell ⟨w.heap.size + 1, 0, none⟩ (.bool ok)).drew.cell? ⟨w.heap.size, 0, none⟩ = some (.int .i64 n) := (World.cell?_setCell_other _ _ _ _ (by intro h; simp at h)).trans (World.cell?_setCell_same' _ _ _ (by rw [g0]; rfl))
  have q1 : ((w3.setCell ⟨w.heap.size, 0, none⟩ (.int .i64 n)).setCell ⟨w.heap.size + 1, 0, none⟩ (.bool ok)).drew.cell? ⟨w.heap.size + 1, 0, none⟩ = some (.bool ok) := World.cell?_setCell_same' _ _ _ (by rw [World.cell?_setCell_other _ _ _ _ (by intro h; simp at h), g1]; rfl)
  generalize ((w3.setCell ⟨w.heap.size, 0, none⟩ (.int .i64 n)).setCell ⟨w.heap.size + 1, 0, none⟩ (.bool ok)).drew = w4 at hB4 q0 q1 ⊢
  refine leaves_cons (f := 34) (args := #[.pointer (some ⟨w.heap.size, 0, none⟩), .pointer (some ⟨w.heap.size + 1, 0, none⟩)]) (by simp) (by simp [go_sem]) ?_
  refine (bottom_idle ⟨w.heap.size, 0, none⟩ ⟨w.heap.size + 1, 0, none⟩ _).mono ?_
  rintro e u' w'' ⟨rfl, rfl, rfl⟩
  simp [Leaves, settle, results, Tryd.results25, go_sem, q0, q1]
  exact hB4

theorem botW_below (w : World) : Below w.heap.size w (botW w) := ((Below.refl _ _).alloc (Nat.le_refl _) _).alloc (by simp) _
theorem botW_size (w : World) : (botW w).heap.size = w.heap.size + 2 := by simp
/-- What bottom asks of errors.As, when the target is found. -/
theorem bottom_hit {w w1 W w' : World} {n : Int} (h1 : Below (botW w).heap.size (botW w) w1) (h2 : Below w1.heap.size w1 W) (h3 : w' = W.setCell ⟨w.heap.size, 0, none⟩ (.int .i64 n)) :
    Below (w.heap.size) w w' ∧ w.heap.size + 2 ≤ w'.heap.size ∧ w'.cell? ⟨w.heap.size, 0, none⟩ = some (.int .i64 n) ∧ w'.frozen? ⟨w.heap.size, 0, none⟩ = false ∧ w'.cell? ⟨w.heap.size + 1, 0, none⟩ = some (.bool false) ∧ w'.frozen? ⟨w.heap.size + 1, 0, none⟩ = false := by
  have s1 := h1.size
  have s2 := h2.size
  rw [botW_size] at h1 s1
  have h12 : Below (w.heap.size + 2) (botW w) W := h1.trans (h2.mono s1)
  have c0 : W.cell? ⟨w.heap.size, 0, none⟩ = some (.int .i64 0) := (h12.cell (p := ⟨w.heap.size, 0, none⟩) (by show w.heap.size < _; omega)).trans (by simp)
  have f0 : W.frozen? ⟨w.heap.size, 0, none⟩ = false := (h12.frozen (p := ⟨w.heap.size, 0, none⟩) (by show w.heap.size < _; omega)).trans (by simp)
  have c1 : W.cell? ⟨w.heap.size + 1, 0, none⟩ = some (.bool false) := (h12.cell (p := ⟨w.heap.size + 1, 0, none⟩) (by show w.heap.size + 1 < _; omega)).trans (by simp)
  have f1 : W.frozen? ⟨w.heap.size + 1, 0, none⟩ = false := (h12.frozen (p := ⟨w.heap.size + 1, 0, none⟩) (by show w.heap.size + 1 < _; omega)).trans (by simp)
  subst h3
  refine ⟨((botW_below w).trans (h12.mono (by omega))).setCell (Nat.le_refl _) _, by simp [World.setCell]; omega, World.cell?_setCell_same' _ _ _ (by rw [c0]; rfl), by simp [f0], (World.cell?_setCell_other _ _ _ _ (by intro h; simp at h)).trans c1, by simp [f1]⟩

theorem bottom_chain (n : Int) (w : World) (l : List (ByteArray × ByteArray)) (e : Value) (hc : Chain w l (num n) e) (hl : l.length < 1000000) (hg : w.cell? ⟨0, 0, none⟩ = some (typ 25)) :
    Calls Tryd.prog 25 #[e] w fun ev w' => ev = .returned (.tuple #[.int .i64 n, .bool true]) ∧ Below w.heap.size w w' := by
  refine bottom_of e w n true (hidden (ends_chain n _ l e (hc.below (botW_below w)) hl)) fun w1 h1 => hidden ?_
  have h1' := h1
  rw [botW_size] at h1'
  have hb1 : Below w.heap.size w w1 := (botW_below w).trans (h1'.mono (by omega))
  have c0 : w1.cell? ⟨w.heap.size, 0, none⟩ = some (.int .i64 0) := (h1'.cell (p := ⟨w.heap.size, 0, none⟩) (by show w.heap.size < _; omega)).trans (by simp)
  have f0 : w1.frozen? ⟨w.heap.size, 0, none⟩ = false := (h1'.frozen (p := ⟨w.heap.size, 0, none⟩) (by show w.heap.size < _; omega)).trans (by simp)
  refine (asE n w1 l e _ _ (hc.below hb1) c0 f0 ((hb1.cell (p := ⟨0, 0, none⟩) (lt_of_cell hg)).trans hg)).mono ?_
  rintro ev w' ⟨rfl, W, h2, h3⟩
  exact ⟨rfl, bottom_hit h1 h2 h3⟩
theorem bottom_raw (b : Nat) (op nm : ByteArray) (w : World) (hc : Chain w [(op, nm)] .nilIface (flt b)) (hg : w.cell? ⟨0, 0, none⟩ = some (typ 25)) :
    Calls Tryd.prog 25 #[flt b] w fun ev w' => ev = .returned (.tuple #[.int .i64 0, .bool false]) ∧ Below w.heap.size w w' := by
  obtain ⟨b', e', he, hb, -, -, h2, hr⟩ := hc.below (botW_below w)
  have he' : e' = .nilIface := hr
  subst he'
  have hbb : b = b' := by simpa using he
  subst hbb
  refine bottom_of (flt b) w 0 false (hidden (ends_raw b _ hb h2)) fun w1 h1 => hidden ?_
  have h1' := h1
  rw [botW_size] at h1'
  have hb1 : Below w.heap.size w w1 := (botW_below w).trans (h1'.mono (by omega))
  refine (asE_nothing w1 [(op, nm)] _ _ (hc.below hb1) ((hb1.cell (p := ⟨0, 0, none⟩) (lt_of_cell hg)).trans hg)).mono ?_
  rintro ev w' ⟨rfl, h2⟩
  have s1 := h1.size
  have s2 := h2.size
  rw [botW_size] at s1
  have h12 : Below (w.heap.size + 2) (botW w) w' := h1'.trans (h2.mono s1)
  exact ⟨rfl, (botW_below w).trans (h12.mono (by omega)), by omega, (h12.cell (p := ⟨w.heap.size, 0, none⟩) (by show w.heap.size < _; omega)).trans (by simp), (h12.frozen (p := ⟨w.heap.size, 0, none⟩) (by show w.heap.size < _; omega)).trans (by simp), (h12.cell (p := ⟨w.heap.size + 1, 0, none⟩) (by show w.heap.size + 1 < _; omega)).trans (by simp), (h12.frozen (p := ⟨w.heap.size + 1, 0, none⟩) (by show w.heap.size + 1 < _; omega)).trans (by simp)⟩

/-! fault.Num -/
theorem num_nil (w : World) : Calls Tryd.prog 14 #[.nilIface] w fun ev w' => ev = .returned (.int .i64 0) ∧ w' = w := by
  go_enter Tryd.func14, Tryd.ntmps14
  go_wp2
  go_ret
  exact ⟨rfl, rfl⟩
theorem num_chain (n : Int) (w : World) (l : List (ByteArray × ByteArray)) (e : Value) (hc : Chain w l (num n) e) (hl : l.length < 1000000) (hg : w.cell? ⟨0, 0, none⟩ = some (typ 25)) :
    Calls Tryd.prog 14 #[e] w fun ev w' => ev = .returned (.int .i64 n) ∧ Below w.heap.size w w' := by
  have hbot := hidden (bottom_chain n w l e hc hl hg)
  obtain ⟨u, v, rfl⟩ := hc.held (Or.inr ⟨_, _, rfl⟩)
  clear hc hl hg
  go_enter Tryd.func14, Tryd.ntmps14
  go_wp2_with (go_at_call 25; refine (hbot.out).mono ?_; rintro ev w' ⟨rfl, hb⟩)
  go_ret
  exact ⟨rfl, hb⟩
theorem num_raw (b : Nat) (op nm : ByteArray) (w : World) (hc : Chain w [(op, nm)] .nilIface (flt b)) (hg : w.cell? ⟨0, 0, none⟩ = some (typ 25)) :
    Calls Tryd.prog 14 #[flt b] w fun ev w' => ev = .returned (.int .i64 1) ∧ Below w.heap.size w w' := by
  have hbot := hidden (bottom_raw b op nm w hc hg)
  clear hc hg
  go_enter Tryd.func14, Tryd.ntmps14
  go_wp2_with (go_at_call 25; refine (hbot.out).mono ?_; rintro ev w' ⟨rfl, hb⟩)
  go_ret
  exact ⟨rfl, hb⟩
end Go.Proofs.YtjaknlenojdocaaDoor
