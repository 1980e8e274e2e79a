/- What the statements call Is and Num of an error: told of a chain of Faults above a number, and of nil. -/
import Derived.Test.YtopegpjkkicjhaaGreatDoorWrW
namespace Go.Proofs.YtopegpjkkicjhaaGreatDoor
open Go.RowKit Go.Extern.Stop Go.Stop Go.Extern
set_option maxRecDepth 100000

set_option maxHeartbeats 1000000 in
theorem law_is (n : Int) (hn : (n == 0) = false) (w : World) (op nm : ByteArray) (l : List (ByteArray × ByteArray)) (e : Value) (hc : Chain w ((op, nm) :: l) (num n) e) (hg : GT w) :
    Calls Tryz.prog 23 #[e, .string op, .string nm, .int .i64 n] w fun ev w' => ev = .returned (.bool true) ∧ Below w.heap.size w w' := by
  have hB0 : Below w.heap.size w (w.alloc (.cells #[.pointer none] 91)) := (Below.refl _ _).alloc (Nat.le_refl _) _
  have hcH := hidden hc
  obtain ⟨b, e', rfl, hb, -, h0, h1, h2, hr⟩ := hc
  have hAs := hidden (asF (w.alloc (.cells #[.pointer none] 91)) b (.pointer none) ⟨w.heap.size, 0, none⟩ (by simp) (by simp) (hg.below hB0))
  clear h2 hr hg
  go_enter Tryz.func23, Tryz.ntmps23
  go_wp2_with fail
  refine (hAs.out).mono ?_
  rintro ev w1 ⟨rfl, W, hB1, hw1⟩
  have hsz : (w.alloc (.cells #[.pointer none] 91)).heap.size = w.heap.size + 1 := by simp
  rw [hsz] at hB1
  have hBW : Below w.heap.size w w1 := by rw [hw1]; exact (hB0.trans (hB1.mono (by omega))).setCell (Nat.le_refl _) _
  have ct : w1.cell? ⟨w.heap.size, 0, none⟩ = some (.pointer (some ⟨b, 0, none⟩)) := by
    rw [hw1]; exact World.cell?_setCell_same' _ _ _ (by rw [hB1.cell (p := ⟨w.heap.size, 0, none⟩) (by show w.heap.size < _; omega)]; simp)
  have c0 : w1.cell? ⟨b, 0, none⟩ = some (.string op) := (hBW.cell (p := ⟨b, 0, none⟩) hb).trans h0
  have c1 : w1.cell? ⟨b, 1, none⟩ = some (.string nm) := (hBW.cell (p := ⟨b, 1, none⟩) hb).trans h1
  have hI := hidden (is_chain n n w1 ((op, nm) :: l) (flt b) (hcH.out.below hBW))
  clear hw1 hB1 h0 h1 hAs hsz
  go_wp2_with (go_at_call 49; refine (hI.out).mono ?_; rintro ev w' ⟨rfl, rfl⟩)
  go_ret
  refine ⟨?_, hBW⟩
  simp

theorem law_is_nil (op nm : ByteArray) (w : World) :
    Calls Tryz.prog 23 #[.nilIface, .string op, .string nm, .int .i64 0] w fun ev w' => ev = .returned (.bool true) ∧ w' = w := by
  go_enter Tryz.func23, Tryz.ntmps23
  go_wp2
  go_ret
  exact ⟨rfl, rfl⟩
set_option maxHeartbeats 1000000 in
theorem law_num (n : Int) (w : World) (l : List (ByteArray × ByteArray)) (e : Value) (hc : Chain w l (num n) e) (hg : GT w) :
    Calls Tryz.prog 14 #[e] w fun ev w' => ev = .returned (.int .i64 n) ∧ Below w.heap.size w w' := by
  have hB0 : Below w.heap.size w (w.alloc (.cells #[.int .i64 0] 68)) := (Below.refl _ _).alloc (Nat.le_refl _) _
  obtain ⟨u, v, he⟩ := hc.held (Or.inr ⟨_, _, rfl⟩)
  subst he
  have hAs := hidden (asE n (w.alloc (.cells #[.int .i64 0] 68)) l _ (.int .i64 0) ⟨w.heap.size, 0, none⟩ (hc.below hB0) (by simp) (by simp) (hg.below hB0))
  clear hc hg
  go_enter Tryz.func14, Tryz.ntmps14
  go_wp2_with fail
  refine (hAs.out).mono ?_
  rintro ev w1 ⟨rfl, W, hB1, hw1⟩
  have hsz : (w.alloc (.cells #[.int .i64 0] 68)).heap.size = w.heap.size + 1 := by simp
  rw [hsz] at hB1
  have hBW : Below w.heap.size w w1 := by rw [hw1]; exact (hB0.trans (hB1.mono (by omega))).setCell (Nat.le_refl _) _
  have ct : w1.cell? ⟨w.heap.size, 0, none⟩ = some (.int .i64 n) := by
    rw [hw1]; exact World.cell?_setCell_same' _ _ _ (by rw [hB1.cell (p := ⟨w.heap.size, 0, none⟩) (by show w.heap.size < _; omega)]; simp)
  clear hw1 hB1 hAs hsz
  go_wp2
  go_ret
  exact ⟨rfl, hBW⟩
theorem law_num_nil (w : World) :
    Calls Tryz.prog 14 #[.nilIface] w fun ev w' => ev = .returned (.int .i64 0) ∧ w' = w := by
  go_enter Tryz.func14, Tryz.ntmps14
  go_wp2
  go_ret
  exact ⟨rfl, rfl⟩
end Go.Proofs.YtopegpjkkicjhaaGreatDoor
