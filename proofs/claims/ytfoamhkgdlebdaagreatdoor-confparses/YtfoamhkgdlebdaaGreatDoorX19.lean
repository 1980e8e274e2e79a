/- What the statements of layer 14 ask besides: small and awake. -/
import Derived.Test.YtfoamhkgdlebdaaGreatDoorX18
import Derived.Deep.RegionHeld
namespace Go.Proofs.YtfoamhkgdlebdaaGreatDoor
open Go.RowKit Go.Extern.Stop Go.Stop Go.Extern
set_option maxRecDepth 100000

set_option maxHeartbeats 1000000 in
theorem law_is (n : Int) (hn : (n == 0) = false) (w : World) (op nm : ByteArray) (l : List (ByteArray × ByteArray)) (e : Value) (hc : Chain w ((op, nm) :: l) (num n) e) (hg : GT w) :
    Calls Tryz.prog 8 #[e, .string op, .string nm, .int .i64 n] w fun ev w' => ev = .returned (.bool true) ∧ Below w.heap.size w w' := by
  have hB0 : Below w.heap.size w (w.alloc (.cells #[.pointer none] 48)) := (Below.refl _ _).alloc (Nat.le_refl _) _
  have hcH := hidden hc
  obtain ⟨b, e', rfl, hb, -, h0, h1, h2, hr⟩ := hc
  have hAs := hidden (asF (w.alloc (.cells #[.pointer none] 48)) b (.pointer none) ⟨w.heap.size, 0, none⟩ (by simp) (by simp) (hg.below hB0))
  clear h2 hr hg
  go_enter Tryz.func8, Tryz.ntmps8
  go_wp2_with fail
  refine (hAs.out).mono ?_
  rintro ev w1 ⟨rfl, W, hB1, hw1⟩
  have hsz : (w.alloc (.cells #[.pointer none] 48)).heap.size = w.heap.size + 1 := by simp
  rw [hsz] at hB1
  have hBW : Below w.heap.size w w1 := by rw [hw1]; exact (hB0.trans (hB1.mono (by omega))).setCell (Nat.le_refl _) _
  have ct : w1.cell? ⟨w.heap.size, 0, none⟩ = some (.pointer (some ⟨b, 0, none⟩)) := by
    rw [hw1]; exact World.cell?_setCell_same' _ _ _ (by rw [hB1.cell (p := ⟨w.heap.size, 0, none⟩) (by show w.heap.size < _; omega)]; simp)
  have c0 : w1.cell? ⟨b, 0, none⟩ = some (.string op) := (hBW.cell (p := ⟨b, 0, none⟩) hb).trans h0
  have c1 : w1.cell? ⟨b, 1, none⟩ = some (.string nm) := (hBW.cell (p := ⟨b, 1, none⟩) hb).trans h1
  have hI := hidden (is_chain n n w1 ((op, nm) :: l) (flt b) (hcH.out.below hBW))
  clear hw1 hB1 h0 h1 hAs hsz
  go_wp2_with (go_at_call 18; refine (hI.out).mono ?_; rintro ev w' ⟨rfl, rfl⟩)
  go_ret
  refine ⟨?_, hBW⟩
  simp

theorem law_is_nil (op nm : ByteArray) (w : World) :
    Calls Tryz.prog 8 #[.nilIface, .string op, .string nm, .int .i64 0] w fun ev w' => ev = .returned (.bool true) ∧ w' = w := by
  go_enter Tryz.func8, Tryz.ntmps8
  go_wp2
  go_ret
  exact ⟨rfl, rfl⟩
def aw0 : List UInt8 := [107, 101, 114, 110, 101, 108, 32, 107, 32, 48, 48, 48, 48, 48, 48, 48, 48, 48, 48, 48, 48, 48, 48, 48, 48, 10, 35, 32, 110, 111, 116, 101, 10, 118, 101, 114, 115, 105, 111, 110, 32, 49, 46, 50]
def aw1 : List UInt8 := [118, 101, 114, 115, 105, 111, 110, 32, 49]
def zr : List UInt8 := [48, 48, 48, 48, 48, 48, 48, 48, 48, 48, 48, 48, 48, 48, 48, 48]
def awE : En := ⟨[49, 46, 50], [107], zr, [], []⟩
def aw2 : List UInt8 := [118, 101, 114, 115, 105, 111, 110, 32, 49, 46, 50, 10, 107, 101, 114, 110, 101, 108, 32, 107, 32, 48, 48, 48, 48, 48, 48, 48, 48, 48, 48, 48, 48, 48, 48, 48, 48, 10]
theorem aw_lines : linesB aw0 = [lnB kwK ([107], zr), [35, 32, 110, 111, 116, 101], lnV [49, 46, 50]] := by decide
theorem aw_lines1 : linesB aw1 = [lnV [49]] := by decide
theorem aw_ok : OkE awE := ⟨by decide, by decide, by decide, by decide, by decide⟩
theorem aw_read : readL (linesB aw0) 0 e0 = .inr awE := by
  rw [aw_lines, readL, take_lnK rfl rfl (by decide)]
  simp only []
  rw [readL, takeL, if_pos (by decide)]
  simp only []
  rw [readL, take_lnV rfl (by decide)]
  rfl
theorem aw_read1 : readL (linesB aw1) 0 e0 = .inl 0 := by
  rw [aw_lines1, readL, take_lnV rfl (by decide)]
  rfl
theorem aw_print : printL awE = aw2 := by decide
end Go.Proofs.YtfoamhkgdlebdaaGreatDoor
