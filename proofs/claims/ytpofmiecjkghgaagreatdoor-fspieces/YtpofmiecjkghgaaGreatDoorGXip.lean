/- Room. -/
import Derived.Test.YtpofmiecjkghgaaGreatDoorGWgp
import Derived.Deep.RegionHeld
import Derived.Test.YtpofmiecjkghgaaGreatDoorGXfp
namespace Go.Proofs.YtpofmiecjkghgaaGreatDoor
open Go.RowKit Go.Extern.Stop Go.Stop Go.Extern Go.Maps Go.Sort Go.Shelf
set_option maxRecDepth 100000
structure RmAt (w : World) (x : Nat) (a b c d : Int) : Prop where
  c0 : w.cell? ⟨x, 0, none⟩ = some (.int .i64 a)
  c1 : w.cell? ⟨x, 1, none⟩ = some (.int .i64 b)
  c2 : w.cell? ⟨x, 2, none⟩ = some (.int .i64 c)
  c3 : w.cell? ⟨x, 3, none⟩ = some (.int .i64 d)
  f0 : w.frozen? ⟨x, 0, none⟩ = false
  f1 : w.frozen? ⟨x, 1, none⟩ = false
  f2 : w.frozen? ⟨x, 2, none⟩ = false
  f3 : w.frozen? ⟨x, 3, none⟩ = false
section
variable {w w' : World} {x : Nat} {a b c d : Int}
theorem RmAt.lt (h : RmAt w x a b c d) : x < w.heap.size := lt_of_cell (a := ⟨x, 0, none⟩) h.c0
theorem RmAt.keep {bs : List Nat} (h : RmAt w x a b c d) (ha : Apart bs w w') (hn : x ∉ bs) : RmAt w' x a b c d :=
  have k : ∀ j, w'.cell? ⟨x, j, none⟩ = w.cell? ⟨x, j, none⟩ := fun j => ha.cell (p := ⟨x, j, none⟩) h.lt hn
  have z : ∀ j, w'.frozen? ⟨x, j, none⟩ = w.frozen? ⟨x, j, none⟩ := fun j => ha.frozen (p := ⟨x, j, none⟩) h.lt hn
  ⟨(k 0).trans h.c0, (k 1).trans h.c1, (k 2).trans h.c2, (k 3).trans h.c3, (z 0).trans h.f0, (z 1).trans h.f1, (z 2).trans h.f2, (z 3).trans h.f3⟩
theorem RmAt.below (h : RmAt w x a b c d) (hb : Below w.heap.size w w') : RmAt w' x a b c d := h.keep (Apart.of_below (bs := []) hb) (by simp)
theorem RmAt.s0 (h : RmAt w x a b c d) (v : Int) : RmAt (w.setCell ⟨x, 0, none⟩ (.int .i64 v)) x v b c d :=
  ⟨World.cell?_setCell_same' _ _ _ (by rw [h.c0]; rfl), (World.cell?_setCell_other _ _ _ _ (by simp)).trans h.c1, (World.cell?_setCell_other _ _ _ _ (by simp)).trans h.c2, (World.cell?_setCell_other _ _ _ _ (by simp)).trans h.c3, by simpa using h.f0, by simpa using h.f1, by simpa using h.f2, by simpa using h.f3⟩
theorem RmAt.s1 (h : RmAt w x a b c d) (v : Int) : RmAt (w.setCell ⟨x, 1, none⟩ (.int .i64 v)) x a v c d :=
  ⟨(World.cell?_setCell_other _ _ _ _ (by simp)).trans h.c0, World.cell?_setCell_same' _ _ _ (by rw [h.c1]; rfl), (World.cell?_setCell_other _ _ _ _ (by simp)).trans h.c2, (World.cell?_setCell_other _ _ _ _ (by simp)).trans h.c3, by simpa using h.f0, by simpa using h.f1, by simpa using h.f2, by simpa using h.f3⟩
theorem RmAt.s2 (h : RmAt w x a b c d) (v : Int) : RmAt (w.setCell ⟨x, 2, none⟩ (.int .i64 v)) x a b v d :=
  ⟨(World.cell?_setCell_other _ _ _ _ (by simp)).trans h.c0, (World.cell?_setCell_other _ _ _ _ (by simp)).trans h.c1, World.cell?_setCell_same' _ _ _ (by rw [h.c2]; rfl), (World.cell?_setCell_other _ _ _ _ (by simp)).trans h.c3, by simpa using h.f0, by simpa using h.f1, by simpa using h.f2, by simpa using h.f3⟩
theorem RmAt.s3 (h : RmAt w x a b c d) (v : Int) : RmAt (w.setCell ⟨x, 3, none⟩ (.int .i64 v)) x a b c v :=
  ⟨(World.cell?_setCell_other _ _ _ _ (by simp)).trans h.c0, (World.cell?_setCell_other _ _ _ _ (by simp)).trans h.c1, (World.cell?_setCell_other _ _ _ _ (by simp)).trans h.c2, World.cell?_setCell_same' _ _ _ (by rw [h.c3]; rfl), by simpa using h.f0, by simpa using h.f1, by simpa using h.f2, by simpa using h.f3⟩
def RmS (x : Nat) (w w' : World) : Prop := ∃ a b c d, RmAt w' x a b c d /\ Apart [x] w w'
theorem RmS.s0 (h : RmS x w w') (v : Int) : RmS x w (w'.setCell ⟨x, 0, none⟩ (.int .i64 v)) := by
  obtain ⟨a, b, c, d, h1, h2⟩ := h
  exact ⟨_, _, _, _, h1.s0 v, h2.setCell (p := ⟨x, 0, none⟩) (by simp) _⟩
theorem RmS.s1 (h : RmS x w w') (v : Int) : RmS x w (w'.setCell ⟨x, 1, none⟩ (.int .i64 v)) := by
  obtain ⟨a, b, c, d, h1, h2⟩ := h
  exact ⟨_, _, _, _, h1.s1 v, h2.setCell (p := ⟨x, 1, none⟩) (by simp) _⟩
theorem RmS.s2 (h : RmS x w w') (v : Int) : RmS x w (w'.setCell ⟨x, 2, none⟩ (.int .i64 v)) := by
  obtain ⟨a, b, c, d, h1, h2⟩ := h
  exact ⟨_, _, _, _, h1.s2 v, h2.setCell (p := ⟨x, 2, none⟩) (by simp) _⟩
theorem RmS.s3 (h : RmS x w w') (v : Int) : RmS x w (w'.setCell ⟨x, 3, none⟩ (.int .i64 v)) := by
  obtain ⟨a, b, c, d, h1, h2⟩ := h
  exact ⟨_, _, _, _, h1.s3 v, h2.setCell (p := ⟨x, 3, none⟩) (by simp) _⟩
theorem RmS.z4 (h : RmS x w w') : RmS x w ((((w'.setCell ⟨x, 0, none⟩ (.int .i64 0)).setCell ⟨x, 1, none⟩ (.int .i64 0)).setCell ⟨x, 2, none⟩ (.int .i64 0)).setCell ⟨x, 3, none⟩ (.int .i64 0)) := (((h.s0 0).s1 0).s2 0).s3 0
end
section
variable {fb rs hb : Nat} {E : TE} {w w' : World} {K : Nat -> Nat} {D : Nat -> List Int} {T : Nat -> List Rec} {f u lim : Nat}
end
end Go.Proofs.YtpofmiecjkghgaaGreatDoor
