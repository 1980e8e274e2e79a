/- An array of bools that a statement made. -/
import Derived.Test.YtfnfhabepadikaaKL
namespace Go.Proofs.Ytfnfhabepadikaa
open Go Go.RowKit
set_option maxRecDepth 100000

structure BAt (w : World) (g n : Nat) (f : Nat → Bool) : Prop where
  cell : ∀ k, k < n → w.cell? ⟨g, k, none⟩ = some (.bool (f k))
  fz : ∀ j, w.frozen? ⟨g, j, none⟩ = false
  lt : g < w.heap.size
theorem BAt.heap {w w' : World} {g n : Nat} {f : Nat → Bool} (h : BAt w g n f) (hh : w'.heap[g]? = w.heap[g]?) (hs : w.heap.size ≤ w'.heap.size) : BAt w' g n f :=
  ⟨fun k hk => (cell_heap hh k).trans (h.cell k hk), fun j => (frozen_heap hh j).trans (h.fz j), Nat.lt_of_lt_of_le h.lt hs⟩
theorem BAt.below {w w' : World} {g n : Nat} {f : Nat → Bool} (h : BAt w g n f) (hb : Below w.heap.size w w') : BAt w' g n f := h.heap (hb.block g h.lt) hb.size
theorem BAt.store {w : World} {g n : Nat} {f : Nat → Bool} (h : BAt w g n f) (k : Nat) (hk : k < n) (b : Bool) : BAt (w.setCell ⟨g, k, none⟩ (.bool b)) g n (fun j => if j = k then b else f j) := by
  refine ⟨fun j hj => ?_, fun j => ?_, by have := h.lt; simpa using this⟩
  · by_cases e : j = k
    · subst e; rw [World.cell?_setCell_same _ _ _ (h.cell j hj), if_pos rfl]
    · rw [World.cell?_setCell_other w ⟨g, k, none⟩ ⟨g, j, none⟩ (.bool b) (fun he => e (by injection he with _ h2 _; exact h2.symm)), if_neg e]
      exact h.cell j hj
  · have := h.fz j
    simpa using this
theorem zero_run {P : Program} {t : TypeId} {z : Value} {a b : Nat} (h : (P.info? t).map (fun i => (i.zero, i.size, i.bytes)) = some (some z, a, b)) (w : World) : (zeroValue t).run P w = .ok z w := by
  obtain ⟨i0, hi0, hz0, -, -⟩ := info_parts3 h
  simp [zeroValue, Sem.run_bind, typeInfo, hi0, hz0]
theorem bAt_new (w : World) (n : Nat) (t : TypeId) : BAt (w.alloc (.cells (Array.replicate n (.bool false)) t)) w.heap.size n (fun _ => false) := by
  have hh := heap_alloc_new w (.cells (Array.replicate n (.bool false)) t)
  refine ⟨fun k hk => ?_, fun j => ?_, by simp⟩
  · rw [cell_of_row _ _ _ _ _ _ hh]; simp [hk]
  · simp
theorem zero1500 (w : World) : (zeroValue 23).run Try.prog w = .ok (.agg (Array.replicate 1500 (.bool false))) w := zero_run (a := 1500) (b := 1500) (by kernel_rfl) w
theorem zero1100 (w : World) : (zeroValue 41).run Try.prog w = .ok (.agg (Array.replicate 1100 (.bool false))) w := zero_run (a := 1100) (b := 1100) (by kernel_rfl) w
/-- What an array tells of a list of ranges. -/
def Tells (n : Nat) (f : Nat → Bool) (L : List Rg) : Prop := ∀ k, k < n → (f k = true ↔ inR L (k : Int))
theorem tells_nil (n : Nat) : Tells n (fun _ => false) [] := fun k _ => by simp [inR_nil]
/-- A range that is being put into the array. -/
def TellsTo (n : Nat) (f : Nat → Bool) (L : List Rg) (p c : Int) : Prop := ∀ k, k < n → (f k = true ↔ inR L (k : Int) ∨ (p ≤ (k : Int) ∧ (k : Int) < c))
theorem tells_begin {n : Nat} {f : Nat → Bool} {L : List Rg} (h : Tells n f L) (p : Int) : TellsTo n f L p p := fun k hk => by
  rw [h k hk]; exact ⟨Or.inl, fun h => h.elim id (fun h => by omega)⟩
theorem tells_step {n : Nat} {f : Nat → Bool} {L : List Rg} {p : Int} {c : Nat} (h : TellsTo n f L p c) (hp : p ≤ c) : TellsTo n (fun j => if j = c then true else f j) L p ((c : Int) + 1) := fun k hk => by
  dsimp only
  by_cases e : k = c
  · subst e; simp only [if_true, true_iff]; exact Or.inr ⟨hp, by omega⟩
  · rw [if_neg e, h k hk]
    refine or_congr Iff.rfl ?_
    omega
theorem tells_end {n : Nat} {f : Nat → Bool} {L : List Rg} {p c q : Int} (h : TellsTo n f L p c) (hc : q ≤ c) (hq : c ≤ q ∨ c = p) : Tells n f (L ++ [(p, q)]) := fun k hk => by
  rw [h k hk, inR_append, inR_one]
  refine or_congr Iff.rfl ?_
  dsimp only
  omega
end Go.Proofs.Ytfnfhabepadikaa
