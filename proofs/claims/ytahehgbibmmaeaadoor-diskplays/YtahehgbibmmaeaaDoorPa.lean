/- What DiskPlays keeps beside the Disk: a number for each block; and its script. -/
import Derived.Test.YtahehgbibmmaeaaDoorCu
import Derived.Test.YtahehgbibmmaeaaDoorNm
namespace Go.Proofs.YtahehgbibmmaeaaDoor
open Go.RowKit Go.Extern.Stop Go.Stop Go.Extern
set_option maxRecDepth 100000

/-- One call of a script. -/
structure OpT where
  kind : Int
  i : Int
  n : Int
  short : Bool
/-- A script as it lies in memory. -/
def OpsAt (w : World) (v : Value) (ops : List OpT) : Prop :=
  ∃ a cap, v = .slice a ops.length cap ∧ ops.length ≤ maxLen ∧ (∀ o ∈ ops, i64 o.i ∧ i64 o.n) ∧
    (ops ≠ [] → ∃ b off, a = some ⟨b, off, none⟩ ∧ b < w.heap.size ∧ ∀ k o, ops[k]? = some o → w.cell? ⟨b, off + k * 4, none⟩ = some (.int .i64 o.kind) ∧ w.cell? ⟨b, off + k * 4 + 1, none⟩ = some (.int .i64 o.i) ∧ w.cell? ⟨b, off + k * 4 + 2, none⟩ = some (.int .i64 o.n) ∧ w.cell? ⟨b, off + k * 4 + 3, none⟩ = some (.bool o.short))

/-- The statement's own list of n numbers at block nb. -/
structure NumsAt (nb n : Nat) (nw : Nat → Int) (w : World) : Prop where
  cells : ∀ j, j < n → w.cell? ⟨nb, j, none⟩ = some (.int .i64 (nw j))
  free : ∀ j, j < n → w.frozen? ⟨nb, j, none⟩ = false
  some : 0 < n
theorem NumsAt.lt {nb n : Nat} {nw : Nat → Int} {w : World} (h : NumsAt nb n nw w) : nb < w.heap.size := lt_of_cell (a := ⟨nb, 0, none⟩) (h.cells 0 h.some)
theorem NumsAt.keep {nb n : Nat} {nw : Nat → Int} {w w' : World} {bs : List Nat} (h : NumsAt nb n nw w) (ha : Apart bs w w') (hn : nb ∉ bs) : NumsAt nb n nw w' :=
  ⟨fun j hj => (ha.cell (p := ⟨nb, j, none⟩) h.lt hn).trans (h.cells j hj), fun j hj => (ha.frozen (p := ⟨nb, j, none⟩) h.lt hn).trans (h.free j hj), h.some⟩
theorem NumsAt.set {nb n : Nat} {nw : Nat → Int} {w : World} (h : NumsAt nb n nw w) (i : Nat) (x : Int) : NumsAt nb n (fun j => if j = i then x else nw j) (w.setCell ⟨nb, i, none⟩ (.int .i64 x)) :=
  ⟨fun j hj => by
    by_cases e : j = i
    · subst e
      simp only [if_true]
      exact World.cell?_setCell_same' _ _ _ (by rw [h.cells j hj]; rfl)
    · simp only [if_neg e]
      exact (World.cell?_setCell_other _ _ _ _ (by intro x; exact e (congrArg Addr.off x).symm)).trans (h.cells j hj), fun j hj => by simp [h.free j hj], h.some⟩
/-- What stands in the blocks, by that list. -/
def ToldN (n : Nat) (nw : Nat → Int) (mem : Nat → Int) : Prop := ∀ j : Nat, j < n → blockL mem j = isL (nw j) ∧ 0 ≤ nw j ∧ nw j ≤ 2048
theorem ToldN.step {n : Nat} {nw mem : Nat → Int} (h : ToldN n nw mem) (k : Int) (hk : 0 ≤ k ∧ k ≤ 2047) (i : Nat) : ToldN n (fun j => if j = i then k + 1 else nw j) (memW i (fillL k) mem) := by
  intro j hj
  by_cases e : j = i
  · subst e
    simp only [if_true]
    refine ⟨?_, by omega, by omega⟩
    rw [memW_same _ _ (fillL_len k)]
    unfold isL
    rw [if_neg (by omega), Int.add_sub_cancel]
  · simp only [if_neg e]
    obtain ⟨h1, h2, h3⟩ := h j hj
    exact ⟨by rw [memW_other _ _ (fun x => e x.symm)]; exact h1, h2, h3⟩
theorem Tryd.infoInt : (Tryd.prog.info? 3).map (fun i => (i.zero, i.size, i.bytes)) = some (some (.int .i64 0), 1, 8) := by kernel_rfl
theorem made_ints (N : Nat) : madeCells (Value.int .i64 0).cells (N * 1) = Array.replicate N (.int .i64 0) := by
  apply Array.ext
  · simp [size_madeCells]
  · intro i h1 h2
    simp [madeCells, Value.cells, Nat.mod_one]
theorem make_ints (N : Nat) (hN : N ≤ 2048) (w : World) : (Instr.makeSlice 42 (.int .i64 N) (.int .i64 N)).run Tryd.prog w = .ok (.slice (some ⟨w.heap.size, 0, none⟩) N N) (w.alloc (.cells (Array.replicate N (.int .i64 0)) 3)) := by
  obtain ⟨i0, hi, hz0, hz1, hz2⟩ := info_parts3 Tryd.infoInt
  have h := run_make (P := Tryd.prog) (w := w) 42 3 i0 (.int .i64 0) Tryd.underlying42 hi hz0 .i64 .i64 N N (by omega) (by omega) (by rw [hz2]; omega) (by omega)
  rw [hz1] at h
  simp only [Int.toNat_natCast, made_ints] at h
  exact h
theorem nums_new (N : Nat) (hN : 0 < N) (w : World) : NumsAt w.heap.size N (fun _ => 0) (w.alloc (.cells (Array.replicate N (.int .i64 0)) 3)) :=
  ⟨fun j hj => by rw [cells_new]; simp [hj], fun j _ => by simp, hN⟩
end Go.Proofs.YtahehgbibmmaeaaDoor
