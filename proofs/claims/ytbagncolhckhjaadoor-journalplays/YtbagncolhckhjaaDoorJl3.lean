/- JournalPlays: what holds at a round's head. -/
import Derived.Test.YtbagncolhckhjaaDoorJl2
namespace Go.Proofs.YtbagncolhckhjaaDoor
open Go.RowKit Go.Extern.Stop Go.Stop Go.Extern
set_option maxRecDepth 100000

/-- The statement's own numbers. -/
structure Now18 (nb : Nat) (nw : Nat → Int) (w : World) : Prop where
  cell : ∀ j, j < 18 → w.cell? ⟨nb, j, none⟩ = some (.int .i64 (nw j))
  free : ∀ j, j < 18 → w.frozen? ⟨nb, j, none⟩ = false
theorem Now18.lt {nb : Nat} {nw : Nat → Int} {w : World} (h : Now18 nb nw w) : nb < w.heap.size := lt_of_cell (a := ⟨nb, 0, none⟩) (h.cell 0 (by decide))
theorem Now18.keep {nb : Nat} {nw : Nat → Int} {w w' : World} {bs : List Nat} (h : Now18 nb nw w) (ha : Apart bs w w') (hn : nb ∉ bs) : Now18 nb nw w' :=
  ⟨fun k hk => (ha.cell (p := ⟨nb, k, none⟩) h.lt hn).trans (h.cell k hk), fun k hk => (ha.frozen (p := ⟨nb, k, none⟩) h.lt hn).trans (h.free k hk)⟩
theorem Now18.set {nb : Nat} {nw : Nat → Int} {w : World} (h : Now18 nb nw w) (i : Nat) (hi : i < 18) (x : Int) : Now18 nb (fun j => if j = i then x else nw j) (w.setCell ⟨nb, i, none⟩ (.int .i64 x)) :=
  ⟨fun j hj => by
    by_cases e : j = i
    · subst e
      simp only [if_true]
      exact World.cell?_setCell_same' _ _ _ (by rw [h.cell j hj]; rfl)
    · simp only [if_neg e]
      exact (World.cell?_setCell_other _ _ _ _ (by intro x; exact e (congrArg Addr.off x).symm)).trans (h.cell j hj), fun j hj => by simp [h.free j hj]⟩
theorem Now18.congr {nb : Nat} {nw nv : Nat → Int} {w : World} (h : Now18 nb nw w) (he : ∀ k, k < 18 → nw k = nv k) : Now18 nb nv w := ⟨fun k hk => by rw [h.cell k hk, he k hk], h.free⟩
abbrev zeros18 : Array Value := #[.int .i64 0, .int .i64 0, .int .i64 0, .int .i64 0, .int .i64 0, .int .i64 0, .int .i64 0, .int .i64 0, .int .i64 0, .int .i64 0, .int .i64 0, .int .i64 0, .int .i64 0, .int .i64 0, .int .i64 0, .int .i64 0, .int .i64 0, .int .i64 0]
theorem zeros18_get (k : Nat) (hk : k < 18) : zeros18[k]? = some (.int .i64 0) := by
  match k, hk with
  | 0, _ => rfl
  | 1, _ => rfl
  | 2, _ => rfl
  | 3, _ => rfl
  | 4, _ => rfl
  | 5, _ => rfl
  | 6, _ => rfl
  | 7, _ => rfl
  | 8, _ => rfl
  | 9, _ => rfl
  | 10, _ => rfl
  | 11, _ => rfl
  | 12, _ => rfl
  | 13, _ => rfl
  | 14, _ => rfl
  | 15, _ => rfl
  | 16, _ => rfl
  | 17, _ => rfl
  | k + 18, h => exact absurd h (by omega)
theorem now18_new (w : World) (t : TypeId) : Now18 w.heap.size (fun _ => 0) (w.alloc (.cells zeros18 t)) := ⟨fun k hk => by rw [cells_new]; exact zeros18_get k hk, fun k _ => by simp⟩
/-- What holds ahead of a Commit of the script. -/
structure PlaySt (w0 : World) (d g nb jb : Nat) (lim : Int) (w : World) : Prop where
  ex : ∃ nw mem wr, Sys w0 d g 40 mem wr (-1) w ∧ 0 ≤ wr ∧ wr ≤ lim ∧ Idle 4 mem ∧ Told18 nw mem ∧ Now18 nb nw w
  jat : JAt jb d 4 6 w
  apart : jb ≠ d ∧ jb ≠ g ∧ nb ≠ d ∧ nb ≠ g ∧ jb ≠ nb
theorem PlaySt.below {w0 : World} {d g nb jb : Nat} {lim : Int} {w w' : World} (h : PlaySt w0 d g nb jb lim w) (hb : Below w.heap.size w w') : PlaySt w0 d g nb jb lim w' := by
  obtain ⟨nw, mem, wr, h1, h2, h3, h4, h5, h6⟩ := h.ex
  exact ⟨⟨nw, mem, wr, h1.more hb, h2, h3, h4, h5, h6.keep (Apart.of_below (bs := []) hb) (by simp)⟩, h.jat.below hb, h.apart⟩
theorem PlaySt.lim {w0 : World} {d g nb jb : Nat} {l l' : Int} {w : World} (h : PlaySt w0 d g nb jb l w) (hl : l ≤ l') : PlaySt w0 d g nb jb l' w := by
  obtain ⟨nw, mem, wr, h1, h2, h3, h4⟩ := h.ex
  exact ⟨⟨nw, mem, wr, h1, h2, by omega, h4⟩, h.jat, h.apart⟩
theorem PlaySt.base {w0 : World} {d g nb jb : Nat} {l : Int} {w : World} (h : PlaySt w0 d g nb jb l w) : Below w0.heap.size w0 w := by
  obtain ⟨nw, mem, wr, h1, -⟩ := h.ex
  exact h1.below
/-- Where a list stands behind the Opens: the numbers that tell it. -/
theorem told_before {nw : Nat → Int} {mem mem' : Nat → Int} (h : Told18 nw mem) (hb : ∀ x, (x < 4 ∨ 4 + needN 6 ≤ x) → blockL mem' x = blockL mem x) : Told18 nw mem' := fun j hj => by
  have := h j hj
  refine ⟨?_, this.2⟩
  rw [hb (22 + j) (Or.inr (by rw [need6]; omega))]
  exact this.1
theorem told_behind {nw : Nat → Int} {mem mem' : Nat → Int} {rs : List RawT} {k : Nat} (h : Told18 nw mem) (hf : ∀ j, j < k → Fine rs j) (hr : ∀ j, j < k → 0 ≤ rn rs j ∧ rn rs j ≤ 2047)
    (hin : ∀ j, j < k → blockL mem' (rno rs j).toNat = fillL (rn rs j)) (hout : ∀ x, (x < 4 ∨ 4 + needN 6 ≤ x) → (∀ j, j < k → (rno rs j).toNat ≠ x) → blockL mem' x = blockL mem x) :
    Told18 (nowK ((List.range k).map fun j => ((rno rs j).toNat, rn rs j)) nw k) mem' := by
  have eg : ∀ j, j < k → ((List.range k).map fun j => ((rno rs j).toNat, rn rs j)).getD j (0, 0) = ((rno rs j).toNat, rn rs j) := fun j hj => by simp [List.getD, hj]
  intro x hx
  by_cases hh : ∃ j, j < k ∧ (rno rs j).toNat = x + 22
  · obtain ⟨j, hj, he⟩ := hh
    have hn := nowK_hit ((List.range k).map fun j => ((rno rs j).toNat, rn rs j)) nw x j k hj (by rw [eg j hj]; exact he) (fun i hi hij => by
      rw [eg i hi]
      have a := hf i hi
      have b := hf j hj
      have a0 := a.lo
      have b0 := b.lo
      show (rno rs i).toNat ≠ x + 22
      rcases Nat.lt_or_ge i j with h' | h'
      · have := b.once i h'
        omega
      · have := a.once j (by omega)
        omega)
    rw [eg j hj] at hn
    rw [hn]
    have hr' := hr j hj
    refine ⟨?_, by omega, by omega⟩
    rw [isL_succ _ hr'.1, Nat.add_comm 22 x, ← he]
    exact hin j hj
  · have hm := nowK_miss ((List.range k).map fun j => ((rno rs j).toNat, rn rs j)) nw x k (fun j hj => by
      rw [eg j hj]
      exact fun e => hh ⟨j, hj, e⟩)
    rw [hm]
    have := h x hx
    refine ⟨?_, this.2⟩
    rw [hout (22 + x) (Or.inr (by rw [need6]; omega)) (fun j hj e => hh ⟨j, hj, by omega⟩)]
    exact this.1
end Go.Proofs.YtbagncolhckhjaaDoor
