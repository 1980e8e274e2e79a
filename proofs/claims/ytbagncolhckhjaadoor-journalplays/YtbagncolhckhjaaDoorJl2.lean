/- For JournalPlays: a Commit of the script as a list of blocks, and which of them are refused. -/
import Derived.Test.YtbagncolhckhjaaDoorJl0
import Derived.Test.YtbagncolhckhjaaDoorJl1
namespace Go.Proofs.YtbagncolhckhjaaDoor
open Go.RowKit Go.Extern.Stop Go.Stop Go.Extern
set_option maxRecDepth 100000

abbrev rno (rs : List RawT) (k : Nat) : Int := (rs.getD k ⟨0, 0⟩).no
abbrev rn (rs : List RawT) (k : Nat) : Int := bits .and .i64 (rs.getD k ⟨0, 0⟩).n 2047
/-- The first k blocks of a Commit. -/
def rawG (rs : List RawT) (k : Nat) : List (Int × List Int) := (List.range k).map fun j => (rno rs j, fillL (rn rs j))
theorem rawG_len (rs : List RawT) (k : Nat) : (rawG rs k).length = k := by simp [rawG]
theorem rawG_get (rs : List RawT) (k j : Nat) (hj : j < k) : (rawG rs k).getD j (0, []) = (rno rs j, fillL (rn rs j)) := by simp [rawG, List.getD, hj]
theorem rawG_succ (rs : List RawT) (k : Nat) : rawG rs (k + 1) = rawG rs k ++ [(rno rs k, fillL (rn rs k))] := by simp [rawG, List.range_succ]
/-- What the statement asks of block j. -/
structure Fine (rs : List RawT) (j : Nat) : Prop where
  lo : 0 ≤ rno rs j
  hi : rno rs j < 40
  out : rno rs j < 4 ∨ 13 ≤ rno rs j
  once : ∀ m, m < j → rno rs m ≠ rno rs j
theorem need6 : needN 6 = 9 := rfl
theorem fine_ok (rs : List RawT) (k j : Nat) (hj : j < k) : OkAt 40 4 (needN 6) (rawG rs k) j ↔ Fine rs j := by
  have e : ∀ m, m < k → xno (rawG rs k) m = rno rs m := fun m hm => by show ((rawG rs k).getD m (0, [])).1 = _; rw [rawG_get rs k m hm]
  have e2 : xdat (rawG rs k) j = fillL (rn rs j) := by show ((rawG rs k).getD j (0, [])).2 = _; rw [rawG_get rs k j hj]
  constructor
  · intro h
    refine ⟨by rw [← e j hj]; exact h.lo, by rw [← e j hj]; exact h.hi, ?_, fun m hm => ?_⟩
    · have := h.out
      rw [e j hj, need6] at this
      omega
    · rw [← e m (by omega), ← e j hj]
      exact h.once m hm
  · intro h
    refine ⟨by rw [e j hj]; exact h.lo, by rw [e j hj]; exact h.hi, fun m hm => ?_, by rw [e2]; exact fillL_len _, ?_⟩
    · rw [e m (by omega), e j hj]
      exact h.once m hm
    · rw [e j hj, need6]
      have := h.out
      omega
theorem fine_all (rs : List RawT) (k : Nat) : (∀ j, j < (rawG rs k).length → OkAt 40 4 (needN 6) (rawG rs k) j) ↔ ∀ j, j < k → Fine rs j := by
  rw [rawG_len]
  exact ⟨fun h j hj => (fine_ok rs k j hj).1 (h j hj), fun h j hj => (fine_ok rs k j hj).2 (h j hj)⟩
/-- Where all are fine, the list is a group that may be written. -/
def rawN (rs : List RawT) (k : Nat) : Grp := (List.range k).map fun j => ((rno rs j).toNat, fillL (rn rs j))
theorem rawN_len (rs : List RawT) (k : Nat) : (rawN rs k).length = k := by simp [rawN]
theorem rawN_get (rs : List RawT) (k j : Nat) (hj : j < k) : (rawN rs k).getD j (0, []) = ((rno rs j).toNat, fillL (rn rs j)) := by simp [rawN, List.getD, hj]
theorem rawN_up (rs : List RawT) (k : Nat) (h : ∀ j, j < k → Fine rs j) : up (rawN rs k) = rawG rs k := by
  apply List.ext_getElem?
  intro j
  by_cases hj : j < k
  · have := (h j hj).lo
    simp [up, rawN, rawG, hj]
    omega
  · rw [List.getElem?_eq_none (by rw [up_len, rawN_len]; omega), List.getElem?_eq_none (by rw [rawG_len]; omega)]
theorem rawN_good (rs : List RawT) (k : Nat) (hk : k ≤ 200) (h : ∀ j, j < k → Fine rs j) : Good 40 4 (needN 6) (rawN rs k) := by
  have e1 : ∀ j, j < k → nob (rawN rs k) j = (rno rs j).toNat := fun j hj => by show ((rawN rs k).getD j (0, [])).1 = _; rw [rawN_get rs k j hj]
  have e2 : ∀ j, j < k → dat (rawN rs k) j = fillL (rn rs j) := fun j hj => by show ((rawN rs k).getD j (0, [])).2 = _; rw [rawN_get rs k j hj]
  have hl := rawN_len rs k
  refine ⟨by omega, fun j hj => ?_, fun j hj => ?_, fun j hj => ?_, fun j hj => ?_, fun j i hj hi => ?_⟩
  · rw [hl] at hj; rw [e1 j hj]; have := h j hj; have h1 := this.lo; have h2 := this.hi; omega
  · rw [hl] at hj; rw [e2 j hj]; exact fillL_len _
  · rw [hl] at hj; rw [e2 j hj]; exact fillL_range _
  · rw [hl] at hj; rw [e1 j hj, need6]; have := h j hj; have h1 := this.lo; have h2 := this.out; omega
  · rw [hl] at hj; rw [e1 j hj, e1 i (by omega)]; have := h j hj; have h1 := this.lo; have h2 := (h i (by omega)).lo; have h3 := this.once i hi; omega
end Go.Proofs.YtbagncolhckhjaaDoor
