/- For JournalPlays: texts and bytes are one; what a list makes of the numbers that stand for the blocks. -/
import Derived.Test.YtbagncolhckhjaaDoorJr3
namespace Go.Proofs.YtbagncolhckhjaaDoor
open Go.RowKit Go.Extern.Stop Go.Stop Go.Extern
set_option maxRecDepth 100000

theorem u8_inj (a b : Int) (ha : 0 ≤ a ∧ a ≤ 255) (hb : 0 ≤ b ∧ b ≤ 255) (h : UInt8.ofNat a.toNat = UInt8.ofNat b.toNat) : a = b := by
  have := congrArg UInt8.toNat h
  simp at this
  omega
theorem ofBytes_inj : ∀ (a b : List Int), (∀ z ∈ a, 0 ≤ z ∧ z ≤ 255) → (∀ z ∈ b, 0 ≤ z ∧ z ≤ 255) → ofBytes a = ofBytes b → a = b := by
  intro a b ha hb h
  have h2 := congrArg (fun s : ByteArray => s.data.toList) h
  simp only [ofBytes_list] at h2
  clear h
  induction a generalizing b with
  | nil =>
    cases b with
    | nil => rfl
    | cons y ys => simp at h2
  | cons x xs ih =>
    cases b with
    | nil => simp at h2
    | cons y ys =>
      simp only [List.map_cons, List.cons.injEq] at h2
      rw [u8_inj x y (ha x (by simp)) (hb y (by simp)) h2.1, ih ys (fun z hz => ha z (by simp [hz])) (fun z hz => hb z (by simp [hz])) h2.2]
theorem isL_range (n : Int) : ∀ z ∈ isL n, 0 ≤ z ∧ z ≤ 255 := by
  unfold isL
  split
  · exact zeroB_range
  · exact fillL_range _
theorem isL_len (n : Int) : (isL n).length = 128 := by
  unfold isL
  split
  · exact zeroB_len
  · exact fillL_len _
theorem isL_succ (n : Int) (h : 0 ≤ n) : isL (n + 1) = fillL n := by
  unfold isL
  rw [if_neg (by omega), Int.add_sub_cancel]
/-- What stands in the eighteen blocks from 22 on, by the statement's numbers. -/
def Told18 (nw : Nat → Int) (mem : Nat → Int) : Prop := ∀ j, j < 18 → blockL mem (22 + j) = isL (nw j) ∧ 0 ≤ nw j ∧ nw j ≤ 2048
/-- The numbers behind the first m blocks of a list of (block, number). -/
def nowK (l : List (Nat × Int)) (nw : Nat → Int) : Nat → Nat → Int
  | 0, x => nw x
  | m + 1, x => if x + 22 = (l.getD m (0, 0)).1 then (l.getD m (0, 0)).2 + 1 else nowK l nw m x
theorem nowK_miss (l : List (Nat × Int)) (nw : Nat → Int) (x : Nat) : ∀ m, (∀ j, j < m → (l.getD j (0, 0)).1 ≠ x + 22) → nowK l nw m x = nw x
  | 0, _ => rfl
  | m + 1, h => by
    unfold nowK
    rw [if_neg (fun e => h m (by omega) e.symm)]
    exact nowK_miss l nw x m (fun j hj => h j (by omega))
theorem nowK_hit (l : List (Nat × Int)) (nw : Nat → Int) (x k : Nat) : ∀ m, k < m → (l.getD k (0, 0)).1 = x + 22 → (∀ j, j < m → j ≠ k → (l.getD j (0, 0)).1 ≠ x + 22) → nowK l nw m x = (l.getD k (0, 0)).2 + 1
  | 0, h, _, _ => absurd h (by omega)
  | m + 1, hk, he, hne => by
    unfold nowK
    by_cases e : k = m
    · subst e
      rw [if_pos he.symm]
    · rw [if_neg (fun e' => hne m (by omega) (fun h => e h.symm) e'.symm)]
      exact nowK_hit l nw x k m (by omega) he (fun j hj hjk => hne j (by omega) hjk)
end Go.Proofs.YtbagncolhckhjaaDoor
