/- Entries that are the same: the document's own, and the program's. -/
import Derived.Test.YtdmlncdoibahiabGreatDoorX17
import Derived.BigQuiet
namespace Go.Proofs.YtdmlncdoibahiabGreatDoor
open Go.RowKit Go.Extern.Stop Go.Stop Go.Extern
set_option maxRecDepth 100000

def sameL : List Bl → List Bl → Bool
  | [], [] => true
  | a :: l, b :: m => sameB a b && sameL l m
  | _, _ => false
theorem sameL_iff : ∀ (l m : List Bl), sameL l m = true ↔ l = m
  | [], [] => by simp [sameL]
  | [], b :: m => by simp [sameL]
  | a :: l, [] => by simp [sameL]
  | a :: l, b :: m => by rw [sameL, Bool.and_eq_true, sameB_iff, sameL_iff l m]; simp
def sameE (x y : En) : Bool := x.ver == y.ver && sameB (x.kn, x.ks) (y.kn, y.ks) && x.op == y.op && sameL x.ex y.ex
theorem sameE_iff (x y : En) : sameE x y = true ↔ x = y := by
  obtain ⟨a1, a2, a3, a4, a5⟩ := x; obtain ⟨b1, b2, b3, b4, b5⟩ := y
  simp only [sameE, Bool.and_eq_true, sameL_iff, sameB_iff, beq_iff_eq]
  constructor
  · rintro ⟨⟨⟨rfl, h⟩, rfl⟩, rfl⟩
    cases h; rfl
  · intro h; cases h; simp
theorem sameL_take {l m : List Bl} (hn : l.length = m.length) (k : Nat) (hall : ∀ j a b, j < k → l[j]? = some a → m[j]? = some b → sameB a b = true) (hk : l.length ≤ k) : sameL l m = true := by
  rw [sameL_iff]
  apply List.ext_getElem hn
  intro i h1 h2
  exact (sameB_iff _ _).1 (hall i _ _ (by omega) (List.getElem?_eq_getElem h1) (List.getElem?_eq_getElem h2))
theorem sameL_bad {l m : List Bl} {j : Nat} {a b : Bl} (h1 : l[j]? = some a) (h2 : m[j]? = some b) (h : sameB a b = false) : sameL l m = false := by
  cases hs : sameL l m with
  | false => rfl
  | true =>
    have := (sameL_iff l m).1 hs
    rw [this, h2] at h1
    have e : b = a := by simpa using h1
    rw [e, (sameB_iff a a).2 rfl] at h; cases h
theorem sameL_len {l m : List Bl} (h : ¬ l.length = m.length) : sameL l m = false := by
  cases hs : sameL l m with
  | false => rfl
  | true => exact absurd (congrArg List.length ((sameL_iff l m).1 hs)) h
/-- The box that an argument is laid in. -/
structure BoxAt (w w1 : World) (b : Nat) (x : En) (a : Option Addr) (cap : Nat) : Prop where
  at1 : EnAt w1 b x (.slice a x.ex.length cap)
  below : Below w.heap.size w w1
end Go.Proofs.YtdmlncdoibahiabGreatDoor
