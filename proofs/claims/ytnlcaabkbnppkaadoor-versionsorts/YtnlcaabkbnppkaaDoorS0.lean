/- A row of texts of one's own, and parts of it exchanged. -/
import Derived.Test.YtnlcaabkbnppkaaDoorV5
import Derived.BigRegion
namespace Go.Proofs.YtnlcaabkbnppkaaDoor
open Go Go.RowKit
set_option maxRecDepth 100000

def encT (x : List UInt8) : Value := .string (mkB x)
structure TRow (w : World) (b : Nat) (D : List (List UInt8)) : Prop where
  hp : w.heap[b]? = some (.cells (D.map encT).toArray 9 (0, 0))
theorem TRow.lt {w : World} {b : Nat} {D : List (List UInt8)} (h : TRow w b D) : b < w.heap.size := by
  rcases Nat.lt_or_ge b w.heap.size with h1 | h1
  · exact h1
  · have := h.hp; rw [Array.getElem?_eq_none h1] at this; cases this
theorem TRow.cell {w : World} {b : Nat} {D : List (List UInt8)} (h : TRow w b D) {k : Nat} {x : List UInt8} (hk : D[k]? = some x) : w.cell? ⟨b, k, none⟩ = some (.string (mkB x)) := by
  simp [World.cell?, h.hp, hk, encT]
theorem TRow.free {w : World} {b : Nat} {D : List (List UInt8)} (h : TRow w b D) (k : Nat) : w.frozen? ⟨b, k, none⟩ = false := by
  simp [World.frozen?, h.hp]
theorem TRow.set {w : World} {b : Nat} {D : List (List UInt8)} (h : TRow w b D) (k : Nat) (x : List UInt8) : TRow (w.setCell ⟨b, k, none⟩ (.string (mkB x))) b (D.set k x) := by
  constructor
  simp only [World.setCell, Array.getElem?_modify, h.hp]
  simp [encT]
theorem TRow.keep {w w' : World} {b : Nat} {D : List (List UInt8)} {bs : List Nat} (h : TRow w b D) (ha : Apart bs w w') (hn : b ∉ bs) : TRow w' b D := ⟨(ha.block b h.lt hn).trans h.hp⟩
theorem TRow.below {w w' : World} {b : Nat} {D : List (List UInt8)} (h : TRow w b D) (hb : Below w.heap.size w w') : TRow w' b D := h.keep (Apart.of_below (bs := []) hb) (by simp)
theorem TRow.heap {w w' : World} {b : Nat} {D : List (List UInt8)} (h : TRow w b D) (hh : w'.heap[b]? = w.heap[b]?) : TRow w' b D := ⟨hh.trans h.hp⟩
theorem get_mid (P : List (List UInt8)) (x : List UInt8) (R : List (List UInt8)) : (P ++ x :: R)[P.length]? = some x := by simp
theorem set_mid (P : List (List UInt8)) (x y : List UInt8) (R : List (List UInt8)) : (P ++ x :: R).set P.length y = P ++ y :: R := by simp
/-- Two texts of a row exchanged. -/
theorem swap_two (P : List (List UInt8)) (x : List UInt8) (Q : List (List UInt8)) (y : List UInt8) (R : List (List UInt8)) (i j : Nat) (hi : i = P.length) (hj : j = P.length + 1 + Q.length) :
    (P ++ x :: (Q ++ y :: R))[i]? = some x ∧ (P ++ x :: (Q ++ y :: R))[j]? = some y ∧ ((P ++ x :: (Q ++ y :: R)).set i y).set j x = P ++ y :: (Q ++ x :: R) ∧ ((P ++ x :: (Q ++ y :: R)).set j x).set i y = P ++ y :: (Q ++ x :: R) := by
  subst hi
  have e : ∀ a : List UInt8, P ++ a :: (Q ++ y :: R) = (P ++ a :: Q) ++ y :: R := fun a => by simp
  have e' : ∀ a : List UInt8, P ++ a :: (Q ++ x :: R) = (P ++ a :: Q) ++ x :: R := fun a => by simp
  have hj' : ∀ a : List UInt8, j = (P ++ a :: Q).length := fun a => by simp; omega
  refine ⟨get_mid P x _, ?_, ?_, ?_⟩
  · rw [e x, hj' x]; exact get_mid _ y R
  · rw [set_mid, e y, hj' y, set_mid, e' y]
  · rw [e x, hj' x, set_mid, ← e' x, set_mid]
end Go.Proofs.YtnlcaabkbnppkaaDoor
