/- remove: a file that nobody holds: empty, the closure. -/
import Derived.Test.YtleafmdjhmnjmaaGreatDoorGWm
import Derived.Test.YtleafmdjhmnjmaaGreatDoorGWa
import Derived.Test.YtleafmdjhmnjmaaGreatDoorGWg
import Derived.Test.YtleafmdjhmnjmaaGreatDoorGXf
import Derived.Test.YtleafmdjhmnjmaaGreatDoorGWp
import Derived.Test.YtleafmdjhmnjmaaGreatDoorGXi
namespace Go.Proofs.YtleafmdjhmnjmaaGreatDoor
open Go.RowKit Go.Extern.Stop Go.Stop Go.Extern Go.Maps Go.Sort Go.Shelf
set_option maxRecDepth 100000
structure MBox (b0 b1 b2 b3 fb : Nat) (up : Value) (s : List UInt8) (w : World) : Prop where
  c0 : w.cell? ⟨b0, 0, none⟩ = some (ptr fb)
  c1 : w.cell? ⟨b1, 0, none⟩ = some up
  c2 : w.cell? ⟨b2, 0, none⟩ = some (.string (mkB s))
  n : FnAt w b3 0 0
section
variable {fb rs hb : Nat} {E : TE} {w w' : World} {K : Nat -> Nat} {D : Nat -> List Int} {T : Nat -> List Rec} {f u lim : Nat}
theorem MBox.below {b0 b1 b2 b3 : Nat} {up : Value} {s : List UInt8} (h : MBox b0 b1 b2 b3 fb up s w) (hb : Below w.heap.size w w') : MBox b0 b1 b2 b3 fb up s w' :=
  have k : ∀ b v, w.cell? ⟨b, 0, none⟩ = some v -> w'.cell? ⟨b, 0, none⟩ = some v := fun b _ hc => (hb.cell (p := ⟨b, 0, none⟩) (lt_of_cell (a := ⟨b, 0, none⟩) hc)).trans hc
  ⟨k _ _ h.c0, k _ _ h.c1, k _ _ h.c2, h.n.below hb⟩
end
section
variable {fb rs hb : Nat} {E : TE} {w w' : World} {K : Nat -> Nat} {D : Nat -> List Int} {T : Nat -> List Rec} {f u lim : Nat}
theorem dropR_mem {L : List Rec} {i : Nat} (hi : i < L.length) : ∀ x ∈ dropR L i, x ∈ L := by
  intro x hx
  have hlast : L[L.length - 1]? = some (L[L.length - 1]'(by omega)) := List.getElem?_eq_getElem (by omega)
  rw [dropR_get hlast] at hx
  rcases List.mem_or_eq_of_mem_set (List.mem_of_mem_take hx) with h | h
  · exact h
  · rw [h]; exact List.getElem_mem _
end
section
variable {fb rs hb : Nat} {E : TE} {w w' : World} {K : Nat -> Nat} {D : Nat -> List Int} {T : Nat -> List Rec} {f u lim : Nat}
end
section
variable {fb rs hb : Nat} {E : TE} {w w' : World} {K : Nat -> Nat} {D : Nat -> List Int} {T : Nat -> List Rec} {f u lim : Nat}
end
def nmP (c : UInt8) (i : Nat) : List UInt8 := c :: Lib.itoa (i : Int)
def valD (l : List UInt8) : Nat := l.foldl (fun a c => a * 10 + (c.toNat - 48)) 0
theorem val_fin : ∀ i : Fin 128, valD (Lib.itoa ((i.val : Nat) : Int)) = i.val := by decide +kernel
theorem ok_fin : ∀ i : Fin 128, okB (nmP 120 i.val) = true /\ okB (nmP 102 i.val) = true /\ okB (nmP 107 i.val) = true := by decide +kernel
theorem size_fin : ∀ i : Fin 128, (Lib.itoa ((i.val : Nat) : Int)).length <= 20 := by decide +kernel
theorem nm_inj {c : UInt8} {i j : Nat} (hi : i < 128) (hj : j < 128) (h : nmP c i = nmP c j) : i = j := by
  have h2 := congrArg valD (List.cons.inj h).2
  rw [val_fin ⟨i, hi⟩, val_fin ⟨j, hj⟩] at h2
  exact h2
theorem nm_size {i : Nat} (hi : i < 128) : (itoaB (i : Int)).size <= 20 := by
  have := size_fin ⟨i, hi⟩
  simpa [itoaB, ByteArray.size] using this
theorem lookN {L : List Rec} {s : List UInt8} (h : ∀ r ∈ L, r.s ≠ s) : lookT L s = none := List.find?_eq_none.2 fun r hr => by simpa using h r hr
theorem bkL_one (n : Nat) (hn : n <= 124) : bkL n <= bkL (n + 1) /\ bkL (n + 1) <= bkL n + 2 /\ bkL n <= 33 := by
  have e1 := bkL_eq n
  have e2 := bkL_eq (n + 1)
  unfold blk at e1 e2
  split at e1 <;> split at e2 <;> (try split at e1) <;> (try split at e2) <;> (try split at e1) <;> (try split at e2) <;> omega
theorem grow_bk (n : Nat) (hn : n <= 123) : growb ((32 * n : Nat) : Int) ((32 * (n + 1) : Nat) : Int) = ((bkL (n + 1) - bkL n : Nat) : Int) := by
  have e1 := bkL_eq n
  have e2 := bkL_eq (n + 1)
  have := bkL_one n (by omega)
  unfold growb
  omega
def inK (kd : Nat -> Nat) (k : Nat) (j : Nat) : Nat := if j = 1 then 2 else if 2 <= j /\ j <= k + 1 then kd (j - 1) else 0
end Go.Proofs.YtleafmdjhmnjmaaGreatDoor
