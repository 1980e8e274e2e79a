/- Rows of bools that a statement of layer 7 keeps. -/
import Derived.Test.YtpofdffogkojdaaGreatDoorGAn
namespace Go.Proofs.YtpofdffogkojdaaGreatDoor
open Go.RowKit Go.Extern.Stop Go.Stop Go.Extern Go.Shelf
set_option maxRecDepth 100000

section
variable {sb N : Nat} {S : Nat → Bool} {w w' : World}
theorem SeenAt.lt (h : SeenAt sb N S w) (h0 : 0 < N) : sb < w.heap.size := lt_of_cell (a := ⟨sb, 0, none⟩) (h.cell 0 h0)
theorem SeenAt.keep (h : SeenAt sb N S w) (h0 : 0 < N) {bs : List Nat} (ha : Apart bs w w') (hn : sb ∉ bs) : SeenAt sb N S w' :=
  ⟨fun i hi => (ha.cell (p := ⟨sb, i, none⟩) (h.lt h0) hn).trans (h.cell i hi), fun i hi => (ha.frozen (p := ⟨sb, i, none⟩) (h.lt h0) hn).trans (h.free i hi)⟩
theorem SeenAt.below (h : SeenAt sb N S w) (h0 : 0 < N) (hb : Below w.heap.size w w') : SeenAt sb N S w' := h.keep h0 (Apart.of_below (bs := []) hb) (by simp)
theorem SeenAt.put (h : SeenAt sb N S w) (X : Nat) (hX : X < N) (b : Bool) : SeenAt sb N (setS S X b) (w.setCell ⟨sb, X, none⟩ (.bool b)) :=
  ⟨fun j hj => by
    unfold setS
    by_cases e : j = X
    · subst e
      simp only [if_true]
      exact World.cell?_setCell_same' _ _ _ (by rw [h.cell j hj]; rfl)
    · simp only [if_neg e]
      exact (World.cell?_setCell_other _ _ _ _ (by intro x; exact e (congrArg Addr.off x).symm)).trans (h.cell j hj), fun j hj => by simp [h.free j hj]⟩
theorem SeenAt.congr {T : Nat → Bool} (h : SeenAt sb N S w) (he : ∀ i, i < N → S i = T i) : SeenAt sb N T w := ⟨fun i hi => by rw [← he i hi]; exact h.cell i hi, h.free⟩
end
/-- A Map, and a row of bools at block sb that says the same. -/
structure DSt (w0 : World) (d g jb cb mb ab sb ma fr k : Nat) (S T : Nat → Bool) (w : World) : Prop where
  a : ASt w0 d g jb cb mb ab ma fr k S w
  s : SeenAt sb k T w
  far : d < sb ∧ g < sb ∧ jb < sb ∧ cb < sb ∧ mb < sb ∧ ab < sb ∧ w0.heap.size ≤ sb
section
variable {w0 : World} {d g jb cb mb ab sb ma fr k : Nat} {S T : Nat → Bool} {w w' : World}
theorem DSt.k0 (h : DSt w0 d g jb cb mb ab sb ma fr k S T w) : 0 < k := h.a.fit.k1
theorem DSt.more (h : DSt w0 d g jb cb mb ab sb ma fr k S T w) (hb : Below w.heap.size w w') : DSt w0 d g jb cb mb ab sb ma fr k S T w' :=
  ⟨h.a.more hb, h.s.below h.k0 hb, h.far⟩
theorem DSt.on (h : DSt w0 d g jb cb mb ab sb ma fr k S T w) {S' : Nat → Bool} (ha : ASt w0 d g jb cb mb ab ma fr k S' w') (hA : Apart [mb] w w') : DSt w0 d g jb cb mb ab sb ma fr k S' T w' :=
  ⟨ha, h.s.keep h.k0 hA (by simp; have := h.far; omega), h.far⟩
theorem DSt.put (h : DSt w0 d g jb cb mb ab sb ma fr k S T w) (X : Nat) (hX : X < k) (b : Bool) : DSt w0 d g jb cb mb ab sb ma fr k S (setS T X b) (w.setCell ⟨sb, X, none⟩ (.bool b)) :=
  ⟨h.a.turnB ((Apart.refl [sb] w).setCell (p := ⟨sb, X, none⟩) (by simp) (.bool b)) (by have := h.far; omega), h.s.put X hX b, h.far⟩
theorem DSt.congr {S' T' : Nat → Bool} (h : DSt w0 d g jb cb mb ab sb ma fr k S T w) (h1 : ∀ i, i < k → S i = S' i) (h2 : ∀ i, i < k → T i = T' i) : DSt w0 d g jb cb mb ab sb ma fr k S' T' w := ⟨h.a.congr h1, h.s.congr h2, h.far⟩
theorem DSt.take (h : DSt w0 d g jb cb mb ab sb ma fr k S T w) (i : Nat) (hi : i < k) (hfree : S i = false) (hlow : ∀ j, j < i → S j = true) :
    Calls Tryz.prog 174 #[ptr ab] w fun e w' => e = .returned (.tuple #[.int .i64 (fr + i : Nat), .nilIface]) ∧ DSt w0 d g jb cb mb ab sb ma fr k (setS S i true) T w' :=
  (h.a.take i hi hfree hlow).mono fun _ _ ⟨h1, h2, h3⟩ => ⟨h1, h.on h2 h3⟩
theorem DSt.give (h : DSt w0 d g jb cb mb ab sb ma fr k S T w) (i : Nat) (hi : i < k) (no : Int) (hno : no = fr + i) (ht : S i = true) :
    Calls Tryz.prog 136 #[ptr ab, .int .i64 no] w fun e w' => e = .returned .nilIface ∧ DSt w0 d g jb cb mb ab sb ma fr k (setS S i false) T w' :=
  (h.a.give i hi no hno ht).mono fun _ _ ⟨h1, h2, h3⟩ => ⟨h1, h.on h2 h3⟩
end
/-- The first i of all. -/
def firstS (i : Nat) : Nat → Bool := fun j => decide (j < i)
theorem firstS_succ (i : Nat) : setS (firstS i) i true = firstS (i + 1) := by
  funext j
  unfold setS firstS
  by_cases e : j = i
  · subst e; simp
  · rw [if_neg e]
    apply Bool.eq_iff_iff.2
    simp only [decide_eq_true_eq]
    omega
theorem freeN_all (S : Nat → Bool) : ∀ (k : Nat), (∀ i, i < k → S i = false) → freeN S k = k
  | 0, _ => rfl
  | k + 1, h => by rw [freeN_succ, freeN_all S k (fun i hi => h i (by omega)), h k (by omega)]; rfl
theorem freeN_first (i k : Nat) (h : i ≤ k) : freeN (firstS i) k = k - i := by
  induction k with
  | zero => obtain rfl : i = 0 := by omega
            rfl
  | succ k ih =>
    rw [freeN_succ]
    by_cases e : i ≤ k
    · rw [ih e]
      unfold firstS
      rw [decide_eq_false (by omega)]
      simp
      omega
    · obtain rfl : i = k + 1 := by omega
      have : freeN (firstS (k + 1)) k = 0 := by
        unfold freeN
        rw [List.countP_eq_zero]
        intro j hj
        have := List.mem_range.1 hj
        unfold firstS
        simp
        omega
      rw [this]
      unfold firstS
      simp
end Go.Proofs.YtpofdffogkojdaaGreatDoor
