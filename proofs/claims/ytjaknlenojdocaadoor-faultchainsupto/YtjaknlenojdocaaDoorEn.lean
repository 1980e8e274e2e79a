/- fault's helper that asks whether a chain ends: it does, for a chain of fewer than 1,000,000 Faults above an Errno. -/
import Derived.Test.YtjaknlenojdocaaDoorJn
namespace Go.Proofs.YtjaknlenojdocaaDoor
open Go.RowKit Go.Extern.Stop Go.Stop Go.Extern
set_option maxRecDepth 100000

/-- What holds of ends' loop: 'k' rounds at most are to come. -/
def EndsRel (w : World) (n : Int) (len : Nat) (k : Nat) (todo i : Value) (wr : World) : Prop :=
  Below w.heap.size w wr ∧ w.heap.size < wr.heap.size ∧ wr.frozen? ⟨w.heap.size, 0, none⟩ = false ∧
  ((∃ rest e, todo = .slice (some ⟨w.heap.size, 0, none⟩) 1 1 ∧ wr.cell? ⟨w.heap.size, 0, none⟩ = some e ∧ Chain w rest (num n) e ∧ k = rest.length + 1 ∧ rest.length ≤ len ∧ i = .int .i64 ((len - rest.length : Nat) : Int)) ∨
   (∃ e, todo = .slice (some ⟨w.heap.size, 0, none⟩) 0 1 ∧ wr.cell? ⟨w.heap.size, 0, none⟩ = some e ∧ k = 0 ∧ i = .int .i64 ((len + 1 : Nat) : Int)))

set_option maxHeartbeats 1000000 in
theorem ends_chain (n : Int) (w : World) (l : List (ByteArray × ByteArray)) (e : Value) (hc : Chain w l (num n) e) (hl : l.length < 1000000) :
    Calls Tryd.prog 26 #[e] w fun ev w' => ev = .returned (.bool true) ∧ Below w.heap.size w w' := by
  obtain ⟨u, v, he⟩ := hc.held (Or.inr ⟨_, _, rfl⟩)
  have hB : Below w.heap.size w (w.alloc (.cells #[e] 25)) := (Below.refl _ _).alloc (Nat.le_refl _) _
  subst he
  have hC := hidden hc
  clear hc
  go_enter Tryd.func26, Tryd.ntmps26
  go_wp2_with fail
  go_loopg [3, 9] (l.length + 1) (fun k todo i wr => EndsRel w n l.length k todo i wr)
  case atStart =>
    exact ⟨hB, by simp, by simp, Or.inl ⟨l, .iface u v, rfl, by simp, hC.out, rfl, Nat.le_refl _, by simp⟩⟩
  case round =>
    obtain ⟨hB, hz, hfz, ⟨rest, e, rfl, hcell, hch, hk, hlen, rfl⟩ | ⟨e, rfl, hcell, hk, rfl⟩⟩ := hrel
    · cases rest with
      | nil =>
        have he : e = num n := hch
        subst he
        have hk := hidden hk
        clear hC hlen hch
        have hi : ((l.length - ([] : List (ByteArray × ByteArray)).length : Nat) : Int) < 1000000 := by simp; omega
        have hi0 : (0 : Int) ≤ ((l.length - ([] : List (ByteArray × ByteArray)).length : Nat) : Int) := by omega
        have hi1 := hidden (show ((l.length - ([] : List (ByteArray × ByteArray)).length : Nat) : Int) + 1 = ((l.length + 1 : Nat) : Int) by simp)
        generalize ((l.length - ([] : List (ByteArray × ByteArray)).length : Nat) : Int) = i at hi hi0 hi1 ⊢
        go_wp2_with (go_at_call 32; refine (next_num n _).mono ?_; rintro ev w' ⟨rfl, rfl⟩)
        refine (joined_num n _).mono ?_
        rintro ev w1 ⟨rfl, hB1⟩
        have hc1 : w1.cell? ⟨w.heap.size, 0, none⟩ = some (num n) := (hB1.cell (p := ⟨w.heap.size, 0, none⟩) (by show w.heap.size < _; simp; omega)).trans ((World.cell?_alloc_lt _ _ ⟨w.heap.size, 0, none⟩ hz).trans hcell)
        have hf1 : w1.frozen? ⟨w.heap.size, 0, none⟩ = false := (hB1.frozen (p := ⟨w.heap.size, 0, none⟩) (by show w.heap.size < _; simp; omega)).trans ((World.frozen?_alloc_old _ _ ⟨w.heap.size, 0, none⟩ (Nat.ne_of_lt hz)).trans hfz)
        go_wp2
        go_roundg 0
        case measure => rw [hk.out]; simp
        case rel =>
          exact ⟨(hB.alloc (Nat.le_of_lt hz) _).trans (hB1.mono (by simp; omega)), by have := hB1.size; simp at this; omega, hf1, Or.inr ⟨_, rfl, hc1, rfl, by rw [hi1.out]⟩⟩
      | cons p r =>
        obtain ⟨op, nm⟩ := p
        obtain ⟨b, e', rfl, hb, h0, h1, h2, hr⟩ := hch
        obtain ⟨u', v', rfl⟩ := hr.held (Or.inr ⟨_, _, rfl⟩)
        have h2 := (hB.cell (p := ⟨b, 2, none⟩) hb).trans h2
        have hb' : b < wr.heap.size := by omega
        have hr := hidden hr
        have hk := hidden hk
        clear h0 h1 hC hb
        simp only [List.length_cons] at hlen
        have hi : ((l.length - (r.length + 1) : Nat) : Int) < 1000000 := by omega
        have hi0 : (0 : Int) ≤ ((l.length - (r.length + 1) : Nat) : Int) := by omega
        have hi1 := hidden (show ((l.length - (r.length + 1) : Nat) : Int) + 1 = ((l.length - r.length : Nat) : Int) by omega)
        rw [List.length_cons]
        generalize ((l.length - (r.length + 1) : Nat) : Int) = i at hi hi0 hi1 ⊢
        go_wp2_with (go_at_call 32; refine (next_fault b u' v' _ hb' h2).mono ?_; rintro ev w' ⟨rfl, rfl⟩)
        go_roundg (r.length + 1)
        case measure => rw [hk.out]; simp
        case rel =>
          have e1 : (wr.setCell ⟨w.heap.size, 0, none⟩ (.iface u' v')).heap.size = wr.heap.size := by simp [World.setCell]
          refine ⟨((hB.setCell (Nat.le_refl _) _).alloc (by rw [e1]; omega) _).alloc (by simp; omega) _, by simp; omega, by
            rw [World.frozen?_alloc_old _ _ ⟨w.heap.size, 0, none⟩ (by simp [e1]; omega), World.frozen?_alloc_old _ _ ⟨w.heap.size, 0, none⟩ (by rw [e1]; exact Nat.ne_of_lt hz)]; simp [hfz], Or.inl ⟨r, .iface u' v', rfl, by
            rw [World.cell?_alloc_lt _ _ ⟨w.heap.size, 0, none⟩ (by simp [e1]; omega), World.cell?_alloc_lt _ _ ⟨w.heap.size, 0, none⟩ (by rw [e1]; exact hz)]; exact World.cell?_setCell_same' _ _ _ (by rw [hcell]; rfl), hr.out, rfl, by omega, by rw [hi1.out]⟩⟩
    · have hk := hidden hk
      have hi : ((l.length + 1 : Nat) : Int) < 1000001 := by omega
      have hi0 : (0 : Int) ≤ ((l.length + 1 : Nat) : Int) := by omega
      clear hC
      generalize ((l.length + 1 : Nat) : Int) = i at hi hi0 ⊢
      go_wp2
      go_ret
      exact ⟨rfl, hB⟩
end Go.Proofs.YtjaknlenojdocaaDoor
