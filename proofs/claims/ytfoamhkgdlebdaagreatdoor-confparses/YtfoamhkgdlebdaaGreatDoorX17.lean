/- The document's own: which entries may be, and which are the same. -/
import Derived.Test.YtfoamhkgdlebdaaGreatDoorX16
namespace Go.Proofs.YtfoamhkgdlebdaaGreatDoor
open Go.RowKit Go.Extern.Stop Go.Stop Go.Extern
set_option maxRecDepth 100000

def sameB (a b : Bl) : Bool := a.1 == b.1 && a.2 == b.2
theorem sameB_iff (a b : Bl) : sameB a b = true ↔ a = b := by
  obtain ⟨a1, a2⟩ := a; obtain ⟨b1, b2⟩ := b
  simp [sameB]
theorem neq_bl (a b : Bl) (w : World) : (binOp .neq 26 (.agg #[.string (mkB a.1), .string (mkB a.2)]) (.agg #[.string (mkB b.1), .string (mkB b.2)])).run Tryz.prog w = .ok (.bool (!sameB a b)) w := by
  have e1 : ((mkB a.1).toList == (mkB b.1).toList) = (a.1 == b.1) := by rw [mk_toList, mk_toList]
  have e2 : ((mkB a.2).toList == (mkB b.2).toList) = (a.2 == b.2) := by rw [mk_toList, mk_toList]
  unfold sameB
  rw [← e1, ← e2]
  go_simp
  by_cases h1 : a.1 = b.1 <;> by_cases h2 : a.2 = b.2 <;> simp [h1, h2]
theorem eql_bl (a b : Bl) (w : World) : (binOp .eql 26 (.agg #[.string (mkB a.1), .string (mkB a.2)]) (.agg #[.string (mkB b.1), .string (mkB b.2)])).run Tryz.prog w = .ok (.bool (sameB a b)) w := by
  have e1 : ((mkB a.1).toList == (mkB b.1).toList) = (a.1 == b.1) := by rw [mk_toList, mk_toList]
  have e2 : ((mkB a.2).toList == (mkB b.2).toList) = (a.2 == b.2) := by rw [mk_toList, mk_toList]
  unfold sameB
  rw [← e1, ← e2]
  go_simp
  by_cases h1 : a.1 = b.1 <;> by_cases h2 : a.2 = b.2 <;> simp [h1, h2]
theorem BlobsAt.cells {w : World} {v : Value} {l : List Bl} (h : BlobsAt w v l) {k : Nat} {y : Bl} (hy : l[k]? = some y) : ∃ b off cap, v = .slice (some ⟨b, off, none⟩) l.length cap ∧ l.length ≤ cap ∧ b < w.heap.size ∧ w.cell? ⟨b, off + k * 2, none⟩ = some (.string (mkB y.1)) ∧ w.cell? ⟨b, off + k * 2 + 1, none⟩ = some (.string (mkB y.2)) := by
  obtain ⟨a, cap, rfl, hcap, hc⟩ := h
  obtain ⟨b, off, rfl, hb, hx⟩ := hc (by intro e; rw [e] at hy; simp at hy)
  obtain ⟨h0, h1⟩ := hx k y hy
  exact ⟨b, off, cap, rfl, hcap, hb, h0, h1⟩
end Go.Proofs.YtfoamhkgdlebdaaGreatDoor
