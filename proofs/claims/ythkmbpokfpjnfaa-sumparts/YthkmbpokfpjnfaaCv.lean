/- Rows of bytes behind a draw, in a later memory, and as texts. -/
import Derived.Test.YthkmbpokfpjnfaaFv
import Derived.Test.YthkmbpokfpjnfaaRt
import Derived.BigQuiet
import Derived.Deep.DeepCutAuto
import Derived.Deep.RegionHeld3
import Derived.Lib.QuietBelow
namespace Go.Proofs.Ythkmbpokfpjnfaa
open Go.RowKit
set_option maxRecDepth 100000

theorem BytesAt.drew {w : World} {v : Value} {zs : List Int} (h : BytesAt w v zs) : BytesAt w.drew v zs := h.below ((Below.refl _ _).drew)
theorem PartsAt.below {w w' : World} {v : Value} {zss : List (List Int)} (h : PartsAt w v zss) (hb : Below w.heap.size w w') : PartsAt w' v zss := by
  obtain ⟨a, cap, hv, hm, hc⟩ := h
  refine ⟨a, cap, hv, hm, fun hne => ?_⟩
  obtain ⟨b, off, ha, hlt, hk⟩ := hc hne
  refine ⟨b, off, ha, Nat.lt_of_lt_of_le hlt hb.size, fun k hlk => ?_⟩
  obtain ⟨x, hx, hbx⟩ := hk k hlk
  exact ⟨x, (hb.cell (p := ⟨b, off + k, none⟩) hlt).trans hx, hbx.below hb⟩
/-- A row of bytes as a text. -/
theorem conv_bytes (w : World) (v : Value) (zs : List Int) (h : BytesAt w v zs) : (convert 22 9 v).run Try.prog w = .ok (.string (ofBytes zs)) w := by
  obtain ⟨a, cap, rfl, hr, hm, hn, hc⟩ := h
  rw [run_convert_bytes_string _ _ _ _ _ _ _ Try.underlying22 Try.underlying5 Try.underlying9]
  cases a with
  | none =>
    have hz : zs = [] := by
      rcases Classical.em (zs = []) with h | h
      · exact h
      · obtain ⟨b, off, hb, _⟩ := hc h; cases hb
    subst hz
    simp [Conv.bytesToString, ofBytes, Sem.run_pure]
  | some a =>
    refine run_bytesToString _ _ _ _ zs ?_
    have := run_loadCells_list (P := Try.prog) (w := w) a (zs.map (Value.int .u8)) ?_
    · simpa using this
    · intro j u hu
      have hj : j < zs.length := by
        rcases Nat.lt_or_ge j zs.length with h | h
        · exact h
        · rw [List.getElem?_eq_none (by simpa using h)] at hu; cases hu
      obtain ⟨b, off, hb, _, hcell⟩ := hc (by intro h; rw [h] at hj; simp at hj)
      cases hb
      rw [getD_map hj] at hu
      rw [Go.WideShapes.add_plain, hcell j hj]
      exact hu
/-- A number laid over a mask is within it. -/
theorem and_low (x : Int) (m : Nat) (hm : m < 4611686018427387904) : 0 ≤ bits .and .i64 x (m : Int) ∧ bits .and .i64 x (m : Int) ≤ (m : Int) := by
  have h1 : bits .and .i64 x (m : Int) = IntKind.i64.wrap (((BitVec.ofInt 64 x &&& BitVec.ofInt 64 (m : Int)).toNat : Nat) : Int) := rfl
  have h2 : (BitVec.ofInt 64 x &&& BitVec.ofInt 64 (m : Int)).toNat ≤ m := by
    rw [BitVec.toNat_and]
    refine Nat.le_trans Nat.and_le_right ?_
    rw [BitVec.toNat_ofInt]
    have : ((m : Int) % (2 ^ 64 : Nat)).toNat = m := by omega
    omega
  generalize (BitVec.ofInt 64 x &&& BitVec.ofInt 64 (m : Int)).toNat = z at h1 h2
  have h3 : IntKind.i64.wrap (z : Int) = z := by
    have h4 : (z : Int) % (2 ^ 64 : Int) = z := by omega
    simp only [IntKind.wrap, IntKind.bits, IntKind.signed, h4]
    rw [if_neg (by simp; omega)]
  rw [h1, h3]
  omega

end Go.Proofs.Ythkmbpokfpjnfaa
