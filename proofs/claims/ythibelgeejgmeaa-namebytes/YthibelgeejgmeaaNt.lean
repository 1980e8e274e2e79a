/- From a row's reading of a list of texts to the walks' words. -/
import Derived.Test.YthibelgeejgmeaaNa2
import Derived.Carry
import Derived.ChangeOld
import Derived.SliceStrings
import Derived.ChangeMaps5
namespace Go.Proofs.Ythibelgeejgmeaa
open Go Go.ChangeShapes Go.WideShapes Go.ChangeAt Go.RowKit
set_option maxRecDepth 100000

theorem own : ownKnob Try.prog.godebug = none := by kernel_rfl
theorem laidOut : laidOutB Try.prog = true := by kernel_rfl
theorem strCellsOne : Try.prog.cellsOf 9 = 1 := by kernel_rfl
theorem byte_of {y : Int} (h : (Lit.int .u8 y).wf = true) : ∃ x : UInt8, y = (x.toNat : Int) := by
  obtain ⟨h1, h2⟩ := bounds_u8 h
  refine ⟨UInt8.ofNat y.toNat, ?_⟩
  have : (UInt8.ofNat y.toNat).toNat = y.toNat := by simp; omega
  rw [this]; omega
theorem wf_bounds {n : Int} (h : (Lit.int .i64 n).wf = true) : -9223372036854775808 ≤ n ∧ n ≤ 9223372036854775807 := bounds_i64 h
/-- An argument that is a list of texts. -/
theorem open_txts {H : Type} {enc : TypeId × Value → H} {W : World} {base : Nat} {v : Value} {d : DataW H} {p : List MemPlace} (hv : Value.okWide Try.prog W .any base 22 v) (h : DataW.Trod enc Try.prog W 0 (fun _ => true) true 22 v d p) :
    ∃ l, TxtsAt W v l := by
  obtain ⟨a0, len, cap, rfl⟩ := okWide_slice Try.underlying22 hv
  obtain ⟨fuel, hf⟩ := h
  rcases open_strings Try.underlying22 Try.underlying9 strCellsOne hf with ⟨hcs, hx⟩ | ⟨a, len', cap', ss, hcs, _, hl, hm, hz, hx, hcell, hws⟩
  · simp [Value.cells] at hcs
    obtain ⟨rfl, rfl, rfl⟩ := hcs
    exact ⟨[], TxtsAt.nil _ _ _⟩
  · simp [Value.cells] at hcs
    obtain ⟨rfl, rfl, rfl⟩ := hcs
    have hz' : ss.length = cap := by simpa using hz
    have hlen : ((ss.take len).map (·.data.toList)).length = len := by simp; omega
    refine ⟨(ss.take len).map (·.data.toList), some a, cap, by rw [hlen], by rw [hlen]; exact hl, fun hn => ?_⟩
    have hpos : 0 < ss.length := by
      rcases Nat.eq_zero_or_pos ss.length with h | h
      · rw [List.length_eq_zero_iff.1 h] at hn; simp at hn
      · exact h
    obtain ⟨b, off, spot⟩ := a
    have hspot : spot = none := by simpa [Addr.add] using World.cell?_spot (hcell 0 hpos)
    subst hspot
    have hc0 := hcell 0 hpos
    refine ⟨b, off, rfl, by simpa [Addr.add] using World.block_lt_of_cell? W _ hc0, fun j x hj => ?_⟩
    rw [List.getElem?_map] at hj
    obtain ⟨s, hj', rfl⟩ := Option.map_eq_some_iff.1 hj
    have hj2 : ss[j]? = some s := by
      rw [List.getElem?_take] at hj'
      split at hj'
      · exact hj'
      · cases hj'
    obtain ⟨hjl, hje⟩ := List.getElem?_eq_some_iff.1 hj2
    have := hcell j hjl
    rw [Go.WideShapes.add_plain] at this
    rw [mk_back]
    simpa [List.getD, hj2] using this
end Go.Proofs.Ythibelgeejgmeaa
