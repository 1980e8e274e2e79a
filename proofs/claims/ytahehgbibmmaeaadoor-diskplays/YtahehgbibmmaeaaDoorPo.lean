/- A script, read as it lies in memory. -/
import Derived.Test.YtahehgbibmmaeaaDoorPa
import Derived.Test.YtahehgbibmmaeaaDoorRow3
import Derived.Deep.Slices
import Derived.Carry
import Derived.ChangeOld
namespace Go.Proofs.YtahehgbibmmaeaaDoor
open Go.ChangeShapes Go.WideShapes Go.ChangeAt Go.RowKit Go.Deep
set_option maxRecDepth 100000

theorem opCells : Tryd.prog.cellsOf 44 = 4 := by kernel_rfl
theorem intCells : Tryd.prog.cellsOf 3 = 1 := by kernel_rfl
theorem boolCells : Tryd.prog.cellsOf 4 = 1 := by kernel_rfl
/-- One call, read as it lies. -/
theorem open_op {H : Type} {enc : TypeId × Value → H} {W : World} {base : Nat} {spare : Nat → Bool} {held : Bool} {fuel : Nat} {cs : List Value} {x : DataW H × List MemPlace}
    (h : DataW.trod enc Tryd.prog W base spare held fuel 44 cs = some x) :
    ∃ o : OpT, i64 o.i ∧ i64 o.n ∧ cs = [.int .i64 o.kind, .int .i64 o.i, .int .i64 o.n, .bool o.short] := by
  obtain ⟨xs, n, _, _, hl, hlen, hf⟩ := DataW.trod_struct Tryd.underlying44 h
  rw [opCells] at hl
  match cs, hl with
  | [c0, c1, c2, c3], _ =>
    match xs, hlen with
    | [y0, y1, y2, y3], _ =>
      have h0 := hf 0 _ rfl
      have h1 := hf 1 _ rfl
      have h2 := hf 2 _ rfl
      have h3 := hf 3 _ rfl
      simp [intCells, boolCells] at h0 h1 h2 h3
      obtain ⟨n0, e0, _, _⟩ := DataW.trod_int Tryd.underlying3 h0
      obtain ⟨n1, e1, _, w1⟩ := DataW.trod_int Tryd.underlying3 h1
      obtain ⟨n2, e2, _, w2⟩ := DataW.trod_int Tryd.underlying3 h2
      obtain ⟨b3, e3, _⟩ := DataW.trod_bool Tryd.underlying4 h3
      simp at e0 e1 e2 e3
      subst e0 e1 e2 e3
      exact ⟨⟨n0, n1, n2, b3⟩, wf_bounds w1, wf_bounds w2, rfl⟩
theorem open_opsAt {H : Type} {enc : TypeId × Value → H} {W : World} {base : Nat} {v : Value} {d : DataW H} {p : List MemPlace} (hval : Value.okWide Tryd.prog W .any base 39 v)
    (h : DataW.Trod enc Tryd.prog W 0 (fun _ => true) true 39 v d p) : ∃ ops, OpsAt W v ops := by
  obtain ⟨a0, len, cap, rfl⟩ := okWide_slice Tryd.underlying39 hval
  obtain ⟨fuel, hf⟩ := h
  rcases open_slice Tryd.underlying39 hf with ⟨hcs, hx⟩ | ⟨a, len', cap', m, n, D, Pl, hcs, _, hl, hm, hmm, hx, hcell⟩
  · simp [Value.cells] at hcs
    obtain ⟨rfl, rfl, rfl⟩ := hcs
    exact ⟨[], none, 0, rfl, by simp, fun o h => by simp at h, fun h => (h rfl).elim⟩
  · simp [Value.cells] at hcs
    obtain ⟨rfl, rfl, rfl⟩ := hcs
    simp only [if_true] at hmm
    subst hmm
    rw [opCells] at hcell
    have hone : ∀ i, i < len → ∃ o : OpT, (i64 o.i ∧ i64 o.n) ∧ W.cells? 0 (a.add (i * 4)) 4 = some [.int .i64 o.kind, .int .i64 o.i, .int .i64 o.n, .bool o.short] := fun i hi => by
      obtain ⟨cs', h1, h2⟩ := hcell i (by omega)
      obtain ⟨o, ho1, ho2, rfl⟩ := open_op h2
      exact ⟨o, ⟨ho1, ho2⟩, h1⟩
    haveI : Inhabited OpT := ⟨⟨0, 0, 0, false⟩⟩
    obtain ⟨f, hf⟩ := choose_lt (α := OpT) hone
    have hlen : ((List.range len).map f).length = len := by simp
    refine ⟨(List.range len).map f, some a, m, by rw [hlen], by rw [hlen]; omega, fun o ho => ?_, fun hne => ?_⟩
    · obtain ⟨i, hi, rfl⟩ := List.mem_map.1 ho
      exact (hf i (by simpa using hi)).1
    · have h0 : 0 < len := by
        rcases Nat.eq_zero_or_pos len with h | h
        · rw [h] at hne; simp at hne
        · exact h
      have hat : ∀ i, i < len → ∀ j, j < 4 → W.cell? ((a.add (i * 4)).add j) = [Value.int .i64 (f i).kind, .int .i64 (f i).i, .int .i64 (f i).n, .bool (f i).short][j]? := fun i hi j hj => (World.cells?_some (hf i hi).2).2.2 j hj
      obtain ⟨b, off, spot⟩ := a
      have hz := hat 0 h0 0 (by decide)
      have hspot : spot = none := by simpa [Addr.add] using World.cell?_spot hz
      subst hspot
      refine ⟨b, off, rfl, by simpa [Addr.add] using World.block_lt_of_cell? W _ hz, fun k o hk => ?_⟩
      have hk' : k < len := by
        rcases Nat.lt_or_ge k len with h | h
        · exact h
        · rw [List.getElem?_eq_none (by rw [hlen]; exact h)] at hk; cases hk
      have ho : o = f k := by simpa [hk'] using hk.symm
      subst ho
      have g0 := hat k hk' 0 (by decide)
      have g1 := hat k hk' 1 (by decide)
      have g2 := hat k hk' 2 (by decide)
      have g3 := hat k hk' 3 (by decide)
      rw [add_plain, add_plain] at g0 g1 g2 g3
      exact ⟨g0, g1, g2, g3⟩
end Go.Proofs.YtahehgbibmmaeaaDoor
