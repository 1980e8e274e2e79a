/- An argument that is an entry, read as it lies. -/
import Derived.Test.YtdiplnaphdppbaaGreatDoorX20
import Derived.Test.YtdiplnaphdppbaaGreatDoorRows
import Derived.Deep.Slices
import Derived.Carry
import Derived.ChangeOld
import Derived.Deep.Grids
namespace Go.Proofs.YtdiplnaphdppbaaGreatDoor
open Go.ChangeShapes Go.WideShapes Go.ChangeAt Go.RowKit Go.Deep
set_option maxRecDepth 100000

theorem enCells : Tryz.prog.cellsOf 27 = 5 := by kernel_rfl
theorem blCells : Tryz.prog.cellsOf 24 = 2 := by kernel_rfl
theorem bsCells : Tryz.prog.cellsOf 25 = 1 := by kernel_rfl
theorem txCells : Tryz.prog.cellsOf 9 = 1 := by kernel_rfl
theorem open_blob {H : Type} {enc : TypeId × Value → H} {W : World} {base : Nat} {spare : Nat → Bool} {held : Bool} {fuel : Nat} {cs : List Value} {x : DataW H × List MemPlace}
    (h : DataW.trod enc Tryz.prog W base spare held fuel 24 cs = some x) :
    ∃ o : Bl, cs = [.string (mkB o.1), .string (mkB o.2)] := by
  obtain ⟨xs, n, _, _, hl, hlen, hf⟩ := DataW.trod_struct Tryz.underlying24 h
  rw [blCells] at hl
  match cs, hl with
  | [c0, c1], _ =>
    match xs, hlen with
    | [y0, y1], _ =>
      have h0 := hf 0 _ rfl
      have h1 := hf 1 _ rfl
      simp [txCells] at h0 h1
      obtain ⟨n0, e0, _, _⟩ := DataW.trod_string Tryz.underlying9 h0
      obtain ⟨n1, e1, _, _⟩ := DataW.trod_string Tryz.underlying9 h1
      simp at e0 e1
      subst e0 e1
      exact ⟨(n0.data.toList, n1.data.toList), by rw [mk_back, mk_back]⟩
theorem open_blobs {H : Type} {enc : TypeId × Value → H} {W : World} {fuel : Nat} {v : Value} {x : DataW H × List MemPlace}
    (h : DataW.trod enc Tryz.prog W 0 (fun _ => true) true fuel 25 [v] = some x) : ∃ l, BlobsAt W v l := by
  rcases open_slice Tryz.underlying25 h with ⟨hcs, hx⟩ | ⟨a, len', cap', m, n, D, Pl, hcs, _, hl, hm, hmm, hx, hcell⟩
  · simp at hcs
    subst hcs
    exact ⟨[], BlobsAt.nil _ _ _⟩
  · simp at hcs
    subst hcs
    simp only [if_true] at hmm
    subst hmm
    rw [blCells] at hcell
    have hone : ∀ i, i < len' → ∃ o : Bl, W.cells? 0 (a.add (i * 2)) 2 = some [.string (mkB o.1), .string (mkB o.2)] := fun i hi => by
      obtain ⟨cs', h1, h2⟩ := hcell i (by omega)
      obtain ⟨o, rfl⟩ := open_blob h2
      exact ⟨o, h1⟩
    have hin : Inhabited Bl := ⟨([], [])⟩
    obtain ⟨f, hf⟩ := choose_lt (α := Bl) hone
    have hlen : ((List.range len').map f).length = len' := by simp
    refine ⟨(List.range len').map f, some a, m, by rw [hlen], by rw [hlen]; omega, fun hne => ?_⟩
    have h0 : 0 < len' := by
      rcases Nat.eq_zero_or_pos len' with h | h
      · rw [h] at hne; simp at hne
      · exact h
    have hat : ∀ i, i < len' → ∀ j, j < 2 → W.cell? ((a.add (i * 2)).add j) = [Value.string (mkB (f i).1), .string (mkB (f i).2)][j]? := fun i hi j hj => (World.cells?_some (hf i hi)).2.2 j hj
    obtain ⟨b, off, spot⟩ := a
    have hz := hat 0 h0 0 (by decide)
    have hspot : spot = none := by simpa [Addr.add] using World.cell?_spot hz
    subst hspot
    refine ⟨b, off, rfl, by simpa [Addr.add] using World.block_lt_of_cell? W _ hz, fun k o hk => ?_⟩
    have hk' : k < len' := by
      rcases Nat.lt_or_ge k len' with h | h
      · exact h
      · rw [List.getElem?_eq_none (by rw [hlen]; exact h)] at hk; cases hk
    have ho : o = f k := by simpa [hk'] using hk.symm
    subst ho
    have g0 := hat k hk' 0 (by decide)
    have g1 := hat k hk' 1 (by decide)
    rw [add_plain, add_plain] at g0 g1
    exact ⟨g0, g1⟩
theorem open_entry {H : Type} {enc : TypeId × Value → H} {W : World} {base : Nat} {v : Value} {d : DataW H} {p : List MemPlace} (hval : Value.okWide Tryz.prog W .any base 27 v)
    (h : DataW.Trod enc Tryz.prog W 0 (fun _ => true) true 27 v d p) : ∃ (x : En) (u : Value), v = enV x u ∧ BlobsAt W u x.ex := by
  unfold Value.okWide at hval
  simp only [Tryz.underlying27] at hval
  obtain ⟨cs, rfl, -, -⟩ := hval
  obtain ⟨fuel, hf⟩ := h
  obtain ⟨xs, n, _, _, hl, hlen, hff⟩ := DataW.trod_struct Tryz.underlying27 hf
  rw [enCells] at hl
  have hcs : (Value.agg cs).cells.toList = cs.toList := rfl
  rw [hcs] at hl hff
  obtain ⟨l, hll⟩ : ∃ l, cs.toList = l := ⟨_, rfl⟩
  have hca : cs = l.toArray := by rw [← hll]
  rw [hll] at hl hff
  match l, hl with
  | [c0, c1, c2, c3, c4], _ =>
    match xs, hlen with
    | [y0, y1, y2, y3], _ =>
      have h0 := hff 0 _ rfl
      have h1 := hff 1 _ rfl
      have h2 := hff 2 _ rfl
      have h3 := hff 3 _ rfl
      simp [txCells, blCells, bsCells] at h0 h1 h2 h3
      obtain ⟨n0, e0, _, _⟩ := DataW.trod_string Tryz.underlying9 h0
      obtain ⟨n3, e3, _, _⟩ := DataW.trod_string Tryz.underlying9 h3
      obtain ⟨o, e1⟩ := open_blob h1
      obtain ⟨ex, hex⟩ := open_blobs h2
      simp at e0 e1 e3
      obtain ⟨e1, e2⟩ := e1
      subst e0 e1 e2 e3
      exact ⟨⟨n0.data.toList, o.1, o.2, ex, n3.data.toList⟩, c3, by rw [hca, enV, mk_back, mk_back], hex⟩
end Go.Proofs.YtdiplnaphdppbaaGreatDoor
