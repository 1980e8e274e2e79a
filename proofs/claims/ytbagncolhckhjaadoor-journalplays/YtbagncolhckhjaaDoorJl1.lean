/- For JournalPlays: a script of groups, read as it lies in memory. -/
import Derived.Test.YtbagncolhckhjaaDoorRow4
import Derived.Deep.Slices
import Derived.Carry
import Derived.ChangeOld
namespace Go.Proofs.YtbagncolhckhjaaDoor
open Go.ChangeShapes Go.WideShapes Go.ChangeAt Go.RowKit Go.Deep
set_option maxRecDepth 100000

/-- A block of a group: its number, and what is in it by a number. -/
structure RawT where
  no : Int
  n : Int
def RawsAt (w : World) (v : Value) (rs : List RawT) : Prop :=
  ∃ a cap, v = .slice a rs.length cap ∧ rs.length ≤ maxLen ∧ (∀ r ∈ rs, i64 r.no ∧ i64 r.n) ∧
    (rs ≠ [] → ∃ b off, a = some ⟨b, off, none⟩ ∧ b < w.heap.size ∧ ∀ k r, rs[k]? = some r → w.cell? ⟨b, off + k * 2, none⟩ = some (.int .i64 r.no) ∧ w.cell? ⟨b, off + k * 2 + 1, none⟩ = some (.int .i64 r.n))
theorem RawsAt.below {w w' : World} {v : Value} {rs : List RawT} (h : RawsAt w v rs) (hb : Below w.heap.size w w') : RawsAt w' v rs := by
  obtain ⟨a, cap, hv, hl, hr, hc⟩ := h
  refine ⟨a, cap, hv, hl, hr, fun hne => ?_⟩
  obtain ⟨b, off, ha, hlt, hk⟩ := hc hne
  exact ⟨b, off, ha, Nat.lt_of_lt_of_le hlt hb.size, fun k r hr => ⟨(hb.cell (p := ⟨b, off + k * 2, none⟩) hlt).trans (hk k r hr).1, (hb.cell (p := ⟨b, off + k * 2 + 1, none⟩) hlt).trans (hk k r hr).2⟩⟩
/-- A Commit of the script. -/
structure StepT where
  v : Value
  rs : List RawT
  fuse : Int
  op : Int
def ScriptAt (w : World) (v : Value) (ss : List StepT) : Prop :=
  ∃ a cap, v = .slice a ss.length cap ∧ ss.length ≤ maxLen ∧ (∀ s ∈ ss, i64 s.fuse ∧ i64 s.op ∧ RawsAt w s.v s.rs) ∧
    (ss ≠ [] → ∃ b off, a = some ⟨b, off, none⟩ ∧ b < w.heap.size ∧ ∀ k s, ss[k]? = some s → w.cell? ⟨b, off + k * 3, none⟩ = some s.v ∧ w.cell? ⟨b, off + k * 3 + 1, none⟩ = some (.int .i64 s.fuse) ∧ w.cell? ⟨b, off + k * 3 + 2, none⟩ = some (.int .i64 s.op))
theorem rawCells : Tryd.prog.cellsOf 55 = 2 := by kernel_rfl
theorem stepCells : Tryd.prog.cellsOf 53 = 3 := by kernel_rfl
theorem intCells1 : Tryd.prog.cellsOf 3 = 1 := by kernel_rfl
theorem rawsCells : Tryd.prog.cellsOf 51 = 1 := by kernel_rfl
theorem open_raw {H : Type} {enc : TypeId × Value → H} {W : World} {base : Nat} {spare : Nat → Bool} {held : Bool} {fuel : Nat} {cs : List Value} {x : DataW H × List MemPlace}
    (h : DataW.trod enc Tryd.prog W base spare held fuel 55 cs = some x) : ∃ r : RawT, (i64 r.no ∧ i64 r.n) ∧ cs = [.int .i64 r.no, .int .i64 r.n] := by
  obtain ⟨xs, n, _, _, hl, hlen, hf⟩ := DataW.trod_struct Tryd.underlying55 h
  rw [rawCells] at hl
  match cs, hl with
  | [c0, c1], _ =>
    match xs, hlen with
    | [y0, y1], _ =>
      have h0 := hf 0 _ rfl
      have h1 := hf 1 _ rfl
      simp [intCells1] at h0 h1
      obtain ⟨n0, e0, _, w0⟩ := DataW.trod_int Tryd.underlying3 h0
      obtain ⟨n1, e1, _, w1⟩ := DataW.trod_int Tryd.underlying3 h1
      simp at e0 e1
      subst e0 e1
      exact ⟨⟨n0, n1⟩, ⟨wf_bounds w0, wf_bounds w1⟩, rfl⟩
theorem open_raws {H : Type} {enc : TypeId × Value → H} {W : World} {base : Nat} {held : Bool} {fuel : Nat} {cs : List Value} {x : DataW H × List MemPlace}
    (h : DataW.trod enc Tryd.prog W base (fun _ => true) held fuel 51 cs = some x) : ∃ v rs, cs = [v] ∧ RawsAt W v rs := by
  rcases open_slice Tryd.underlying51 h with ⟨hcs, hx⟩ | ⟨a, len, cap, m, n, D, Pl, hcs, _, hl, hm, hmm, hx, hcell⟩
  · exact ⟨_, [], hcs, none, 0, rfl, by simp, fun r hr => (by cases hr), fun h => (h rfl).elim⟩
  · simp only [if_true] at hmm
    subst hmm
    rw [rawCells] at hcell
    have hone : ∀ i, i < len → ∃ r : RawT, (i64 r.no ∧ i64 r.n) ∧ W.cells? base (a.add (i * 2)) 2 = some [.int .i64 r.no, .int .i64 r.n] := fun i hi => by
      obtain ⟨cs', h1, h2⟩ := hcell i (by omega)
      obtain ⟨r, hr, rfl⟩ := open_raw h2
      exact ⟨r, hr, h1⟩
    have hin : Inhabited RawT := ⟨⟨0, 0⟩⟩
    obtain ⟨f, hf⟩ := choose_lt (α := RawT) hone
    have hlen : ((List.range len).map f).length = len := by simp
    refine ⟨_, (List.range len).map f, hcs, some a, m, by rw [hlen], by rw [hlen]; omega, fun r hr => ?_, fun hne => ?_⟩
    · obtain ⟨i, hi, rfl⟩ := List.mem_map.1 hr
      exact (hf i (by simpa using hi)).1
    · have h0 : 0 < len := by
        rcases Nat.eq_zero_or_pos len with h | h
        · rw [h] at hne; simp at hne
        · exact h
      have hat : ∀ i, i < len → ∀ j, j < 2 → W.cell? ((a.add (i * 2)).add j) = [Value.int .i64 (f i).no, .int .i64 (f i).n][j]? := fun i hi j hj => (World.cells?_some (hf i hi).2).2.2 j hj
      obtain ⟨b, off, spot⟩ := a
      have hz := hat 0 h0 0 (by decide)
      have hspot : spot = none := by simpa [Addr.add] using World.cell?_spot hz
      subst hspot
      refine ⟨b, off, rfl, by simpa [Addr.add] using World.block_lt_of_cell? W _ hz, fun k r hk => ?_⟩
      have hk' : k < len := by
        rcases Nat.lt_or_ge k len with h | h
        · exact h
        · rw [List.getElem?_eq_none (by rw [hlen]; exact h)] at hk; cases hk
      have hr : r = f k := by simpa [hk'] using hk.symm
      subst hr
      have g0 := hat k hk' 0 (by decide)
      have g1 := hat k hk' 1 (by decide)
      rw [add_plain, add_plain] at g0 g1
      exact ⟨g0, g1⟩
theorem open_step {H : Type} {enc : TypeId × Value → H} {W : World} {base : Nat} {held : Bool} {fuel : Nat} {cs : List Value} {x : DataW H × List MemPlace}
    (h : DataW.trod enc Tryd.prog W base (fun _ => true) held fuel 53 cs = some x) : ∃ s : StepT, (i64 s.fuse ∧ i64 s.op ∧ RawsAt W s.v s.rs) ∧ cs = [s.v, .int .i64 s.fuse, .int .i64 s.op] := by
  obtain ⟨xs, n, _, _, hl, hlen, hf⟩ := DataW.trod_struct Tryd.underlying53 h
  rw [stepCells] at hl
  match cs, hl with
  | [c0, c1, c2], _ =>
    match xs, hlen with
    | [y0, y1, y2], _ =>
      have h0 := hf 0 _ rfl
      have h1 := hf 1 _ rfl
      have h2 := hf 2 _ rfl
      simp [intCells1, rawsCells] at h0 h1 h2
      obtain ⟨v, rs, e0, hr⟩ := open_raws h0
      obtain ⟨n1, e1, _, w1⟩ := DataW.trod_int Tryd.underlying3 h1
      obtain ⟨n2, e2, _, w2⟩ := DataW.trod_int Tryd.underlying3 h2
      simp at e0 e1 e2
      subst e0 e1 e2
      exact ⟨⟨c0, rs, n1, n2⟩, ⟨wf_bounds w1, wf_bounds w2, hr⟩, rfl⟩
theorem open_script {H : Type} {enc : TypeId × Value → H} {W : World} {base : Nat} {v : Value} {d : DataW H} {p : List MemPlace} (hval : Value.okWide Tryd.prog W .any base 48 v)
    (h : DataW.Trod enc Tryd.prog W 0 (fun _ => true) true 48 v d p) : ∃ ss, ScriptAt W v ss := by
  obtain ⟨a0, len, cap, rfl⟩ := okWide_slice Tryd.underlying48 hval
  obtain ⟨fuel, hf⟩ := h
  rcases open_slice Tryd.underlying48 hf with ⟨hcs, hx⟩ | ⟨a, len', cap', m, n, D, Pl, hcs, _, hl, hm, hmm, hx, hcell⟩
  · simp [Value.cells] at hcs
    obtain ⟨rfl, rfl, rfl⟩ := hcs
    exact ⟨[], none, 0, rfl, by simp, fun s h => (by simp at h), fun h => (h rfl).elim⟩
  · simp [Value.cells] at hcs
    obtain ⟨rfl, rfl, rfl⟩ := hcs
    simp only [if_true] at hmm
    subst hmm
    rw [stepCells] at hcell
    have hone : ∀ i, i < len → ∃ s : StepT, (i64 s.fuse ∧ i64 s.op ∧ RawsAt W s.v s.rs) ∧ W.cells? 0 (a.add (i * 3)) 3 = some [s.v, .int .i64 s.fuse, .int .i64 s.op] := fun i hi => by
      obtain ⟨cs', h1, h2⟩ := hcell i (by omega)
      obtain ⟨s, hs, rfl⟩ := open_step h2
      exact ⟨s, hs, h1⟩
    have hin : Inhabited StepT := ⟨⟨.nilIface, [], 0, 0⟩⟩
    obtain ⟨f, hf⟩ := choose_lt (α := StepT) hone
    have hlen : ((List.range len).map f).length = len := by simp
    refine ⟨(List.range len).map f, some a, m, by rw [hlen], by rw [hlen]; omega, fun s hs => ?_, fun hne => ?_⟩
    · obtain ⟨i, hi, rfl⟩ := List.mem_map.1 hs
      exact (hf i (by simpa using hi)).1
    · have h0 : 0 < len := by
        rcases Nat.eq_zero_or_pos len with h | h
        · rw [h] at hne; simp at hne
        · exact h
      have hat : ∀ i, i < len → ∀ j, j < 3 → W.cell? ((a.add (i * 3)).add j) = [(f i).v, Value.int .i64 (f i).fuse, .int .i64 (f i).op][j]? := fun i hi j hj => (World.cells?_some (hf i hi).2).2.2 j hj
      obtain ⟨b, off, spot⟩ := a
      have hz := hat 0 h0 0 (by decide)
      have hspot : spot = none := by simpa [Addr.add] using World.cell?_spot hz
      subst hspot
      refine ⟨b, off, rfl, by simpa [Addr.add] using World.block_lt_of_cell? W _ hz, fun k s hk => ?_⟩
      have hk' : k < len := by
        rcases Nat.lt_or_ge k len with h | h
        · exact h
        · rw [List.getElem?_eq_none (by rw [hlen]; exact h)] at hk; cases hk
      have hs : s = f k := by simpa [hk'] using hk.symm
      subst hs
      have g0 := hat k hk' 0 (by decide)
      have g1 := hat k hk' 1 (by decide)
      have g2 := hat k hk' 2 (by decide)
      rw [add_plain, add_plain] at g0 g1 g2
      exact ⟨g0, g1, g2⟩
end Go.Proofs.YtbagncolhckhjaaDoor
