/- Groups that a statement makes; what a Commit and the Opens behind it leave. -/
import Derived.Test.YtopegpjkkicjhaaGreatDoorJp8
namespace Go.Proofs.YtopegpjkkicjhaaGreatDoor
open Go.RowKit Go.Extern.Stop Go.Stop Go.Extern
set_option maxRecDepth 100000

/-- A block to be written: its number, where its bytes lie, and the bytes. -/
structure Piece where
  no : Int
  blk : Nat
  zs : List Int
abbrev Piece.cells (p : Piece) : List Value := [.int .i64 p.no, .slice (some ⟨p.blk, 0, none⟩) 128 128]
def cellsOf : List Piece → List Value
  | [] => []
  | p :: r => .int .i64 p.no :: .slice (some ⟨p.blk, 0, none⟩) 128 128 :: cellsOf r
def plain (ps : List Piece) : List (Int × List Int) := ps.map fun p => (p.no, p.zs)
theorem cellsOf_len : ∀ ps, (cellsOf ps).length = ps.length * 2
  | [] => rfl
  | _ :: r => by simp [cellsOf, cellsOf_len r]; omega
theorem cellsOf_append : ∀ a b, cellsOf (a ++ b) = cellsOf a ++ cellsOf b
  | [], _ => rfl
  | p :: r, b => by simp [cellsOf, cellsOf_append r b]
theorem cellsOf_get : ∀ (ps : List Piece) (k : Nat) (p : Piece), ps[k]? = some p → (cellsOf ps)[k * 2]? = some (.int .i64 p.no) ∧ (cellsOf ps)[k * 2 + 1]? = some (.slice (some ⟨p.blk, 0, none⟩) 128 128)
  | [], k, p, h => by simp at h
  | q :: r, 0, p, h => by simp at h; subst h; exact ⟨rfl, rfl⟩
  | q :: r, k + 1, p, h => by
    have := cellsOf_get r k p (by simpa using h)
    rw [show (k + 1) * 2 = k * 2 + 2 by omega]
    simpa [cellsOf] using this
/-- Where a piece's bytes lie. -/
structure DataAt (base : Nat) (w : World) (p : Piece) : Prop where
  new : base ≤ p.blk
  lt : p.blk < w.heap.size
  len : p.zs.length = 128
  bytes : BytesAt w (.slice (some ⟨p.blk, 0, none⟩) 128 128) p.zs
  row : ∃ cs t fz, w.heap[p.blk]? = some (.cells cs t fz) ∧ t ≠ 134
theorem DataAt.keep {base : Nat} {w w' : World} {p : Piece} {bs : List Nat} (h : DataAt base w p) (ha : Apart bs w w') (hb : p.blk ∉ bs) : DataAt base w' p := by
  obtain ⟨cs, t, fz, hh, ht⟩ := h.row
  exact ⟨h.new, Nat.lt_of_lt_of_le h.lt ha.size, h.len, bytes_keep h.bytes ha hb, cs, t, fz, (ha.block _ h.lt hb).trans hh, ht⟩
/-- A list of such blocks that the statement has made, in new memory. -/
structure GOwn (base : Nat) (w : World) (v : Value) (ps : List Piece) : Prop where
  row : w.ownsRow base 134 2 v ps.length (cellsOf ps)
  data : ∀ p ∈ ps, DataAt base w p
theorem GOwn.nil (base : Nat) (w : World) : GOwn base w (.slice none 0 0) [] := ⟨World.ownsRow_nil w base _ _, fun p hp => by cases hp⟩
theorem GOwn.keep {base : Nat} {w w' : World} {v : Value} {ps : List Piece} {bs : List Nat} (h : GOwn base w v ps) (ha : Apart bs w w') (hb : ∀ k ∈ bs, k < base) : GOwn base w' v ps := by
  refine ⟨⟨h.row.1, ?_⟩, fun p hp => ?_⟩
  · rcases h.row.2 with h2 | ⟨g', cap', cur, rfl, h1, hh, rest⟩
    · exact .inl h2
    · exact .inr ⟨g', cap', cur, rfl, h1, (ha.block g' (by rcases Nat.lt_or_ge g' w.heap.size with h | h; exact h; rw [Array.getElem?_eq_none h] at hh; cases hh) (fun hm => by have := hb _ hm; omega)).trans hh, rest⟩
  · have h1 := h.data p hp
    exact h1.keep ha (fun hm => by have := hb _ hm; have := h1.new; omega)
theorem GOwn.below {base : Nat} {w w' : World} {v : Value} {ps : List Piece} (h : GOwn base w v ps) (hb : Below w.heap.size w w') : GOwn base w' v ps := h.keep (Apart.of_below (bs := []) hb) (by simp)
theorem GOwn.at {base : Nat} {w : World} {v : Value} {ps : List Piece} (h : GOwn base w v ps) (hl : ps.length ≤ 1000) : GAt w v (plain ps) := by
  have hpl : (plain ps).length = ps.length := by simp [plain]
  rcases h.row.2 with ⟨rfl, h0⟩ | ⟨g', cap', cur, rfl, h1, hh, h2, h3, h4, h5⟩
  · exact ⟨none, 0, by rw [hpl, h0], by omega, fun hne => absurd (List.length_eq_zero_iff.1 (by rw [hpl]; exact h0)) hne⟩
  · refine ⟨_, cap', by rw [hpl], by omega, fun hne => ⟨g', 0, rfl, ?_, fun k hk => ?_⟩⟩
    · rcases Nat.lt_or_ge g' w.heap.size with h | h
      · exact h
      · rw [Array.getElem?_eq_none h] at hh; cases hh
    · rw [hpl] at hk
      obtain ⟨p, hp⟩ : ∃ p, ps[k]? = some p := ⟨_, List.getElem?_eq_getElem hk⟩
      obtain ⟨c0, c1⟩ := cellsOf_get ps k p hp
      have hg : (plain ps).getD k (0, []) = (p.no, p.zs) := by simp [plain, List.getD, hp]
      rw [hg]
      have hc : ∀ j, j < ps.length * 2 → w.cell? ⟨g', j, none⟩ = (cellsOf ps)[j]? := fun j hj => by
        rw [cell_of_row w g' j cur _ (0, 0) hh, ← h5, List.getElem?_take, if_pos hj]
        simp
      refine ⟨by rw [Nat.zero_add, hc _ (by omega)]; exact c0, _, by rw [Nat.zero_add, hc _ (by omega)]; exact c1, (h.data p (List.mem_of_getElem? hp)).bytes⟩
theorem GOwn.off {base d g : Nat} {w : World} {v : Value} {ps : List Piece} (h : GOwn base w v ps) (hl : ps.length ≤ 1000) (hd : d < base) (hg : g < base) : GOff d g w v (plain ps) := fun _ ha => (h.keep ha (by simp; omega)).at hl
theorem GOwn.lit (base : Nat) (w : World) (hb : base ≤ w.heap.size) (p : Piece) (hp : DataAt base w p) :
    GOwn base (w.alloc (.cells #[.int .i64 p.no, .slice (some ⟨p.blk, 0, none⟩) 128 128] 134)) (.slice (some ⟨w.heap.size, 0, none⟩) 1 1) [p] := by
  refine ⟨World.ownsRow_lit (base := base) (e := 134) (size := 2) w #[.int .i64 p.no, .slice (some ⟨p.blk, 0, none⟩) 128 128] 1 hb (by decide) rfl, fun q hq => ?_⟩
  obtain rfl := List.mem_singleton.1 hq
  exact hp.keep (Apart.of_below (bs := []) ((Below.refl _ _).alloc (Nat.le_refl _) _)) (by simp)
/-- One list behind another. -/
theorem GOwn.append {base : Nat} {w : World} {v : Value} {ps qs : List Piece} (h : GOwn base w v ps) (b cap : Nat) (hx : GOwn base w (.slice (some ⟨b, 0, none⟩) qs.length cap) qs) (hn : ps.length + qs.length ≤ 1000) (hbase : base ≤ w.heap.size) (ty : TypeId) :
    ∃ v' w', (Builtin.append_ #[82, 82] ty #[v, .slice (some ⟨b, 0, none⟩) qs.length cap]).run Tryz.prog w = .ok v' w' ∧ GOwn base w' v' (ps ++ qs) ∧ Below base w w' ∧ w.grownBy w' v.ownBlock := by
  obtain ⟨i0, hi, hz0, hz1, hz2⟩ := info_parts3 Tryz.infoGroup
  obtain ⟨v', w', hrun, hown, hgrow, -⟩ := run_append_own (P := Tryz.prog) w base 82 ty 134 i0 (.agg #[.int .i64 0, .slice none 0 0]) 2 32 Tryz.underlying82 hi hz0 hz1 hz2 (by simp [Value.cells]) (by decide)
    v ps.length _ h.row ⟨b, 0, none⟩ qs.length cap (cellsOf qs) (cellsOf_len qs) (fun j u hu => by
      have hj : j < qs.length * 2 := by
        rcases Nat.lt_or_ge j (qs.length * 2) with h | h
        · exact h
        · rw [List.getElem?_eq_none (by rw [cellsOf_len]; exact h)] at hu; cases hu
      rw [Go.WideShapes.add_plain, Nat.zero_add, hx.row.cellAt j hj]
      exact hu) (by
      have : ∀ qs : List Piece, ∀ u ∈ cellsOf qs, u.oneCell' = true := by
        intro qs
        induction qs with
        | nil => intro u hu; cases hu
        | cons q r ih =>
          intro u hu
          rcases List.mem_cons.1 hu with rfl | hu
          · rfl
          · rcases List.mem_cons.1 hu with rfl | hu
            · rfl
            · exact ih u hu
      exact this qs) (by unfold maxLen; omega) (by omega) hbase
  have hB : Below base w w' := (Below.refl base w).grown hgrow hbase (fun k hk => (h.row.lt k hk).1)
  refine ⟨v', w', hrun, ⟨by rw [List.length_append, cellsOf_append]; exact hown, fun p hp => ?_⟩, hB, hgrow⟩
  have key : DataAt base w p := by
    rcases List.mem_append.1 hp with h' | h'
    · exact h.data p h'
    · exact hx.data p h'
  have hne : v.ownBlock ≠ some p.blk := by
    intro e
    rcases h.row.2 with ⟨rfl, _⟩ | ⟨g', cap', cur, rfl, _, hh, _⟩
    · cases e
    · have e' : g' = p.blk := by simpa [Value.ownBlock] using e
      subst e'
      obtain ⟨cs, t, fz, h2, ht⟩ := key.row
      rw [h2] at hh
      have := Obj.cells.inj (Option.some.inj hh)
      exact absurd this.2.1 ht
  refine key.keep (bs := v.ownBlock.toList) ⟨hgrow.os, hgrow.tape, hgrow.output, hgrow.size, fun k hk hn => hgrow.block k hk ?_⟩ ?_
  · intro e; exact hn (by rw [← e]; simp)
  · intro hm; exact hne (by simpa using hm)
/-- A new piece by Fill. -/
theorem fill_data (base : Nat) (w : World) (hb : base ≤ w.heap.size) (no n : Int) : DataAt base (w.alloc (.cells (fillA n 128) 5)) ⟨no, w.heap.size, fillL n⟩ :=
  ⟨hb, by simp, fillL_len n, fillA_bytes n w, _, _, _, heap_alloc_new w _, by decide⟩

/-! What a Commit leaves, by how many of its Writes were done. -/
theorem all_all {N at_ own : Nat} {l : Grp} {mem : Nat → Int} (hg : Good N at_ own l) (ho : 1 + size l ≤ own) :
    Idle at_ (laid (allWs at_ l) mem) ∧ (∀ no, (no < at_ ∨ at_ + own ≤ no) → (∀ p ∈ l, p.1 ≠ no) → blockL (laid (allWs at_ l) mem) no = blockL mem no) ∧ ∀ p ∈ l, blockL (laid (allWs at_ l) mem) p.1 = p.2 := by
  rw [allWs, laid_append]
  have h := note_all (mem := mem) (v := blockL mem) hg ho (fun _ _ => rfl)
  exact settle_all hg (by omega) (fun no h1 _ => h.2 no h1)
theorem all_some {N at_ own : Nat} {l : Grp} {mem : Nat → Int} (hg : Good N at_ own l) (ho : 1 + size l ≤ own) (hi : Idle at_ mem) (k : Nat) (hk : k < (allWs at_ l).length) :
    (Idle at_ (laid ((allWs at_ l).take k) mem) ∧ ∀ no, (no < at_ ∨ at_ + own ≤ no) → blockL (laid ((allWs at_ l).take k) mem) no = blockL mem no) ∨
    (Noted at_ l (laid ((allWs at_ l).take k) mem) ∧ ∀ no, (no < at_ ∨ at_ + own ≤ no) → (∀ p ∈ l, p.1 ≠ no) → blockL (laid ((allWs at_ l).take k) mem) no = blockL mem no) := by
  by_cases h : k < (noteWs at_ l).length
  · left
    rw [allWs, List.take_append_of_le_length (by omega)]
    exact note_some hg ho hi (fun _ _ => rfl) k h
  · right
    have hn := note_all (mem := mem) (v := blockL mem) hg ho (fun _ _ => rfl)
    obtain ⟨j, rfl⟩ : ∃ j, k = (noteWs at_ l).length + j := ⟨k - (noteWs at_ l).length, by omega⟩
    rw [allWs, List.take_length_add_append, laid_append]
    rw [allWs, List.length_append] at hk
    exact settle_some hg ho hn.1 (fun no h1 _ => hn.2 no h1) j (by omega)
end Go.Proofs.YtopegpjkkicjhaaGreatDoor
