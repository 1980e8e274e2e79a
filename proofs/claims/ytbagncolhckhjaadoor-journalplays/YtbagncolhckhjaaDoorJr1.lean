/- Lists of blocks that the statements lay, one block behind the other. -/
import Derived.Test.YtbagncolhckhjaaDoorJq4
namespace Go.Proofs.YtbagncolhckhjaaDoor
open Go.RowKit Go.Extern.Stop Go.Stop Go.Extern
set_option maxRecDepth 100000

def seqG (no : Nat → Nat) (f : Nat → Int) (n : Nat) : Grp := (List.range n).map fun j => (no j, fillL (f j))
theorem seqG_len (no : Nat → Nat) (f : Nat → Int) (n : Nat) : (seqG no f n).length = n := by simp [seqG]
theorem seqG_get (no : Nat → Nat) (f : Nat → Int) (n k : Nat) (hk : k < n) : (seqG no f n).getD k (0, []) = (no k, fillL (f k)) := by simp [seqG, List.getD, hk]
theorem seqG_succ (no : Nat → Nat) (f : Nat → Int) (n : Nat) : seqG no f (n + 1) = seqG no f n ++ [(no n, fillL (f n))] := by simp [seqG, List.range_succ]
theorem seqG_mem (no : Nat → Nat) (f : Nat → Int) (n k : Nat) (hk : k < n) : (no k, fillL (f k)) ∈ seqG no f n := List.mem_map.2 ⟨k, List.mem_range.2 hk, rfl⟩
theorem seqG_of_mem {no : Nat → Nat} {f : Nat → Int} {n : Nat} {p : Nat × List Int} (h : p ∈ seqG no f n) : ∃ k, k < n ∧ p = (no k, fillL (f k)) := by
  obtain ⟨k, hk, rfl⟩ := List.mem_map.1 h
  exact ⟨k, List.mem_range.1 hk, rfl⟩
theorem seqG_good (N at_ own : Nat) (no : Nat → Nat) (f : Nat → Int) (n : Nat) (hn : n ≤ 200) (h1 : ∀ k, k < n → no k < N) (h2 : ∀ k, k < n → no k < at_ ∨ at_ + own ≤ no k) (h3 : ∀ k j, k < n → j < k → no j ≠ no k) : Good N at_ own (seqG no f n) := by
  have e1 : ∀ k, k < n → nob (seqG no f n) k = no k := fun k hk => by show ((seqG no f n).getD k (0, [])).1 = _; rw [seqG_get _ _ _ _ hk]
  have e2 : ∀ k, k < n → dat (seqG no f n) k = fillL (f k) := fun k hk => by show ((seqG no f n).getD k (0, [])).2 = _; rw [seqG_get _ _ _ _ hk]
  have hl := seqG_len no f n
  refine ⟨by rw [hl]; exact hn, fun k hk => ?_, fun k hk => ?_, fun k hk => ?_, fun k hk => ?_, fun k j hk hj => ?_⟩
  · rw [hl] at hk; rw [e1 k hk]; exact h1 k hk
  · rw [hl] at hk; rw [e2 k hk]; exact fillL_len _
  · rw [hl] at hk; rw [e2 k hk]; exact fillL_range _
  · rw [hl] at hk; rw [e1 k hk]; exact h2 k hk
  · rw [hl] at hk; rw [e1 k hk, e1 j (by omega)]; exact h3 k j hk hj
theorem plain_append (a b : List Piece) : plain (a ++ b) = plain a ++ plain b := by simp [plain]
theorem up_append (a b : Grp) : up (a ++ b) = up a ++ up b := by simp [up]
/-- A list as a statement lays it, and what it holds. -/
structure Lies (base : Nat) (w : World) (v : Value) (ps : List Piece) (l : Grp) : Prop where
  own : GOwn base w v ps
  is : plain ps = up l
theorem Lies.len {base : Nat} {w : World} {v : Value} {ps : List Piece} {l : Grp} (h : Lies base w v ps l) : ps.length = l.length := by
  have := congrArg List.length h.is
  simpa [plain, up] using this
theorem GOwn.kept {base : Nat} {w w' : World} {v u : Value} {ps qs : List Piece} (h : GOwn base w v ps) (hu : GOwn base w u qs) (hg : w.grownBy w' v.ownBlock) (hne : ∀ k, v.ownBlock = some k → u.ownBlock ≠ some k) : GOwn base w' u qs := by
  have ha : Apart v.ownBlock.toList w w' := ⟨hg.os, hg.tape, hg.output, hg.size, fun k hk hn => hg.block k hk (fun e => hn (by rw [← e]; simp))⟩
  refine ⟨⟨hu.row.1, ?_⟩, fun p hp => ?_⟩
  · rcases hu.row.2 with h2 | ⟨g', cap', cur, rfl, h1, hh, rest⟩
    · exact .inl h2
    · refine .inr ⟨g', cap', cur, rfl, h1, (ha.block g' (by rcases Nat.lt_or_ge g' w.heap.size with h | h; exact h; rw [Array.getElem?_eq_none h] at hh; cases hh) (fun hm => ?_)).trans hh, rest⟩
      exact hne g' (by simpa using hm) rfl
  · have h1 := hu.data p hp
    refine h1.keep ha (fun hm => ?_)
    rcases h.row.2 with ⟨rfl, _⟩ | ⟨g', cap', cur, rfl, _, hh, _⟩
    · simp [Value.ownBlock] at hm
    · have e' : p.blk = g' := by simpa [Value.ownBlock] using hm
      obtain ⟨cs, t, fz, h2, ht⟩ := h1.row
      rw [e', hh] at h2
      have := Obj.cells.inj (Option.some.inj h2)
      exact absurd this.2.1.symm ht
/-- Two lists whose first pieces lie apart are not one row. -/
theorem rows_apart {base : Nat} {w : World} {v u : Value} {p q : Piece} {ps qs : List Piece} (h : GOwn base w v (p :: ps)) (hu : GOwn base w u (q :: qs)) (hpq : p.blk ≠ q.blk) : ∀ k, v.ownBlock = some k → u.ownBlock ≠ some k := by
  intro k h1 h2
  rcases h.row.2 with ⟨_, h0⟩ | ⟨g1, c1, cur1, rfl, _, _, _⟩
  · simp at h0
  · rcases hu.row.2 with ⟨_, h0⟩ | ⟨g2, c2, cur2, rfl, _, _, _⟩
    · simp at h0
    · have e1 : g1 = k := by simpa [Value.ownBlock] using h1
      have e2 : g2 = k := by simpa [Value.ownBlock] using h2
      subst e1
      subst e2
      have a1 := h.row.cellAt 1 (by rw [List.length_cons]; omega)
      have a2 := hu.row.cellAt 1 (by rw [List.length_cons]; omega)
      rw [a1] at a2
      have a3 : (some (Value.slice (some ⟨p.blk, 0, none⟩) 128 128) : Option Value) = some (Value.slice (some ⟨q.blk, 0, none⟩) 128 128) := a2
      simp only [Option.some.injEq, Value.slice.injEq, Addr.mk.injEq] at a3
      exact hpq a3.1.1
/-- One block more, that Fill has made. -/
theorem push {base : Nat} {w : World} {v : Value} {ps : List Piece} {no : Nat → Nat} {f : Nat → Int} {k : Nat} (h : Lies base w v ps (seqG no f k)) (hk : k ≤ 100) (hbase : base ≤ w.heap.size) (blk : Nat) (hd : DataAt base w ⟨no k, blk, fillL (f k)⟩) (ty : TypeId) :
    ∃ v' w', (Builtin.append_ #[31, 31] ty #[v, .slice (some ⟨w.heap.size, 0, none⟩) 1 1]).run Tryd.prog (w.alloc (.cells #[.int .i64 (no k : Nat), .slice (some ⟨blk, 0, none⟩) 128 128] 35)) = .ok v' w' ∧
      Lies base w' v' (ps ++ [⟨no k, blk, fillL (f k)⟩]) (seqG no f (k + 1)) ∧ Below base w w' ∧ ∀ u qs, GOwn base w u qs → (∀ j, v.ownBlock = some j → u.ownBlock ≠ some j) → GOwn base w' u qs := by
  have hB : Below w.heap.size w (w.alloc (.cells #[.int .i64 (no k : Nat), .slice (some ⟨blk, 0, none⟩) 128 128] 35)) := (Below.refl _ _).alloc (Nat.le_refl _) _
  have hl : GOwn base (w.alloc (.cells #[.int .i64 (no k : Nat), .slice (some ⟨blk, 0, none⟩) 128 128] 35)) (.slice (some ⟨w.heap.size, 0, none⟩) ([⟨no k, blk, fillL (f k)⟩] : List Piece).length 1) [⟨no k, blk, fillL (f k)⟩] := GOwn.lit base w hbase ⟨no k, blk, fillL (f k)⟩ hd
  have hlen := h.len
  rw [seqG_len] at hlen
  obtain ⟨v', w', hrun, hown, hB2, hgrow⟩ := (h.own.below hB).append w.heap.size 1 hl (by rw [List.length_singleton]; omega) (Nat.le_trans hbase hB.size) ty
  refine ⟨v', w', hrun, ⟨hown, ?_⟩, (hB.mono hbase).trans hB2, fun u qs hu hne => ?_⟩
  · rw [plain_append, h.is, seqG_succ, up_append]; rfl
  · exact (h.own.below hB).kept (hu.below hB) hgrow hne
/-- Two lists side by side. -/
structure Two (base : Nat) (w : World) (va vb : Value) (psA psB : List Piece) (lA lB : Grp) : Prop where
  a : Lies base w va psA lA
  b : Lies base w vb psB lB
  heads : ∀ p q, psA[0]? = some p → psB[0]? = some q → p.blk ≠ q.blk
  start : psB = [] → vb = .slice none 0 0
theorem Two.keep {base : Nat} {w w' : World} {va vb : Value} {psA psB : List Piece} {lA lB : Grp} {bs : List Nat} (h : Two base w va vb psA psB lA lB) (ha : Apart bs w w') (hb : ∀ k ∈ bs, k < base) : Two base w' va vb psA psB lA lB :=
  ⟨⟨h.a.own.keep ha hb, h.a.is⟩, ⟨h.b.own.keep ha hb, h.b.is⟩, h.heads, h.start⟩
theorem Two.ab {base : Nat} {w : World} {va vb : Value} {psA psB : List Piece} {lA lB : Grp} (h : Two base w va vb psA psB lA lB) (hl : psA = [] → psB = []) : (∀ j, va.ownBlock = some j → vb.ownBlock ≠ some j) ∧ ∀ j, vb.ownBlock = some j → va.ownBlock ≠ some j := by
  cases psB with
  | nil =>
    obtain rfl := h.start rfl
    exact ⟨fun j _ => by simp [Value.ownBlock], fun j hj => by simp [Value.ownBlock] at hj⟩
  | cons q qs =>
    cases psA with
    | nil => exact absurd (hl rfl) (by simp)
    | cons p ps =>
      have hne := h.heads p q rfl rfl
      exact ⟨rows_apart h.a.own h.b.own hne, rows_apart h.b.own h.a.own (fun e => hne e.symm)⟩
/-- One block more in the first list. -/
theorem Two.pushA {base : Nat} {w : World} {va vb : Value} {psA psB : List Piece} {noA : Nat → Nat} {fA : Nat → Int} {k : Nat} {lB : Grp} (h : Two base w va vb psA psB (seqG noA fA k) lB) (hl : psA = [] → psB = []) (hk : k ≤ 100) (hbase : base ≤ w.heap.size) (w3 : World) (hw3 : w3 = w.alloc (.cells (fillA (fA k) 128) 5)) (ty : TypeId) :
    ∃ v' w' ps', (Builtin.append_ #[31, 31] ty #[va, .slice (some ⟨w3.heap.size, 0, none⟩) 1 1]).run Tryd.prog (w3.alloc (.cells #[.int .i64 (noA k : Nat), .slice (some ⟨w.heap.size, 0, none⟩) 128 128] 35)) = .ok v' w' ∧
      Two base w' v' vb ps' psB (seqG noA fA (k + 1)) lB ∧ ps' ≠ [] ∧ Below base w w' := by
  have hB3 : Below w.heap.size w w3 := by rw [hw3]; exact (Below.refl _ _).alloc (Nat.le_refl _) _
  have hT := h.keep (Apart.of_below (bs := []) hB3) (by simp)
  have hd := fill_data base w hbase (noA k : Nat) (fA k)
  rw [← hw3] at hd
  obtain ⟨v', w', hrun, hL, hB, hkeep⟩ := push hT.a hk (Nat.le_trans hbase hB3.size) w.heap.size hd ty
  refine ⟨v', w', _, hrun, ⟨hL, ⟨hkeep vb psB hT.b.own (hT.ab hl).1, hT.b.is⟩, fun p q hp hq => ?_, h.start⟩, by simp, (hB3.mono hbase).trans hB⟩
  cases psA with
  | nil => rw [hl rfl] at hq; simp at hq
  | cons p' ps => exact h.heads p q (by simpa using hp) hq
/-- One block more in the second list. -/
theorem Two.pushB {base : Nat} {w : World} {va vb : Value} {psA psB : List Piece} {noB : Nat → Nat} {fB : Nat → Int} {k : Nat} {lA : Grp} (h : Two base w va vb psA psB lA (seqG noB fB k)) (hl : psA ≠ []) (hk : k ≤ 100) (hbase : base ≤ w.heap.size) (w3 : World) (hw3 : w3 = w.alloc (.cells (fillA (fB k) 128) 5)) (ty : TypeId) :
    ∃ v' w' ps', (Builtin.append_ #[31, 31] ty #[vb, .slice (some ⟨w3.heap.size, 0, none⟩) 1 1]).run Tryd.prog (w3.alloc (.cells #[.int .i64 (noB k : Nat), .slice (some ⟨w.heap.size, 0, none⟩) 128 128] 35)) = .ok v' w' ∧
      Two base w' va v' psA ps' lA (seqG noB fB (k + 1)) ∧ Below base w w' := by
  have hB3 : Below w.heap.size w w3 := by rw [hw3]; exact (Below.refl _ _).alloc (Nat.le_refl _) _
  have hT := h.keep (Apart.of_below (bs := []) hB3) (by simp)
  have hd := fill_data base w hbase (noB k : Nat) (fB k)
  rw [← hw3] at hd
  obtain ⟨v', w', hrun, hL, hB, hkeep⟩ := push hT.b hk (Nat.le_trans hbase hB3.size) w.heap.size hd ty
  refine ⟨v', w', _, hrun, ⟨⟨hkeep va psA hT.a.own (hT.ab (fun e => absurd e hl)).2, hT.a.is⟩, hL, fun p q hp hq => ?_, fun e => by simp at e⟩, (hB3.mono hbase).trans hB⟩
  cases psB with
  | nil =>
    have hq' : q = ⟨noB k, w.heap.size, fillL (fB k)⟩ := by simpa using hq.symm
    subst hq'
    have := (h.a.own.data p (List.mem_of_getElem? hp)).lt
    show p.blk ≠ w.heap.size
    omega
  | cons q' qs => exact h.heads p q hp (by simpa using hq)
end Go.Proofs.YtbagncolhckhjaaDoor
