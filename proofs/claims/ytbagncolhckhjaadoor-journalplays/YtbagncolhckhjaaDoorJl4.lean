/- JournalPlays: what holds within a round; a Commit of the script, whatever comes of it. -/
import Derived.Test.YtbagncolhckhjaaDoorJl3
namespace Go.Proofs.YtbagncolhckhjaaDoor
open Go.RowKit Go.Extern.Stop Go.Stop Go.Extern
set_option maxRecDepth 100000

/-- What holds within a round: the disk, the Journal, the statement's own numbers, the step as it was copied. -/
structure Rd (w0 : World) (d g nb jb ob : Nat) (ra : Option Addr) (rcap : Nat) (rs : List RawT) (fuse op : Int) (nw mem : Nat → Int) (wr left : Int) (w : World) : Prop where
  sys : Sys w0 d g 40 mem wr left w
  jat : JAt jb d 4 6 w
  now : Now18 nb nw w
  o0 : w.cell? ⟨ob, 0, none⟩ = some (.slice ra rs.length rcap)
  o1 : w.cell? ⟨ob, 1, none⟩ = some (.int .i64 fuse)
  o2 : w.cell? ⟨ob, 2, none⟩ = some (.int .i64 op)
  ap : jb ≠ d ∧ jb ≠ g ∧ nb ≠ d ∧ nb ≠ g ∧ ob ≠ d ∧ ob ≠ g ∧ ob ≠ nb ∧ jb ≠ nb
section
variable {w0 : World} {d g nb jb ob rcap : Nat} {ra : Option Addr} {rs : List RawT} {fuse op : Int} {nw mem : Nat → Int} {wr left : Int} {w w' : World}
theorem Rd.oblt (h : Rd w0 d g nb jb ob ra rcap rs fuse op nw mem wr left w) : ob < w.heap.size := lt_of_cell (a := ⟨ob, 0, none⟩) h.o0
/-- The disk has turned. -/
theorem Rd.disked (h : Rd w0 d g nb jb ob ra rcap rs fuse op nw mem wr left w) {mem' : Nat → Int} {wr' left' : Int} (ha : Apart [d, g] w w') (hS : Sys w0 d g 40 mem' wr' left' w') : Rd w0 d g nb jb ob ra rcap rs fuse op nw mem' wr' left' w' := by
  have hap := h.ap
  have ho : ob ∉ [d, g] := by simp; omega
  exact ⟨hS, h.jat.keep ha (by simp; omega), h.now.keep ha (by simp; omega), (ha.cell (p := ⟨ob, 0, none⟩) h.oblt ho).trans h.o0, (ha.cell (p := ⟨ob, 1, none⟩) h.oblt ho).trans h.o1, (ha.cell (p := ⟨ob, 2, none⟩) h.oblt ho).trans h.o2, hap⟩
theorem Rd.below (h : Rd w0 d g nb jb ob ra rcap rs fuse op nw mem wr left w) (hb : Below w.heap.size w w') : Rd w0 d g nb jb ob ra rcap rs fuse op nw mem wr left w' := h.disked (Apart.of_below hb) (h.sys.more hb)
/-- Another Journal has taken the first one's place. -/
theorem Rd.other (h : Rd w0 d g nb jb ob ra rcap rs fuse op nw mem wr left w) {jb' : Nat} (hj : JAt jb' d 4 6 w) (hn : jb' ≠ d ∧ jb' ≠ g ∧ jb' ≠ nb) : Rd w0 d g nb jb' ob ra rcap rs fuse op nw mem wr left w :=
  ⟨h.sys, hj, h.now, h.o0, h.o1, h.o2, by have := h.ap; omega⟩
/-- The blocks of a Commit, read where they lie. -/
theorem Rd.raw (h : Rd w0 d g nb jb ob ra rcap rs fuse op nw mem wr left w) (hr : rs ≠ [] → ∃ b off, ra = some ⟨b, off, none⟩ ∧ b < w0.heap.size ∧ ∀ k r, rs[k]? = some r → w0.cell? ⟨b, off + k * 2, none⟩ = some (.int .i64 r.no) ∧ w0.cell? ⟨b, off + k * 2 + 1, none⟩ = some (.int .i64 r.n)) (k : Nat) (hk : k < rs.length) :
    ∃ b off, ra = some ⟨b, off, none⟩ ∧ ∀ wx, Below w.heap.size w wx → wx.cell? ⟨b, off + k * 2, none⟩ = some (.int .i64 (rno rs k)) ∧ wx.cell? ⟨b, off + k * 2 + 1, none⟩ = some (.int .i64 (rs.getD k ⟨0, 0⟩).n) := by
  obtain ⟨b, off, ha, hb, hc⟩ := hr (by intro e; rw [e] at hk; simp at hk)
  refine ⟨b, off, ha, fun wx hx => ?_⟩
  obtain ⟨r, hr⟩ : ∃ r, rs[k]? = some r := ⟨_, List.getElem?_eq_getElem hk⟩
  obtain ⟨c0, c1⟩ := hc k r hr
  have hB := h.sys.below.trans (hx.mono h.sys.below.size)
  have e : rs.getD k ⟨0, 0⟩ = r := by simp [List.getD, hr]
  refine ⟨?_, ?_⟩
  · show _ = some (Value.int .i64 (rs.getD k ⟨0, 0⟩).no)
    rw [e]
    exact (hB.cell (p := ⟨b, off + k * 2, none⟩) hb).trans c0
  · rw [e]
    exact (hB.cell (p := ⟨b, off + k * 2 + 1, none⟩) hb).trans c1
end
/-- One block more behind a list. -/
theorem GOwn.push {base : Nat} {w : World} {v : Value} {ps : List Piece} (h : GOwn base w v ps) (hn : ps.length + 1 ≤ 1000) (hbase : base ≤ w.heap.size) (no : Int) (blk : Nat) (zs : List Int) (hd : DataAt base w ⟨no, blk, zs⟩) (ty : TypeId) :
    ∃ v' w', (Builtin.append_ #[31, 31] ty #[v, .slice (some ⟨w.heap.size, 0, none⟩) 1 1]).run Tryd.prog (w.alloc (.cells #[.int .i64 no, .slice (some ⟨blk, 0, none⟩) 128 128] 35)) = .ok v' w' ∧
      GOwn base w' v' (ps ++ [⟨no, blk, zs⟩]) ∧ Below base w w' := by
  have hB : Below w.heap.size w (w.alloc (.cells #[.int .i64 no, .slice (some ⟨blk, 0, none⟩) 128 128] 35)) := (Below.refl _ _).alloc (Nat.le_refl _) _
  have hl : GOwn base (w.alloc (.cells #[.int .i64 no, .slice (some ⟨blk, 0, none⟩) 128 128] 35)) (.slice (some ⟨w.heap.size, 0, none⟩) ([⟨no, blk, zs⟩] : List Piece).length 1) [⟨no, blk, zs⟩] := GOwn.lit base w hbase ⟨no, blk, zs⟩ hd
  obtain ⟨v', w', hrun, hown, hB2, -⟩ := (h.below hB).append w.heap.size 1 hl (by rw [List.length_singleton]; omega) (Nat.le_trans hbase hB.size) ty
  exact ⟨v', w', hrun, hown, (hB.mono hbase).trans hB2⟩
/-- What the statement makes of a Commit's blocks: 0, 1 or 5. -/
def BadOf (rs : List RawT) (K : Nat) (b : Int) : Prop := (b = 0 ∧ (∀ j, j < K → Fine rs j) ∧ K ≤ 6) ∨ (b = 1 ∧ ¬ ∀ j, j < K → Fine rs j) ∨ (b = 5 ∧ (∀ j, j < K → Fine rs j) ∧ 6 < K)
/-- The blocks as they should be behind a Commit. -/
structure After (rs : List RawT) (K : Nat) (mem mem' : Nat → Int) : Prop where
  inn : ∀ j, j < K → blockL mem' (rno rs j).toNat = fillL (rn rs j)
  out : ∀ x, (x < 4 ∨ 4 + needN 6 ≤ x) → (∀ j, j < K → (rno rs j).toNat ≠ x) → blockL mem' x = blockL mem x
theorem mem_rawN {rs : List RawT} {K : Nat} {p : Nat × List Int} (h : p ∈ rawN rs K) : ∃ j, j < K ∧ p = ((rno rs j).toNat, fillL (rn rs j)) := by
  obtain ⟨j, hj, rfl⟩ := List.mem_map.1 h
  exact ⟨j, List.mem_range.1 hj, rfl⟩
theorem rawN_mem (rs : List RawT) (K j : Nat) (hj : j < K) : ((rno rs j).toNat, fillL (rn rs j)) ∈ rawN rs K := List.mem_map.2 ⟨j, List.mem_range.2 hj, rfl⟩
theorem after_of {rs : List RawT} {K : Nat} {mem mem' : Nat → Int} (h1 : ∀ no, (no < 4 ∨ 4 + needN 6 ≤ no) → (∀ p ∈ rawN rs K, p.1 ≠ no) → blockL mem' no = blockL mem no) (h2 : ∀ p ∈ rawN rs K, blockL mem' p.1 = p.2) : After rs K mem mem' :=
  ⟨fun j hj => h2 ((rno rs j).toNat, fillL (rn rs j)) (rawN_mem rs K j hj), fun x hx hne => h1 x hx (fun p hp => by
    obtain ⟨j, hj, e⟩ := mem_rawN hp
    have e1 : p.1 = (rno rs j).toNat := congrArg Prod.fst e
    rw [e1]
    exact hne j hj)⟩
/-- What a Commit of the script leaves. -/
def ComOut (w0 : World) (d g : Nat) (rs : List RawT) (K : Nat) (b : Int) (mem : Nat → Int) (wr : Int) (E : Value) (w w' : World) : Prop :=
  Apart [d, g] w w' ∧ ∃ mem' wr' left', Sys w0 d g 40 mem' wr' left' w' ∧ LeftOk left' ∧ wr ≤ wr' ∧ wr' ≤ wr + 1000 ∧
    ((b ≠ 0 ∧ mem' = mem ∧ ∃ bb, E = flt bb ∧ Chain w' [(sJournal, sNone)] (num b) (flt bb)) ∨
     (b = 0 ∧ E = .nilIface ∧ Idle 4 mem' ∧ After rs K mem mem') ∨
     (b = 0 ∧ left' = 0 ∧ 1 ≤ K ∧ K ≤ 6 ∧ Stands 4 (needN 6) (rawN rs K) (blockL mem) mem' ∧ ∃ bb i, E = flt bb ∧ Chain w' [(sJournal, sNone), (sDisk, itoaB i)] (num 50) (flt bb)))
theorem script_commit {w0 : World} {d g jb : Nat} {mem : Nat → Int} {wr left : Int} {w : World} (h : Sys w0 d g 40 mem wr left w) (hl : LeftOk left) (hw : 0 ≤ wr ∧ wr < 300000000) (hj : JAt jb d 4 6 w) (hjd : jb ≠ d ∧ jb ≠ g) (hi : Idle 4 mem) (rs : List RawT) (K : Nat) (hK : K ≤ 10) (b : Int) (hb : BadOf rs K b) (base : Nat) (v : Value) (ps : List Piece) (hG : GOwn base w v ps) (hp : plain ps = rawG rs K) (hd : d < base) (hg : g < base) :
    Calls Tryd.prog 11 #[ptr jb, v] w fun e w' => ∃ E, e = .returned E ∧ ComOut w0 d g rs K b mem wr E w w' := by
  have hpl : ps.length = K := by have := congrArg List.length hp; rw [rawG_len] at this; simpa [plain] using this
  have hat : 4 + needN 6 ≤ 40 := by decide
  rcases hb with ⟨rfl, hf, h6⟩ | ⟨rfl, hf⟩ | ⟨rfl, hf, h6⟩
  · by_cases h0 : K = 0
    · subst h0
      have hv := hG.at (by omega)
      rw [hp] at hv
      refine (commit_none h jb 4 6 ⟨by omega, by omega⟩ hj hat v hv).mono ?_
      rintro e w' ⟨rfl, hB⟩
      exact ⟨_, rfl, Apart.of_below hB, _, _, _, h.more hB, hl, by omega, by omega, Or.inr (Or.inl ⟨rfl, rfl, hi, fun j hj => by omega, fun x _ _ => rfl⟩)⟩
    · have hgood := rawN_good rs K (by omega) hf
      have hlen := rawN_len rs K
      have hoff := hG.off (d := d) (g := g) (by omega) hd hg
      rw [hp, ← rawN_up rs K hf] at hoff
      refine (commit_good h hl ⟨hw.1, by omega⟩ jb 4 6 ⟨by omega, by omega⟩ hj hjd hat hi (rawN rs K) (by omega) (by omega) hgood v hoff).mono ?_
      rintro e w' ⟨r, rfl, hD⟩
      have hroom : 1 + size (rawN rs K) ≤ needN 6 := need_room (by omega)
      have hal := all_len 4 (rawN rs K) (by omega)
      obtain ⟨hA, ⟨rfl, left', hS, hl', -⟩ | ⟨bb, i, mem', wr', rfl, hc, -, hS, h1, h2, -, hst⟩⟩ := done_stands hgood hroom hi hD
      · have ha := all_all (mem := mem) hgood hroom
        exact ⟨_, rfl, hA, _, _, _, hS, hl', by omega, by omega, Or.inr (Or.inl ⟨rfl, rfl, ha.1, after_of ha.2.1 ha.2.2⟩)⟩
      · exact ⟨_, rfl, hA, _, _, _, hS, by decide, h1, h2, Or.inr (Or.inr ⟨rfl, rfl, by omega, h6, hst, bb, i, rfl, hc⟩)⟩
  · have hv := hG.at (by omega)
    rw [hp] at hv
    refine (commit_bad h jb 4 6 ⟨by omega, by omega⟩ hj hat v _ hv (fun hh => hf ((fine_all rs K).1 hh))).mono ?_
    rintro e w' ⟨bb, rfl, hc, -, hB⟩
    exact ⟨_, rfl, Apart.of_below hB, _, _, _, h.more hB, hl, by omega, by omega, Or.inl ⟨by decide, rfl, bb, rfl, hc⟩⟩
  · have hv := hG.at (by omega)
    rw [hp] at hv
    refine (commit_big h jb 4 6 ⟨by omega, by omega⟩ hj hat v _ hv ((fine_all rs K).2 hf) (by rw [rawG_len]; exact h6)).mono ?_
    rintro e w' ⟨bb, rfl, hc, -, hB⟩
    exact ⟨_, rfl, Apart.of_below hB, _, _, _, h.more hB, hl, by omega, by omega, Or.inl ⟨by decide, rfl, bb, rfl, hc⟩⟩
end Go.Proofs.YtbagncolhckhjaaDoor
