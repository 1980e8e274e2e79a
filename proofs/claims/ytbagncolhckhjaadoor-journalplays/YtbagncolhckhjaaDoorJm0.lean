/- JournalPlays, cut into declarations: what they share. -/
import Derived.Test.YtbagncolhckhjaaDoorJl5
namespace Go.Proofs.YtbagncolhckhjaaDoor
open Go.RowKit Go.Extern.Stop Go.Stop Go.Extern
set_option maxRecDepth 100000

/-- The block of that number within a function's code. -/
def blockAt (n : Nat) : Code → Option Code
  | .block m c => if m = n then some (.block m c) else blockAt n c
  | .loop c => blockAt n c
  | .seq a b => match blockAt n a with
    | some c => some c
    | none => blockAt n b
  | .scope c => blockAt n c
  | .cond _ a b => match blockAt n a with
    | some c => some c
    | none => blockAt n b
  | _ => none
/-- The region of that number. -/
def regionAt (n : Nat) : Code → Option Code
  | .region m o d => if m = n then some (.region m o d) else none
  | .block _ c => regionAt n c
  | .loop c => regionAt n c
  | .seq a b => match regionAt n a with
    | some c => some c
    | none => regionAt n b
  | .scope c => regionAt n c
  | .cond _ a b => match regionAt n a with
    | some c => some c
    | none => regionAt n b
  | _ => none
/-- The branching on that slot. -/
def condAt (n : Nat) : Code → Option Code
  | .block _ c => condAt n c
  | .loop c => condAt n c
  | .seq a b => match condAt n a with
    | some c => some c
    | none => condAt n b
  | .scope c => condAt n c
  | .cond (.tmp m) a b => if m = n then some (.cond (.tmp m) a b) else match condAt n a with
    | some c => some c
    | none => condAt n b
  | .cond _ a b => match condAt n a with
    | some c => some c
    | none => condAt n b
  | _ => none
theorem goodP : Good 40 4 (needN 6) [(25, zeroB)] := good_one _ _ _ _ _ (by decide) zeroB_len zeroB_range (Or.inr (by decide))
theorem told_zero (mem : Nat → Int) (h : Rests 4 (needN 6) [(25, zeroB)] (blockL (fun _ => 0)) mem) : Told18 (fun _ => 0) mem := fun j hj => by
  refine ⟨?_, by show (0 : Int) ≤ 0; omega, by show (0 : Int) ≤ 2048; omega⟩
  have h0 : blockL (fun _ => 0) (22 + j) = isL 0 := idle_zero (22 + j)
  have ho : 22 + j < 4 ∨ 4 + needN 6 ≤ 22 + j := Or.inr (by rw [need6]; omega)
  rcases h with ⟨h1, h2⟩ | ⟨h1, h2, h3⟩
  · rw [h2 _ ho]; exact h0
  · by_cases e : 25 = 22 + j
    · have := h3 (25, zeroB) (by simp)
      rw [← e]
      exact this
    · rw [h2 _ ho (fun p hp => by obtain rfl := List.mem_singleton.1 hp; exact e)]
      exact h0
theorem GOwn.form {base : Nat} {w : World} {v : Value} {ps : List Piece} (h : GOwn base w v ps) : ∃ la lcap, v = .slice la ps.length lcap := by
  rcases h.row.2 with ⟨rfl, h0⟩ | ⟨g', cap', cur, rfl, rest⟩
  · exact ⟨none, 0, by rw [h0]⟩
  · exact ⟨_, _, rfl⟩
/-- The number of a list's block k. -/
theorem GOwn.noAt {base : Nat} {w : World} {v : Value} {ps : List Piece} {rs : List RawT} {K : Nat} (h : GOwn base w v ps) (hp : plain ps = rawG rs K) (k : Nat) (hk : k < K) : ∃ gb lcap, v = .slice (some ⟨gb, 0, none⟩) K lcap ∧ gb < w.heap.size ∧ base ≤ gb ∧ ∀ j, j < K → w.cell? ⟨gb, j * 2, none⟩ = some (.int .i64 (rno rs j)) ∧ ∃ db, w.cell? ⟨gb, j * 2 + 1, none⟩ = some (.slice (some ⟨db, 0, none⟩) 128 128) ∧ base ≤ db ∧ BytesAt w (.slice (some ⟨db, 0, none⟩) 128 128) (fillL (rn rs j)) := by
  have hpl : ps.length = K := by have := congrArg List.length hp; rw [rawG_len] at this; simpa [plain] using this
  rcases h.row.2 with ⟨rfl, h0⟩ | ⟨g', cap', cur, rfl, h1, hh, h2, h3, h4, h5⟩
  · omega
  · refine ⟨g', cap', by rw [hpl], ?_, h1, fun j hj => ?_⟩
    · rcases Nat.lt_or_ge g' w.heap.size with h | h
      · exact h
      · rw [Array.getElem?_eq_none h] at hh; cases hh
    · obtain ⟨p, hpj⟩ : ∃ p, ps[j]? = some p := ⟨_, List.getElem?_eq_getElem (by omega)⟩
      obtain ⟨c0, c1⟩ := cellsOf_get ps j p hpj
      have hg : (plain ps)[j]? = some (p.no, p.zs) := by simp [plain, hpj]
      rw [hp] at hg
      have hg2 : (rawG rs K)[j]? = some (rno rs j, fillL (rn rs j)) := by simp [rawG, hj]
      rw [hg2] at hg
      obtain ⟨e1, e2⟩ := Prod.mk.inj (Option.some.inj hg)
      have hd := h.data p (List.mem_of_getElem? hpj)
      refine ⟨by rw [h.row.cellAt (j * 2) (by omega), c0, e1], p.blk, by rw [h.row.cellAt (j * 2 + 1) (by omega)]; exact c1, hd.new, by rw [e2]; exact hd.bytes⟩
/-- A block's number is within bounds. -/
abbrev InR (x : Int) : Prop := 0 ≤ x ∧ x < 40 ∧ (x < 4 ∨ 13 ≤ x)
theorem fine_iff (rs : List RawT) (k : Nat) : Fine rs k ↔ InR (rno rs k) ∧ ∀ m, m < k → rno rs m ≠ rno rs k :=
  ⟨fun h => ⟨⟨h.lo, h.hi, h.out⟩, h.once⟩, fun h => ⟨h.1.1, h.1.2.1, h.1.2.2, h.2⟩⟩
/-- What was found of the first k blocks. -/
def BadIs (rs : List RawT) (k : Nat) (b : Int) : Prop := (b = 0 ∧ ∀ j, j < k → Fine rs j) ∨ (b = 1 ∧ ¬ ∀ j, j < k → Fine rs j)
theorem BadIs.next {rs : List RawT} {k : Nat} {b b' : Int} (h : BadIs rs k b) (h' : (b' = 0 ∧ b = 0 ∧ InR (rno rs k) ∧ ∀ m, m < k → rno rs m ≠ rno rs k) ∨ (b' = 1 ∧ ¬ (b = 0 ∧ InR (rno rs k) ∧ ∀ m, m < k → rno rs m ≠ rno rs k))) : BadIs rs (k + 1) b' := by
  rcases h' with ⟨e, e0, hr, hm⟩ | ⟨e, hn⟩
  · left
    refine ⟨e, fun j hj => ?_⟩
    rcases h with ⟨-, hf⟩ | ⟨h1, -⟩
    · by_cases hjk : j < k
      · exact hf j hjk
      · have : j = k := by omega
        subst this
        exact (fine_iff rs j).2 ⟨hr, hm⟩
    · omega
  · right
    refine ⟨e, fun hall => hn ?_⟩
    have hk := (fine_iff rs k).1 (hall k (by omega))
    rcases h with ⟨h0, -⟩ | ⟨-, h1⟩
    · exact ⟨h0, hk⟩
    · exact absurd (fun j hj => hall j (by omega)) h1
theorem need6_calls (w : World) : Calls Tryd.prog 18 #[.int .i64 6] w fun e w' => e = .returned (.int .i64 9) ∧ w' = w := need_calls 6 (by omega) (by omega) w
theorem Sys.keepW {w0 : World} {d g n : Nat} {mem : Nat → Int} {writes left : Int} {w w' : World} (h : Sys w0 d g n mem writes left w) {bs : List Nat} (ha : Apart bs w w') (hd : d ∉ bs) (hg : g ∉ bs) (hb : ∀ k, k ∈ bs → w0.heap.size ≤ k) : Sys w0 d g n mem writes left w' :=
  ⟨h.base, h.disk.apart_of ha hd hg, h.below.trans (ha.below hb h.below.size), h.hd, h.hg⟩
/-- One of the statement's own numbers is set. -/
theorem Rd.noted {w0 : World} {d g nb jb ob rcap : Nat} {ra : Option Addr} {rs : List RawT} {fuse op : Int} {nw mem : Nat → Int} {wr left : Int} {w : World} (h : Rd w0 d g nb jb ob ra rcap rs fuse op nw mem wr left w) (hn : w0.heap.size ≤ nb) (i : Nat) (hi : i < 18) (x : Int) :
    Rd w0 d g nb jb ob ra rcap rs fuse op (fun j => if j = i then x else nw j) mem wr left (w.setCell ⟨nb, i, none⟩ (.int .i64 x)) := by
  have ha : Apart [nb] w (w.setCell ⟨nb, i, none⟩ (.int .i64 x)) := (Apart.refl [nb] w).setCell (p := ⟨nb, i, none⟩) (by simp) _
  have hap := h.ap
  have ho : ob ∉ [nb] := by simp; omega
  exact ⟨h.sys.keepW ha (by simp; omega) (by simp; omega) (by simp; omega), h.jat.keep ha (by simp; omega), h.now.set i hi x, (ha.cell (p := ⟨ob, 0, none⟩) h.oblt ho).trans h.o0, (ha.cell (p := ⟨ob, 1, none⟩) h.oblt ho).trans h.o1, (ha.cell (p := ⟨ob, 2, none⟩) h.oblt ho).trans h.o2, hap⟩
theorem Rd.now_congr {w0 : World} {d g nb jb ob rcap : Nat} {ra : Option Addr} {rs : List RawT} {fuse op : Int} {nw nv mem : Nat → Int} {wr left : Int} {w : World} (h : Rd w0 d g nb jb ob ra rcap rs fuse op nw mem wr left w) (he : ∀ k, k < 18 → nw k = nv k) : Rd w0 d g nb jb ob ra rcap rs fuse op nv mem wr left w :=
  ⟨h.sys, h.jat, h.now.congr he, h.o0, h.o1, h.o2, h.ap⟩
/-- The pairs of block and number that a Commit of the script notes. -/
abbrev pairs (rs : List RawT) (L : Nat) : List (Nat × Int) := (List.range L).map fun j => ((rno rs j).toNat, rn rs j)
theorem pairs_get (rs : List RawT) (L j : Nat) (hj : j < L) : (pairs rs L).getD j (0, 0) = ((rno rs j).toNat, rn rs j) := by simp [pairs, List.getD, hj]
theorem now_step {rs : List RawT} {L k M : Nat} (nw : Nat → Int) (hk : k < L) (hM : (rno rs k).toNat = M + 22) (x : Nat) : (if x = M then rn rs k + 1 else nowK (pairs rs L) nw k x) = nowK (pairs rs L) nw (k + 1) x := by
  show _ = if x + 22 = ((pairs rs L).getD k (0, 0)).1 then ((pairs rs L).getD k (0, 0)).2 + 1 else nowK (pairs rs L) nw k x
  rw [pairs_get rs L k hk, hM]
  by_cases e : x = M
  · rw [if_pos e, if_pos (by omega)]
  · rw [if_neg e, if_neg (by omega)]
/-- Where all that was to be noted stands there already, the elder numbers tell it too. -/
theorem told_same {rs : List RawT} {L : Nat} {nw mem : Nat → Int} (h : Told18 (nwK rs L nw) mem) (hn : ∀ j, j < 18 → 0 ≤ nw j ∧ nw j ≤ 2048) (hf : ∀ j, j < L → Fine rs j) (he : ∀ j, j < L → fillL (rn rs j) = isL (nw ((rno rs j).toNat - 22))) : Told18 nw mem := by
  intro x hx
  refine ⟨?_, hn x hx⟩
  rw [(h x hx).1]
  by_cases hh : ∃ j, j < L ∧ (rno rs j).toNat = x + 22
  · obtain ⟨j, hj, e⟩ := hh
    have hq : nwK rs L nw x = rn rs j + 1 := by
      have := nowK_hit (pairs rs L) nw x j L hj (by rw [pairs_get rs L j hj]; exact e) (fun i hi hij => by
        rw [pairs_get rs L i hi]
        have a := hf i hi
        have b := hf j hj
        have a0 := a.lo
        have b0 := b.lo
        show (rno rs i).toNat ≠ x + 22
        rcases Nat.lt_or_ge i j with h' | h'
        · have := b.once i h'
          omega
        · have := a.once j (by omega)
          omega)
      rw [pairs_get rs L j hj] at this
      exact this
    rw [hq, isL_succ _ (rn_range rs j).1, he j hj, e]
    simp
  · have hq : nwK rs L nw x = nw x := nowK_miss (pairs rs L) nw x L (fun j hj => by
      rw [pairs_get rs L j hj]
      exact fun e => hh ⟨j, hj, e⟩)
    rw [hq]
/-- What stands there behind it all, as the statement looks for it. -/
def Seen (rs : List RawT) (L : Nat) (dead : Bool) (nw mem : Nat → Int) : Prop :=
  (dead = false ∧ Told18 (nwK rs L nw) mem) ∨ (dead = true ∧ (Told18 nw mem ∨ Told18 (nwK rs L nw) mem ∧ ∀ j, j < L → blockL mem (rno rs j).toNat = fillL (rn rs j)))
/-- A list's piece k, as it lies. -/
theorem GOwn.pieceAt {base : Nat} {w : World} {la : Option Addr} {L lcap : Nat} {ps : List Piece} {rs : List RawT} (h : GOwn base w (.slice la L lcap) ps) (hp : plain ps = rawG rs L) (hL : 0 < L) :
    ∃ gb, la = some ⟨gb, 0, none⟩ ∧ gb < w.heap.size ∧ base ≤ gb ∧ ∀ k, k < L → w.cell? ⟨gb, k * 2, none⟩ = some (.int .i64 (rno rs k)) ∧ ∃ db, w.cell? ⟨gb, k * 2 + 1, none⟩ = some (.slice (some ⟨db, 0, none⟩) 128 128) ∧ BytesAt w (.slice (some ⟨db, 0, none⟩) 128 128) (fillL (rn rs k)) := by
  obtain ⟨gb, lcap2, hv, hgb, hb, hcells⟩ := h.noAt hp 0 hL
  obtain ⟨rfl, -, -⟩ := Value.slice.inj hv
  exact ⟨gb, rfl, hgb, hb, fun k hk => ⟨(hcells k hk).1, by obtain ⟨db, h1, -, h2⟩ := (hcells k hk).2; exact ⟨db, h1, h2⟩⟩⟩
/-- What a Commit's error tells. -/
def TellsE (b : Int) (dead : Bool) (E : Value) (w : World) : Prop :=
  (dead = false ∧ b ≠ 0 ∧ ∃ bb, E = flt bb ∧ Chain w [(sJournal, sNone)] (num b) (flt bb)) ∨ (dead = false ∧ b = 0 ∧ E = .nilIface) ∨
    (dead = true ∧ b = 0 ∧ ∃ bb i, E = flt bb ∧ Chain w [(sJournal, sNone), (sDisk, itoaB i)] (num 50) (flt bb))
theorem TellsE.below {b : Int} {dead : Bool} {E : Value} {w w' : World} (h : TellsE b dead E w) (hb : Below w.heap.size w w') : TellsE b dead E w' := by
  rcases h with ⟨h1, h2, bb, h3, h4⟩ | h | ⟨h1, h2, bb, i, h3, h4⟩
  · exact Or.inl ⟨h1, h2, bb, h3, h4.below hb⟩
  · exact Or.inr (Or.inl h)
  · exact Or.inr (Or.inr ⟨h1, h2, bb, i, h3, h4.below hb⟩)
theorem bad_few {rs : List RawT} {K : Nat} {b : Int} (h : BadOf rs K b) : b = 0 ∨ b = 1 ∨ b = 5 := by
  rcases h with ⟨h, -⟩ | ⟨h, -⟩ | ⟨h, -⟩
  · exact Or.inl h
  · exact Or.inr (Or.inl h)
  · exact Or.inr (Or.inr h)
theorem tells_num {b : Int} {dead : Bool} {E : Value} {w : World} (h : TellsE b dead E w) (hb : b = 0 ∨ b = 1 ∨ b = 5) (hg : GT w) :
    Calls Tryd.prog 21 #[E] w fun e w' => ∃ q : Int, e = .returned (.int .i64 q) ∧ (q == 50) = dead ∧ Below w.heap.size w w' := by
  rcases h with ⟨rfl, h2, bb, rfl, h4⟩ | ⟨rfl, h2, rfl⟩ | ⟨rfl, h2, bb, i, rfl, h4⟩
  · exact (law_num b w _ _ h4 hg).mono fun _ _ h => ⟨b, h.1, by rcases hb with rfl | rfl | rfl <;> rfl, h.2⟩
  · exact (law_num_nil w).mono fun _ _ h => ⟨0, h.1, rfl, by rw [h.2]; exact Below.refl _ _⟩
  · exact (law_num 50 w _ _ h4 hg).mono fun _ _ h => ⟨50, h.1, rfl, h.2⟩
theorem tells_is {b : Int} {E : Value} {w : World} (h : TellsE b false E w) (hg : GT w) :
    Calls Tryd.prog 19 #[E, .string sJournal, .string sNone, .int .i64 b] w fun e w' => e = .returned (.bool true) ∧ Below w.heap.size w w' := by
  rcases h with ⟨-, h2, bb, rfl, h4⟩ | ⟨-, rfl, rfl⟩ | ⟨h1, -⟩
  · exact law_is b (by simpa using h2) w _ _ _ _ h4 hg
  · exact (law_is_nil sJournal sNone w).mono fun _ _ h => ⟨h.1, by rw [h.2]; exact Below.refl _ _⟩
  · cases h1
theorem tells_dead {b : Int} {E : Value} {w : World} (h : TellsE b true E w) (hg : GT w) :
    b = 0 ∧ Calls Tryd.prog 19 #[E, .string sJournal, .string sNone, .int .i64 50] w fun e w' => e = .returned (.bool true) ∧ Below w.heap.size w w' := by
  rcases h with ⟨h1, -⟩ | ⟨h1, -⟩ | ⟨-, h2, bb, i, rfl, h4⟩
  · cases h1
  · cases h1
  · exact ⟨h2, law_is 50 (by decide) w _ _ _ _ h4 hg⟩
/-- What a Commit of the script has made of the disk. -/
def OutOf (rs : List RawT) (K : Nat) (b : Int) (dead : Bool) (mem mem' : Nat → Int) : Prop :=
  (b ≠ 0 ∧ dead = false ∧ mem' = mem) ∨ (b = 0 ∧ dead = false ∧ Idle 4 mem' ∧ After rs K mem mem') ∨ (b = 0 ∧ dead = true ∧ 1 ≤ K ∧ K ≤ 6 ∧ Stands 4 (needN 6) (rawN rs K) (blockL mem) mem')
theorem com_split {w0 : World} {d g : Nat} {rs : List RawT} {K : Nat} {b : Int} {mem : Nat → Int} {wr : Int} {E : Value} {w w' : World} (h : ComOut w0 d g rs K b mem wr E w w') :
    Apart [d, g] w w' ∧ ∃ dead mem' wr' left', Sys w0 d g 40 mem' wr' left' w' ∧ wr ≤ wr' ∧ wr' ≤ wr + 1000 ∧ TellsE b dead E w' ∧ OutOf rs K b dead mem mem' := by
  obtain ⟨hA, mem', wr', left', hS, -, h1, h2, h3⟩ := h
  refine ⟨hA, ?_⟩
  rcases h3 with ⟨hb, hm, bb, hE, hc⟩ | ⟨hb, hE, hi, ha⟩ | ⟨hb, -, hK1, hK6, hst, bb, i, hE, hc⟩
  · exact ⟨false, mem', wr', left', hS, h1, h2, Or.inl ⟨rfl, hb, bb, hE, hc⟩, Or.inl ⟨hb, rfl, hm⟩⟩
  · exact ⟨false, mem', wr', left', hS, h1, h2, Or.inr (Or.inl ⟨rfl, hb, hE⟩), Or.inr (Or.inl ⟨hb, rfl, hi, ha⟩)⟩
  · exact ⟨true, mem', wr', left', hS, h1, h2, Or.inr (Or.inr ⟨rfl, hb, bb, i, hE, hc⟩), Or.inr (Or.inr ⟨hb, rfl, hK1, hK6, hst⟩)⟩
theorem fin_seen {rs : List RawT} {K L : Nat} {b : Int} {dead : Bool} {nw mem mem' : Nat → Int} (h : Fin rs K b dead nw mem mem') (h0 : b = 0 → L = K) (h1 : b ≠ 0 → L = 0) : Seen rs L dead nw mem' := by
  obtain ⟨-, ⟨hb, hd, ht⟩ | ⟨hb, hd, ht⟩ | ⟨hb, hd, -, -, ht⟩⟩ := h
  · rw [h1 hb]; exact Or.inl ⟨hd, ht⟩
  · rw [h0 hb]; exact Or.inl ⟨hd, ht⟩
  · rw [h0 hb]
    refine Or.inr ⟨hd, ?_⟩
    rcases ht with ⟨h, -⟩ | h
    · exact Or.inl h
    · exact Or.inr h
end Go.Proofs.YtbagncolhckhjaaDoor
