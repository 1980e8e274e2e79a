/- What holds between two calls of AllocPlays. -/
import Derived.Test.YtildpgingcmfcaaGreatDoorKq
import Derived.Laws.IdiomCopy
namespace Go.Proofs.YtildpgingcmfcaaGreatDoor
open Go.RowKit Go.Extern.Stop Go.Stop Go.Extern Go.Maps Go.Sort Go.Shelf
set_option maxRecDepth 100000

section
variable {sb N : Nat} {S : Nat → Bool} {w w' : World}
theorem SeenAt.lt (h : SeenAt sb N S w) (h0 : 0 < N) : sb < w.heap.size := lt_of_cell (a := ⟨sb, 0, none⟩) (h.cell 0 h0)
theorem SeenAt.keep (h : SeenAt sb N S w) (h0 : 0 < N) {bs : List Nat} (ha : Apart bs w w') (hn : sb ∉ bs) : SeenAt sb N S w' :=
  ⟨fun i hi => (ha.cell (p := ⟨sb, i, none⟩) (h.lt h0) hn).trans (h.cell i hi), fun i hi => (ha.frozen (p := ⟨sb, i, none⟩) (h.lt h0) hn).trans (h.free i hi)⟩
theorem SeenAt.put (h : SeenAt sb N S w) (X : Nat) (hX : X < N) (b : Bool) : SeenAt sb N (setS S X b) (w.setCell ⟨sb, X, none⟩ (.bool b)) :=
  ⟨fun j hj => by
    unfold setS
    by_cases e : j = X
    · subst e
      simp only [if_true]
      exact World.cell?_setCell_same' _ _ _ (by rw [h.cell j hj]; rfl)
    · simp only [if_neg e]
      exact (World.cell?_setCell_other _ _ _ _ (by intro x; exact e (congrArg Addr.off x).symm)).trans (h.cell j hj), fun j hj => by simp [h.free j hj]⟩
/-- The bools of a row, as cells. -/
def boolsL (N : Nat) (S : Nat → Bool) : List Value := (List.range N).map fun j => .bool (S j)
theorem boolsL_len (N : Nat) (S : Nat → Bool) : (boolsL N S).length = N := by simp [boolsL]
theorem boolsL_get {N : Nat} (S : Nat → Bool) {j : Nat} (hj : j < N) : (boolsL N S)[j]? = some (.bool (S j)) := by simp [boolsL, hj]
theorem Tryz.sizeBool : (Tryz.prog.info? 4).map (·.size) = some 1 := by kernel_rfl
/-- One row copied over another. -/
theorem copy_bools {db : Nat} {T : Nat → Bool} (hd : SeenAt db N T w) (hs : SeenAt sb N S w) (ty : TypeId) :
    ∃ r w', (Builtin.copy_ #[33, 33] ty #[.slice (some ⟨db, 0, none⟩) N N, .slice (some ⟨sb, 0, none⟩) N N]).run Tryz.prog w = .ok r w' ∧ SeenAt db N S w' ∧ Apart [db] w w' := by
  refine ⟨_, _, run_copy_cells (P := Tryz.prog) w 33 33 ty 4 db 0 N N ⟨sb, 0, none⟩ N N (boolsL N S) Tryz.underlying33 Tryz.sizeBool (by simp [boolsL_len]) (fun j u hu => ?_) (fun j hj => ?_) (fun j hj => ?_) ?_, ?_, apart_setCells db (by simp) _ _ w (Apart.refl _ w)⟩
  · have hj : j < N := by
      rcases Nat.lt_or_ge j N with h | h
      · exact h
      · rw [List.getElem?_eq_none (by rw [boolsL_len]; exact h)] at hu; cases hu
    rw [Go.WideShapes.add_plain, Nat.zero_add, hs.cell j hj, ← boolsL_get S hj]
    exact hu
  · rw [boolsL_len] at hj
    rw [Nat.zero_add, hd.cell j hj]; rfl
  · rw [boolsL_len] at hj
    rw [Nat.zero_add]; exact hd.free j hj
  · intro u hu
    obtain ⟨z, _, rfl⟩ := List.mem_map.1 hu
    rfl
  · refine ⟨fun j hj => ?_, fun j hj => by rw [World.frozen?_setCells]; exact hd.free j hj⟩
    have := World.cell?_setCells_in db (boolsL N S) 0 w (fun i hi => by rw [boolsL_len] at hi; rw [Nat.zero_add, hd.cell i hi]; rfl) j (by rw [boolsL_len]; exact hj)
    rw [Nat.zero_add] at this
    rw [this]
    exact (List.getElem?_eq_getElem _).symm.trans (boolsL_get S hj)
end
/-- S, T: what the Map and the statement's first row say now; L, K: what was last Flushed, and the second row. -/
structure PSt (w0 : World) (d g jb cb mb ab nb lb N : Nat) (S T L K : Nat → Bool) (lim : Int) (w : World) : Prop where
  ex : ∃ mem wr M, CSt w0 d g 160 jb cb mb 60 80 60 mem wr (-1) M w ∧ Keys M ∧ Idle 60 mem ∧ 0 ≤ wr ∧ wr ≤ lim ∧ (∀ i, i < N → bitM mem M 2 i = S i) ∧ ∀ i, i < N → bitM mem [] 2 i = L i
  mp : MpAt ab cb 2 15 N w
  now : SeenAt nb N T w
  last : SeenAt lb N K w
  n1 : 1 ≤ N
  n2 : N ≤ 40
  far : ab ∉ [d, g, jb, cb, mb, nb, lb] ∧ nb ∉ [d, g, jb, cb, mb, lb] ∧ lb ∉ [d, g, jb, cb, mb]
  new : w0.heap.size ≤ nb ∧ w0.heap.size ≤ lb
theorem fits15 {N : Nat} (h1 : 1 ≤ N) (h2 : N ≤ 40) : Fits 160 60 2 15 N := ⟨by omega, h1, by omega, by unfold homeA; omega, by unfold homeA; omega, by omega⟩
section
variable {w0 : World} {d g jb cb mb ab nb lb N : Nat} {S T L K : Nat → Bool} {lim : Int} {w w' : World}
theorem PSt.fit (h : PSt w0 d g jb cb mb ab nb lb N S T L K lim w) : Fits 160 60 2 15 N := fits15 h.n1 h.n2
theorem PSt.more (h : PSt w0 d g jb cb mb ab nb lb N S T L K lim w) (hb : Below w.heap.size w w') : PSt w0 d g jb cb mb ab nb lb N S T L K lim w' := by
  obtain ⟨mem, wr, M, h1, h2⟩ := h.ex
  have h0 := h.n1
  exact ⟨⟨mem, wr, M, h1.more hb, h2⟩, h.mp.below hb, h.now.keep (by omega) (Apart.of_below (bs := []) hb) (by simp), h.last.keep (by omega) (Apart.of_below (bs := []) hb) (by simp), h.n1, h.n2, h.far, h.new⟩
theorem PSt.below (h : PSt w0 d g jb cb mb ab nb lb N S T L K lim w) : Below w0.heap.size w0 w := by obtain ⟨mem, wr, M, h1, -⟩ := h.ex; exact h1.sys.below
theorem PSt.ground (h : PSt w0 d g jb cb mb ab nb lb N S T L K lim w) : Ground w := by obtain ⟨mem, wr, M, h1, -⟩ := h.ex; exact h1.sys.ground
theorem PSt.lift (h : PSt w0 d g jb cb mb ab nb lb N S T L K lim w) {lim' : Int} (hl : lim ≤ lim') : PSt w0 d g jb cb mb ab nb lb N S T L K lim' w := by
  obtain ⟨mem, wr, M, h1, h2, h3, h4, h5, h6⟩ := h.ex
  exact ⟨⟨mem, wr, M, h1, h2, h3, h4, by omega, h6⟩, h.mp, h.now, h.last, h.n1, h.n2, h.far, h.new⟩
/-- The Map's bits have turned. -/
theorem PSt.turned {mem : Nat → Int} {wr : Int} {M : Chg} (h : PSt w0 d g jb cb mb ab nb lb N S T L K lim w) (hc0 : CSt w0 d g 160 jb cb mb 60 80 60 mem wr (-1) M w) (hk : Keys M) (hid : Idle 60 mem) (hw : 0 ≤ wr ∧ wr ≤ lim) (hb : ∀ j, j < N → bitM mem M 2 j = S j) (hL : ∀ j, j < N → bitM mem [] 2 j = L j) (i : Nat) (hi : i < N)
    (hc : CSt w0 d g 160 jb cb mb 60 80 60 mem wr (-1) (turnM mem M 2 i) w') (ha : Apart [mb] w w') : PSt w0 d g jb cb mb ab nb lb N (setS S i (!S i)) T L K lim w' := by
  have hn2 := h.n2
  have hn1 := h.n1
  obtain ⟨f1, f2, f3⟩ := h.far
  simp only [List.mem_cons, List.not_mem_nil, or_false, not_or] at f1 f2 f3
  refine ⟨⟨mem, wr, _, hc, hk.turn _ (by unfold homeA; omega), hid, hw.1, hw.2, fun j hj => ?_, hL⟩, h.mp.keep ha (by simp; omega), h.now.keep (by omega) ha (by simp; omega), h.last.keep (by omega) ha (by simp; omega), h.n1, h.n2, h.far, h.new⟩
  rw [bit_turn hc0.map.tidy hc0.rows, hb j hj]
  unfold setS
  by_cases e : j = i
  · subst e; simp
  · simp [e]
theorem PSt.take (h : PSt w0 d g jb cb mb ab nb lb N S T L K lim w) (i : Nat) (hi : i < N) (hfree : S i = false) (hlow : ∀ j, j < i → S j = true) :
    Calls Tryz.prog 7 #[ptr ab] w fun e w' => e = .returned (.tuple #[.int .i64 (15 + i : Nat), .nilIface]) ∧ PSt w0 d g jb cb mb ab nb lb N (setS S i true) T L K lim w' ∧ Apart [d, g, mb] w w' := by
  obtain ⟨mem, wr, M, h1, h2, h3, h4, h5, h6, h7⟩ := h.ex
  have hne : ab ≠ mb := by have := h.far.1; simp only [List.mem_cons, List.not_mem_nil, or_false, not_or] at this; omega
  refine (take_calls h1 (by decide) h.mp h.fit hne i hi ((h6 i hi).trans hfree) (fun j hj => (h6 j (by omega)).trans (hlow j hj)) (h2.may h1.map.tidy 2 i)).mono ?_
  rintro e w' ⟨rfl, hc, ha⟩
  have := h.turned h1 h2 h3 ⟨h4, h5⟩ h6 h7 i hi hc ha
  rw [hfree] at this
  exact ⟨rfl, this, ha.mono (by simp)⟩
theorem PSt.full (h : PSt w0 d g jb cb mb ab nb lb N S T L K lim w) (hall : ∀ j, j < N → S j = true) :
    Calls Tryz.prog 7 #[ptr ab] w fun e w' => ∃ b, e = .returned (.tuple #[.int .i64 0, flt b]) ∧ Chain w' [(sAlloc, sNone)] (num 15) (flt b) ∧ PSt w0 d g jb cb mb ab nb lb N S T L K lim w' ∧ Below w.heap.size w w' := by
  obtain ⟨mem, wr, M, h1, h2, h3, h4, h5, h6, h7⟩ := h.ex
  refine (take_full h1 (by decide) h.mp h.fit (fun j hj => (h6 j hj).trans (hall j hj))).mono ?_
  rintro e w' ⟨b, rfl, hc, hB⟩
  exact ⟨b, rfl, hc, h.more hB, hB⟩
theorem PSt.give (h : PSt w0 d g jb cb mb ab nb lb N S T L K lim w) (i : Nat) (hi : i < N) (no : Int) (hno : no = 15 + (i : Int)) (ht : S i = true) :
    Calls Tryz.prog 9 #[ptr ab, .int .i64 no] w fun e w' => e = .returned .nilIface ∧ PSt w0 d g jb cb mb ab nb lb N (setS S i false) T L K lim w' ∧ Apart [d, g, mb] w w' := by
  obtain ⟨mem, wr, M, h1, h2, h3, h4, h5, h6, h7⟩ := h.ex
  refine (give_calls h1 (by decide) h.mp h.fit i hi no (by omega) ((h6 i hi).trans ht) (h2.may h1.map.tidy 2 i)).mono ?_
  rintro e w' ⟨rfl, hc, ha⟩
  have := h.turned h1 h2 h3 ⟨h4, h5⟩ h6 h7 i hi hc ha
  rw [ht] at this
  exact ⟨rfl, this, ha.mono (by simp)⟩
/-- A Give that is refused: of what is free (7), of what is none of the Map's (1). -/
theorem PSt.give_no (h : PSt w0 d g jb cb mb ab nb lb N S T L K lim w) (no : Int) (hi : i64 no) (want : Int) (hw : (∃ i : Nat, i < N ∧ no = 15 + (i : Int) ∧ S i = false ∧ want = 7) ∨ (¬ (15 ≤ no ∧ no < 15 + (N : Int)) ∧ want = 1)) :
    Calls Tryz.prog 9 #[ptr ab, .int .i64 no] w fun e w' => ∃ b, e = .returned (flt b) ∧ Chain w' [(sAlloc, itoaB no)] (num want) (flt b) ∧ PSt w0 d g jb cb mb ab nb lb N S T L K lim w' ∧ Below w.heap.size w w' := by
  obtain ⟨mem, wr, M, h1, h2, h3, h4, h5, h6, h7⟩ := h.ex
  rcases hw with ⟨i, hiN, hno, hS, rfl⟩ | ⟨hno, rfl⟩
  · refine (give_free h1 (by decide) h.mp h.fit i hiN no (by omega) ((h6 i hiN).trans hS)).mono ?_
    rintro e w' ⟨b, rfl, hc, hB⟩
    exact ⟨b, rfl, hc, h.more hB, hB⟩
  · refine (give_bad h1.sys.ground h.mp h.fit no hi (by omega)).mono ?_
    rintro e w' ⟨b, rfl, hc, hB⟩
    exact ⟨b, rfl, hc, h.more hB, hB⟩
theorem PSt.asked (h : PSt w0 d g jb cb mb ab nb lb N S T L K lim w) (i : Nat) (hi : i < N) (no : Int) (hno : no = 15 + (i : Int)) :
    Calls Tryz.prog 11 #[ptr ab, .int .i64 no] w fun e w' => e = .returned (.tuple #[.bool (S i), .nilIface]) ∧ PSt w0 d g jb cb mb ab nb lb N S T L K lim w' ∧ Below w.heap.size w w' := by
  obtain ⟨mem, wr, M, h1, h2, h3, h4, h5, h6, h7⟩ := h.ex
  refine (taken_calls h1 (by decide) h.mp h.fit i hi no (by omega)).mono ?_
  rintro e w' ⟨rfl, hB⟩
  rw [h6 i hi]
  exact ⟨rfl, h.more hB, hB⟩
theorem PSt.asked_no (h : PSt w0 d g jb cb mb ab nb lb N S T L K lim w) (no : Int) (hi : i64 no) (hno : ¬ (15 ≤ no ∧ no < 15 + (N : Int))) :
    Calls Tryz.prog 11 #[ptr ab, .int .i64 no] w fun e w' => ∃ b, e = .returned (.tuple #[.bool false, flt b]) ∧ Chain w' [(sAlloc, itoaB no)] (num 1) (flt b) ∧ PSt w0 d g jb cb mb ab nb lb N S T L K lim w' ∧ Below w.heap.size w w' := by
  obtain ⟨mem, wr, M, h1, h2, h3, h4, h5, h6, h7⟩ := h.ex
  refine (taken_bad h1.sys.ground h.mp h.fit no hi (by omega)).mono ?_
  rintro e w' ⟨b, rfl, hc, hB⟩
  exact ⟨b, rfl, hc, h.more hB, hB⟩
theorem PSt.count (h : PSt w0 d g jb cb mb ab nb lb N S T L K lim w) :
    Calls Tryz.prog 14 #[ptr ab] w fun e w' => e = .returned (.tuple #[.int .i64 (freeN S N : Nat), .nilIface]) ∧ PSt w0 d g jb cb mb ab nb lb N S T L K lim w' ∧ Below w.heap.size w w' := by
  obtain ⟨mem, wr, M, h1, h2, h3, h4, h5, h6, h7⟩ := h.ex
  refine (free_calls h1 (by decide) h.mp h.fit).mono ?_
  rintro e w' ⟨rfl, hB⟩
  rw [freeN_congr N h6]
  exact ⟨rfl, h.more hB, hB⟩
theorem PSt.list (h : PSt w0 d g jb cb mb ab nb lb N S T L K lim w) :
    Calls Tryz.prog 15 #[ptr ab] w fun e w' => ∃ v, e = .returned (.tuple #[v, .nilIface]) ∧ Kept w.heap.size w' v (takenL S 15 N) ∧ PSt w0 d g jb cb mb ab nb lb N S T L K lim w' ∧ Below w.heap.size w w' := by
  obtain ⟨mem, wr, M, h1, h2, h3, h4, h5, h6, h7⟩ := h.ex
  have hn := h.n2
  refine (all_calls h1 (by decide) h.mp h.fit (by omega) (by omega)).mono ?_
  rintro e w' ⟨v, rfl, hK, hB⟩
  rw [takenL_congr 15 N h6] at hK
  exact ⟨v, rfl, hK, h.more hB, hB⟩
theorem PSt.dropped (h : PSt w0 d g jb cb mb ab nb lb N S T L K lim w) :
    Calls Tryz.prog 13 #[ptr cb] w fun e w' => e = .returned (.tuple #[]) ∧ PSt w0 d g jb cb mb ab nb lb N L T L K lim w' := by
  obtain ⟨mem, wr, M, h1, h2, h3, h4, h5, h6, h7⟩ := h.ex
  have hn1 := h.n1
  obtain ⟨f1, f2, f3⟩ := h.far
  simp only [List.mem_cons, List.not_mem_nil, or_false, not_or] at f1 f2 f3
  refine (drop_calls h1).mono ?_
  rintro e w' ⟨rfl, hc, ha⟩
  exact ⟨rfl, ⟨mem, wr, [], hc, fun p hp => (by cases hp), h3, h4, h5, h7, h7⟩, h.mp.keep ha (by simp; omega), h.now.keep (by omega) ha (by simp; omega), h.last.keep (by omega) ha (by simp; omega), h.n1, h.n2, h.far, h.new⟩
theorem need_room7 {l : Grp} {most : Nat} (h : l.length ≤ most) : 1 + size l ≤ needN most := by
  have e : size l = rowsN l.length + l.length := rfl
  have e2 := rowsN_mono h
  unfold needN
  omega
theorem all_len7 (at_ : Nat) (l : Grp) (h : l.length ≤ 200) : (allWs at_ l).length ≤ 700 := by
  have e : (allWs at_ l).length = (size l + 1) + (l.length + 1) := by rw [allWs, List.length_append, note_len, settleWs, List.length_append]; rfl
  have e2 : size l = rowsN l.length + l.length := rfl
  have e3 := rowsN_le l.length
  omega
set_option maxHeartbeats 1000000 in
theorem PSt.flushed (h : PSt w0 d g jb cb mb ab nb lb N S T L K lim w) (hlim : lim ≤ 300000000) :
    Calls Tryz.prog 12 #[ptr cb] w fun e w' => e = .returned .nilIface ∧ PSt w0 d g jb cb mb ab nb lb N S T S K (lim + 1000) w' := by
  obtain ⟨mem, wr, M, h1, h2, h3, h4, h5, h6, h7⟩ := h.ex
  have hn1 := h.n1
  have hn2 := h.n2
  obtain ⟨f1, f2, f3⟩ := h.far
  simp only [List.mem_cons, List.not_mem_nil, or_false, not_or] at f1 f2 f3
  have hfew := h1.map.tidy.few 0 10 (by omega) h2
  by_cases hM : M = []
  · subst hM
    refine (flush_none h1 ⟨by omega, by omega⟩ need80).mono ?_
    rintro e w' ⟨rfl, hst, hA⟩
    exact ⟨rfl, ⟨mem, wr, [], hst, h2, h3, h4, by omega, h6, h6⟩, h.mp.keep hA (by simp; omega), h.now.keep (by omega) hA (by simp; omega), h.last.keep (by omega) hA (by simp; omega), h.n1, h.n2, h.far, h.new⟩
  · have hpos : 1 ≤ M.length := by
      rcases Nat.eq_zero_or_pos M.length with e | e
      · exact absurd (List.length_eq_zero_iff.1 e) hM
      · exact e
    have hk : ∀ p ∈ M, 0 ≤ p.1 ∧ p.1 < (160 : Nat) ∧ (p.1 < (60 : Nat) ∨ ((60 : Nat) : Int) + needN 80 ≤ p.1) := fun p hp => by have := h2 p hp; omega
    have hg := grpM_good (n := 160) (at_ := 60) (own := needN 80) h1.map.tidy (by omega) hk
    have hr : 1 + size (grpM M) ≤ needN 80 := need_room7 (by rw [grpM_len]; omega)
    have ha := all_all (mem := mem) hg hr
    have hln := all_len7 60 (grpM M) (by rw [grpM_len]; omega)
    refine (flush_calls h1 (by decide) ⟨h4, by omega⟩ ⟨by omega, by omega⟩ need80 h3 hpos (by omega) hk).mono ?_
    rintro e w' (⟨rfl, hA, left', hst, -, hl⟩ | ⟨_, _, _, _, _, _, _, _, hne⟩)
    · rw [hl rfl] at hst
      have hnow : ∀ j, j < 60 → nowM (laid (allWs 60 (grpM M)) mem) [] j = nowM mem M j := fun j hj => by
        have e0 : nowM (laid (allWs 60 (grpM M)) mem) [] j = blockL (laid (allWs 60 (grpM M)) mem) j := rfl
        rw [e0]
        by_cases hh : hasM (j : Int) M = true
        · have hmem := getM_mem (z := blockL mem j) hh
          have := ha.2.2 (j, getM (j : Int) M (blockL mem j)) (List.mem_map.2 ⟨_, hmem, by simp⟩)
          exact this
        · have hf : hasM (j : Int) M = false := by simpa using hh
          rw [ha.2.1 j (Or.inl (by omega)) (fun p hp e => by
            obtain ⟨q, hq, rfl⟩ := List.mem_map.1 hp
            have hq1 := (h2 q hq).1
            have : hasM (j : Int) M = true := hasM_iff.2 ⟨q, hq, by simp at e; omega⟩
            rw [this] at hf; cases hf)]
          exact (getM_none hf).symm
      have hbit : ∀ i, i < N → bitM (laid (allWs 60 (grpM M)) mem) [] 2 i = S i := fun i hi => by
        rw [← h6 i hi]
        unfold bitM byteA
        rw [hnow _ (by unfold homeA; omega)]
      exact ⟨rfl, ⟨_, _, [], hst, fun p hp => (by cases hp), ha.1, by omega, by omega, hbit, hbit⟩, h.mp.keep hA (by simp; omega), h.now.keep (by omega) hA (by simp; omega), h.last.keep (by omega) hA (by simp; omega), h.n1, h.n2, h.far, h.new⟩
    · exact absurd rfl hne
/-- The statement's first row has turned. -/
theorem PSt.put (h : PSt w0 d g jb cb mb ab nb lb N S T L K lim w) (X : Nat) (hX : X < N) (b : Bool) : PSt w0 d g jb cb mb ab nb lb N S (setS T X b) L K lim (w.setCell ⟨nb, X, none⟩ (.bool b)) := by
  obtain ⟨mem, wr, M, h1, h2⟩ := h.ex
  have hn1 := h.n1
  have hn := h.new
  obtain ⟨f1, f2, f3⟩ := h.far
  simp only [List.mem_cons, List.not_mem_nil, or_false, not_or] at f1 f2 f3
  have hA : Apart [nb] w (w.setCell ⟨nb, X, none⟩ (.bool b)) := (Apart.refl [nb] w).setCell (p := ⟨nb, X, none⟩) (by simp) (.bool b)
  exact ⟨⟨mem, wr, M, h1.turnB hA (by omega), h2⟩, h.mp.keep hA (by simp; omega), h.now.put X hX b, h.last.keep (by omega) hA (by simp; omega), h.n1, h.n2, h.far, h.new⟩
/-- A row copied over the other. -/
theorem PSt.copied_last (h : PSt w0 d g jb cb mb ab nb lb N S T L K lim w) (ty : TypeId) :
    ∃ r w', (Builtin.copy_ #[33, 33] ty #[.slice (some ⟨lb, 0, none⟩) N N, .slice (some ⟨nb, 0, none⟩) N N]).run Tryz.prog w = .ok r w' ∧ PSt w0 d g jb cb mb ab nb lb N S T L T lim w' := by
  obtain ⟨mem, wr, M, h1, h2⟩ := h.ex
  have hn1 := h.n1
  have hn := h.new
  obtain ⟨f1, f2, f3⟩ := h.far
  simp only [List.mem_cons, List.not_mem_nil, or_false, not_or] at f1 f2 f3
  obtain ⟨r, w', hr, hs, hA⟩ := copy_bools h.last h.now ty
  exact ⟨r, w', hr, ⟨mem, wr, M, h1.turnB hA (by omega), h2⟩, h.mp.keep hA (by simp; omega), h.now.keep (by omega) hA (by simp; omega), hs, h.n1, h.n2, h.far, h.new⟩
theorem PSt.copied_now (h : PSt w0 d g jb cb mb ab nb lb N S T L K lim w) (ty : TypeId) :
    ∃ r w', (Builtin.copy_ #[33, 33] ty #[.slice (some ⟨nb, 0, none⟩) N N, .slice (some ⟨lb, 0, none⟩) N N]).run Tryz.prog w = .ok r w' ∧ PSt w0 d g jb cb mb ab nb lb N S K L K lim w' := by
  obtain ⟨mem, wr, M, h1, h2⟩ := h.ex
  have hn1 := h.n1
  have hn := h.new
  obtain ⟨f1, f2, f3⟩ := h.far
  simp only [List.mem_cons, List.not_mem_nil, or_false, not_or] at f1 f2 f3
  obtain ⟨r, w', hr, hs, hA⟩ := copy_bools h.now h.last ty
  exact ⟨r, w', hr, ⟨mem, wr, M, h1.turnB hA (by omega), h2⟩, h.mp.keep hA (by simp; omega), hs, h.last.keep (by omega) hA (by simp; omega), h.n1, h.n2, h.far, h.new⟩
theorem apart_of_low {base : Nat} (hb : Below base w w') : Apart ((List.range w.heap.size).filter fun k => decide (base ≤ k)) w w' :=
  ⟨hb.os, hb.tape, hb.output, hb.size, fun k hk hn => hb.block k (by
    rcases Nat.lt_or_ge k base with h | h
    · exact h
    · exact absurd (List.mem_filter.2 ⟨List.mem_range.2 hk, by simpa using h⟩) hn)⟩
theorem PSt.lts (h : PSt w0 d g jb cb mb ab nb lb N S T L K lim w) : ∀ k ∈ [d, g, jb, cb, mb, ab, nb, lb], k < w.heap.size := by
  obtain ⟨mem, wr, M, h1, -⟩ := h.ex
  have hn1 := h.n1
  have h2 := h1.lts
  have h3 := h.mp.lt
  have h4 := h.now.lt (by omega)
  have h5 := h.last.lt (by omega)
  intro k hk
  simp only [List.mem_cons, List.not_mem_nil, or_false] at hk
  omega
/-- Only what is newer has turned. -/
theorem PSt.low (h : PSt w0 d g jb cb mb ab nb lb N S T L K lim w) {base : Nat} (hb : Below base w w') (hall : ∀ k ∈ [d, g, jb, cb, mb, ab, nb, lb], k < base) : PSt w0 d g jb cb mb ab nb lb N S T L K lim w' := by
  obtain ⟨mem, wr, M, h1, h2⟩ := h.ex
  have hn1 := h.n1
  have hn := h.new
  have hA := apart_of_low hb
  have hno : ∀ k, k < base → k ∉ (List.range w.heap.size).filter fun k => decide (base ≤ k) := fun k hk hm => by have := (List.mem_filter.1 hm).2; simp at this; omega
  have hnb := hall nb (by simp)
  have hge : ∀ k ∈ (List.range w.heap.size).filter (fun k => decide (base ≤ k)), w0.heap.size ≤ k := fun k hm => by have := (List.mem_filter.1 hm).2; simp at this; omega
  have hn' : ∀ k ∈ [d, g, jb, cb, mb, ab, nb, lb], k ∉ (List.range w.heap.size).filter fun k => decide (base ≤ k) := fun k hk => hno k (hall k hk)
  have hC : CSt w0 d g 160 jb cb mb 60 80 60 mem wr (-1) M w' :=
    ⟨⟨h1.sys.base, h1.sys.disk.apart_of hA (hn' d (by simp)) (hn' g (by simp)), h1.sys.below.trans (hA.below hge h1.sys.below.size), h1.sys.hd, h1.sys.hg⟩, h1.jat.keep hA (hn' jb (by simp)), h1.cat.keep hA (hn' cb (by simp)), h1.map.keep hA (hn' mb (by simp)), h1.jd, h1.cd, h1.md, h1.mj, h1.new⟩
  exact ⟨⟨mem, wr, M, hC, h2⟩, h.mp.keep hA (hn' ab (by simp)), h.now.keep (by omega) hA (hn' nb (by simp)), h.last.keep (by omega) hA (hn' lb (by simp)), h.n1, h.n2, h.far, h.new⟩
end
end Go.Proofs.YtildpgingcmfcaaGreatDoor
