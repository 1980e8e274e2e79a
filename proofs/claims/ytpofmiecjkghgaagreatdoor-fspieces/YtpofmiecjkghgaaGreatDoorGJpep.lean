/- The journal's underWay, where a group is noted. -/
import Derived.Test.YtpofmiecjkghgaaGreatDoorGJpdp
import Derived.Test.YtpofmiecjkghgaaGreatDoorGJpcp
import Derived.Test.YtpofmiecjkghgaaGreatDoorGJpbp
namespace Go.Proofs.YtpofmiecjkghgaaGreatDoor
open Go.RowKit Go.Extern.Stop Go.Stop Go.Extern
set_option maxRecDepth 100000
theorem Good.ok {N at_ own : Nat} {l : Grp} (h : Good N at_ own l) : ∀ k, k < (up l).length -> OkAt N at_ own (up l) k := fun k hk => by
  rw [up_len] at hk
  have e : ∀ j, xno (up l) j = (nob l j : Int) := fun j => by show ((up l).getD j (0, [])).1 = _; rw [up_get]
  have e2 : xdat (up l) k = dat l k := by show ((up l).getD k (0, [])).2 = _; rw [up_get]
  refine ⟨by rw [e]; omega, by rw [e]; have := h.no k hk; omega, fun j hj => ?_, by rw [e2]; exact h.len k hk, by rw [e]; have := h.out k hk; omega⟩
  rw [e, e]
  have := h.once k j hk hj
  omega
theorem Took.good {N at_ own : Nat} {xs : List (Int × List Int)} {e : Ending} (h : Took N at_ own xs e) (hg : ∀ k, k < xs.length -> OkAt N at_ own xs k) : e = .returned (.bool true) := by
  obtain ⟨r, rfl, hr⟩ := h
  rw [hr.2 hg]
abbrev sJournal : ByteArray := ⟨#[106, 111, 117, 114, 110, 97, 108]⟩
abbrev sNone : ByteArray := ⟨#[]⟩
theorem jwrong_nil (w : World) : Calls Tryz.prog 199 #[.nilIface] w fun e w' => e = .returned .nilIface /\ w' = w := by
  go_enter Tryz.func199, Tryz.ntmps199
  go_wp2_with fail
  refine (wrap_nil _ _ _).mono ?_
  rintro ev w1 ⟨rfl, rfl⟩
  go_wp2
  go_ret
  exact ⟨rfl, rfl⟩
theorem jwrong_some (w : World) (l : List (ByteArray × ByteArray)) (bot : Value) (u : TypeId) (v : Value) (hc : Chain w l bot (.iface u v)) :
    Calls Tryz.prog 199 #[.iface u v] w fun e w' => ∃ b, e = .returned (flt b) /\ Chain w' ((sJournal, sNone) :: l) bot (flt b) /\ w.heap.size <= b /\ Below w.heap.size w w' := by
  replace hc := hidden hc
  go_enter Tryz.func199, Tryz.ntmps199
  go_wp2_with fail
  refine (wrap_some sJournal sNone _ _ w).mono ?_
  rintro ev w1 ⟨rfl, rfl⟩
  go_wp2
  go_ret
  exact ⟨_, rfl, Chain.alloc (w := w) sJournal sNone hc.out, Nat.le_refl _, (Below.refl _ _).alloc (Nat.le_refl _) _⟩
theorem Wrote.from {w0 : World} {d g n : Nat} {ws : Grp} {mem : Nat -> Int} {writes left : Int} {r : Value} {w w1 w' : World} (hb : Below w.heap.size w w1) (h : Wrote w0 d g n ws mem writes left r w1 w') : Wrote w0 d g n ws mem writes left r w w' := by
  refine ⟨(Apart.of_below hb).trans h.apart, ?_⟩
  rcases h.out with h' | ⟨k, b, i, h1, h2, h3, h4, h5⟩
  · exact Or.inl h'
  · exact Or.inr ⟨k, b, i, h1, h2, h3, Nat.le_trans hb.size h4, h5⟩
theorem Wrote.append {w0 : World} {d g n : Nat} {ws ws2 : Grp} {mem : Nat -> Int} {writes left left1 : Int} {r : Value} {w w1 w' : World} (ha : Apart [d, g] w w1) (hl : left = -1 -> left1 = -1) (h2 : Wrote w0 d g n ws2 (laid ws mem) (writes + ws.length) left1 r w1 w') : Wrote w0 d g n (ws ++ ws2) mem writes left r w w' := by
  refine ⟨ha.trans h2.apart, ?_⟩
  rcases h2.out with ⟨rfl, l2, hS, h3, h4⟩ | ⟨k, b, i, h3, h4, h5, h6, h7, h8⟩
  · refine Or.inl ⟨rfl, l2, ?_, h3, fun e => h4 (hl e)⟩
    rw [laid_append, List.length_append]
    have e : writes + ((ws.length + ws2.length : Nat) : Int) = writes + ws.length + ws2.length := by omega
    rw [e]; exact hS
  · refine Or.inr ⟨ws.length + k, b, i, by rw [List.length_append]; omega, h4, h5, Nat.le_trans ha.size h6, ?_, fun e => h8 (hl e)⟩
    rw [List.take_length_add_append, laid_append]
    have e : writes + ((ws.length + k : Nat) : Int) = writes + ws.length + k := by omega
    rw [e]; exact h7
theorem Wrote.begin {w0 : World} {d g n : Nat} {ws ws2 : Grp} {mem : Nat -> Int} {writes left : Int} {b : Nat} {w w' : World} (h : Wrote w0 d g n ws mem writes left (flt b) w w') : Wrote w0 d g n (ws ++ ws2) mem writes left (flt b) w w' := by
  refine ⟨h.apart, ?_⟩
  rcases h.out with ⟨h1, -⟩ | ⟨k, b, i, h3, h4, h5, h6, h7, h8⟩
  · cases h1
  · exact Or.inr ⟨k, b, i, by rw [List.length_append]; omega, h4, h5, h6, by rw [List.take_append_of_le_length (by omega)]; exact h7, h8⟩
section
variable {w0 : World} {d g n : Nat} {mem : Nat -> Int} {writes left : Int} {w : World}
theorem fin_dead (h : Sys w0 d g n mem writes 0 w) (jb at_ most : Nat) (hj : JAt jb d at_ most w) (hat : at_ < n) :
    Calls Tryz.prog 200 #[ptr jb] w fun e w' => ∃ b, e = .returned (flt b) /\ Chain w' [(sDisk, itoaB at_)] (num 50) (flt b) /\ w.heap.size <= b /\ Below w.heap.size w w' := by
  have hU := hidden (under_dead h jb at_ most hj hat)
  clear h hj
  go_enter Tryz.func200, Tryz.ntmps200
  go_wp2_with fail
  refine (hU.out).mono ?_
  rintro ev w1 ⟨b, rfl, hE⟩
  replace hE := hidden hE
  go_wp2
  go_ret
  exact ⟨b, rfl, hE.out⟩
theorem fin_idle (h : Sys w0 d g n mem writes left w) (hl : left ≠ 0) (jb at_ most : Nat) (hj : JAt jb d at_ most w) (hat : at_ < n) (hi : Idle at_ mem) :
    Calls Tryz.prog 200 #[ptr jb] w fun e w' => e = .returned .nilIface /\ Below w.heap.size w w' := by
  have hU := hidden (under_idle h hl jb at_ most hj hat hi)
  clear h hj hi
  go_enter Tryz.func200, Tryz.ntmps200
  go_wp2_with fail
  refine (hU.out).mono ?_
  rintro ev w1 ⟨rfl, hE⟩
  replace hE := hidden hE
  go_wp2
  go_ret
  exact ⟨rfl, hE.out⟩
theorem rowsN_mono {a b : Nat} (h : a <= b) : rowsN a <= rowsN b := by unfold rowsN; omega
abbrev allWs (at_ : Nat) (l : Grp) : Grp := noteWs at_ l ++ settleWs at_ l
theorem do_calls (h : Sys w0 d g n mem writes left w) (hlo : LeftOk left) (hw : 0 <= writes /\ writes < 400000000) (jb at_ most : Nat) (hj : JAt jb d at_ most w) (hjd : jb ≠ d /\ jb ≠ g) (hi : Idle at_ mem) (l : Grp) (h1 : 1 <= l.length) (own : Nat) (hg : Good n at_ own l) (hat : at_ + (1 + size l) <= n) (v : Value) (hv : GOff d g w v (up l)) :
    Calls Tryz.prog 207 #[ptr jb, v] w fun e w' => ∃ r, e = .returned r /\ Wrote w0 d g n (allWs at_ l) mem writes left r w w' := by
  have hS := hidden h
  have hJ := hidden hj
  have hgd := hidden hg
  have hV := hidden hv
  have hat2 : at_ < n := by omega
  have hl2 := hg.few
  have hrl := rowsN_le l.length
  have hnl : (noteWs at_ l).length <= 401 := by rw [note_len]; show rowsN l.length + l.length + 1 <= 401; omega
  have hat3 : at_ + 1 + size l <= n := by omega
  obtain ⟨a, c, rfl, -, -⟩ := hv.at
  rw [up_len] at hV ⊢
  by_cases hl : left = 0
  · subst hl
    have hF := hidden (fin_dead h jb at_ most hj hat2)
    clear h hj hg hv hi hat hnl hat3
    go_enter Tryz.func207, Tryz.ntmps207
    go_wp2_with fail
    refine (hF.out).mono ?_
    rintro ev w1 ⟨b, rfl, hE⟩
    replace hE := hidden hE
    go_wp2
    go_ret
    refine ⟨_, rfl, Apart.of_below hE.out.2.2, Or.inr ⟨0, b, _, by rw [List.length_append, note_len]; omega, rfl, hE.out.1, hE.out.2.1, ?_, by decide⟩⟩
    simpa [laid] using hS.out.more hE.out.2.2
  · have hF := hidden (fin_idle h hl jb at_ most hj hat2 hi)
    clear h hj hg hv hi hat
    go_enter Tryz.func207, Tryz.ntmps207
    go_wp2_with fail
    refine (hF.out).mono ?_
    rintro ev w1 ⟨rfl, hB⟩
    have hN := hidden (note_calls (hS.out.more hB) jb at_ most (hJ.out.below hB) hjd l own hgd.out hat3 h1 _ (hV.out.below hB) hlo (by omega))
    replace hB := hidden hB
    clear hF
    go_wp2_with fail
    refine (hN.out).mono ?_
    rintro ev w2 ⟨r, rfl, hW⟩
    have hW' := hW.from hB.out
    rcases hW.out with ⟨rfl, left1, hS1, hl1, hll⟩ | ⟨-, b, -, -, rfl, -⟩
    · have hSe := hidden (settle_calls hS1 jb at_ most ((hJ.out.below hB.out).keep hW.apart (by simp; exact hjd)) hjd hat2 l own hgd.out h1 _ ((hV.out.below hB.out).keep hW.apart) hl1 (by omega))
      have hA := hidden hW'.apart
      replace hll := hidden hll
      clear hW hW' hN hS1
      go_wp2_with fail
      refine (hSe.out).mono ?_
      rintro ev w3 ⟨r, rfl, hW3⟩
      have hE := hidden (Wrote.append hA.out hll.out hW3)
      clear hW3 hSe
      go_wp2
      go_ret
      exact ⟨r, rfl, hE.out⟩
    · have hE := hidden (hW'.begin (ws2 := settleWs at_ l))
      clear hW hW' hN
      go_wp2
      go_ret
      exact ⟨_, rfl, hE.out⟩
end
structure Done (w0 : World) (d g n : Nat) (ws : Grp) (mem : Nat -> Int) (writes left : Int) (r : Value) (w w' : World) : Prop where
  apart : Apart [d, g] w w'
  out : (r = .nilIface /\ ∃ left', Sys w0 d g n (laid ws mem) (writes + ws.length) left' w' /\ LeftOk left' /\ (left = -1 -> left' = -1)) \/
    (∃ (k b : Nat) (i : Int), k < ws.length /\ r = flt b /\ Chain w' [(sJournal, sNone), (sDisk, itoaB i)] (num 50) (flt b) /\ w.heap.size <= b /\ Sys w0 d g n (laid (ws.take k) mem) (writes + k) 0 w' /\ left ≠ -1)
section
variable {w0 : World} {d g n : Nat} {mem : Nat -> Int} {writes left : Int} {w : World}
theorem commit_none (h : Sys w0 d g n mem writes left w) (jb at_ most : Nat) (hm : 1 <= most /\ most <= 200) (hj : JAt jb d at_ most w) (hat : at_ + needN most <= n) (v : Value) (hv : GAt w v []) :
    Calls Tryz.prog 161 #[ptr jb, v] w fun e w' => e = .returned .nilIface /\ Below w.heap.size w w' := by
  have hfew := h.disk.few
  have hT := hidden (takes_calls h jb at_ most (needN most) hj (by omega) v [] hv)
  have hN := hidden (need_calls most hm.1 (by omega) w)
  have j2 := hj.c2
  have hJ := hidden hj
  obtain ⟨a, c, rfl, hx, -⟩ := hv
  clear h hj hat
  generalize needN most = own at hT hN
  simp only [List.length_nil] at hT ⊢
  go_enter Tryz.func161, Tryz.ntmps161
  go_wp2_with fail
  refine (hN.out).mono ?_
  rintro ev w1 ⟨rfl, rfl⟩
  go_wp2_with fail
  refine (hT.out).mono ?_
  rintro ev w2 ⟨hT2, hB2⟩
  obtain rfl := hT2.good (fun k hk => absurd hk (by simp))
  have j3 := (hJ.out.below hB2).c2
  replace hB2 := hidden hB2
  clear hT2 hT hN
  go_wp2
  go_ret
  exact ⟨rfl, hB2.out⟩
theorem commit_good (h : Sys w0 d g n mem writes left w) (hlo : LeftOk left) (hw : 0 <= writes /\ writes < 400000000) (jb at_ most : Nat) (hm : 1 <= most /\ most <= 200) (hj : JAt jb d at_ most w) (hjd : jb ≠ d /\ jb ≠ g) (hat : at_ + needN most <= n) (hi : Idle at_ mem) (l : Grp) (h1 : 1 <= l.length) (h2 : l.length <= most) (hg : Good n at_ (needN most) l) (v : Value) (hv : GOff d g w v (up l)) :
    Calls Tryz.prog 161 #[ptr jb, v] w fun e w' => ∃ r, e = .returned r /\ Done w0 d g n (allWs at_ l) mem writes left r w w' := by
  have hfew := h.disk.few
  have hT := hidden (takes_calls h jb at_ most (needN most) hj (by omega) v (up l) hv.at)
  have hN := hidden (need_calls most hm.1 (by omega) w)
  have j2 := hj.c2
  have hJ := hidden hj
  have hS := hidden h
  have hV := hidden hv
  have hgd := hidden hg
  replace hi := hidden hi
  have hat2 : at_ + (1 + size l) <= n := by
    have e : size l = rowsN l.length + l.length := rfl
    have e2 := rowsN_mono h2
    unfold needN at hat
    omega
  obtain ⟨a, c, rfl, -, -⟩ := hv.at
  rw [up_len] at hV hT ⊢
  clear h hj hat hv hg
  have hown : Hid (needN most = needN most) := hidden rfl
  generalize hon : needN most = own at hT hN hgd
  replace hon := hidden hon
  have h2' : ¬ (most : Int) < (l.length : Int) := by omega
  have h1' : ((l.length : Int) == 0) = false := beq_eq_false_iff_ne.2 (by omega)
  go_enter Tryz.func161, Tryz.ntmps161
  go_wp2_with fail
  refine (hN.out).mono ?_
  rintro ev w1 ⟨rfl, rfl⟩
  go_wp2_with fail
  refine (hT.out).mono ?_
  rintro ev w2 ⟨hT2, hB2⟩
  obtain rfl := hT2.good hgd.out.ok
  have j3 := (hJ.out.below hB2).c2
  have hC := hidden (do_calls (hS.out.more hB2) hlo hw jb at_ most (hJ.out.below hB2) hjd hi.out l h1 own hgd.out hat2 _ (hV.out.below hB2))
  replace hB2 := hidden hB2
  clear hT2 hT hN
  go_wp2_with fail
  refine (hC.out).mono ?_
  rintro ev w3 ⟨r, rfl, hW⟩
  have hW' := hW.from hB2.out
  rcases hW'.out with ⟨rfl, hE⟩ | ⟨k, b, i, hk, rfl, hc, hb, hS3, hl3⟩
  · have hE2 := hidden (And.intro hW'.apart hE)
    clear hW hW' hC hE
    go_wp2_with fail
    refine (jwrong_nil _).mono ?_
    rintro ev w4 ⟨rfl, rfl⟩
    go_wp2
    go_ret
    exact ⟨_, rfl, hE2.out.1, Or.inl ⟨rfl, hE2.out.2⟩⟩
  · have hA := hidden hW'.apart
    replace hS3 := hidden hS3
    replace hl3 := hidden hl3
    have hcH := hidden hc
    replace hk := hidden hk
    clear hW hW' hC
    go_wp2_with fail
    refine (jwrong_some w3 _ (num 50) _ _ hcH.out).mono ?_
    rintro ev w4 ⟨b4, rfl, hc4, hb4, hB4⟩
    have hE : Hid (Done w0 d g n (allWs at_ l) mem writes left (flt b4) w1 w4) := hidden ⟨hA.out.trans (Apart.of_below hB4), Or.inr ⟨k, b4, i, hk.out, rfl, hc4, Nat.le_trans hA.out.size hb4, hS3.out.more hB4, hl3.out⟩⟩
    clear hc4 hb4 hB4 hA hS3 hcH hc
    go_wp2
    go_ret
    exact ⟨_, rfl, hE.out⟩
end
section
variable {w0 : World} {d g n : Nat} {mem : Nat -> Int} {writes left : Int} {w : World}
theorem most_calls (jb at_ most : Nat) (hj : JAt jb d at_ most w) : Calls Tryz.prog 263 #[ptr jb] w fun e w' => e = .returned (.int .i64 most) /\ w' = w := by
  have j2 := hj.c2
  clear hj
  go_enter Tryz.func263, Tryz.ntmps263
  go_wp2
  go_ret
  exact ⟨rfl, rfl⟩
theorem open_idle (h : Sys w0 d g n mem writes left w) (hl : left ≠ 0) (at_ most : Nat) (hm : 1 <= most /\ most <= 200) (hat : at_ + needN most <= n) (hi : Idle at_ mem) :
    Calls Tryz.prog 151 #[ptr d, .int .i64 at_, .int .i64 most] w fun e w' => ∃ jb, e = .returned (.tuple #[ptr jb, .nilIface]) /\ JAt jb d at_ most w' /\ w.heap.size <= jb /\ Below w.heap.size w w' := by
  have hfew := h.disk.few
  have hN := hidden (need_calls most hm.1 (by omega) w)
  have hBl := hidden (sys_blocks h)
  have hB0 : Below w.heap.size w (w.alloc (.cells #[ptr d, .int .i64 at_, .int .i64 most] 247)) := (Below.refl _ _).alloc (Nat.le_refl _) _
  have hJ0 : JAt w.heap.size d at_ most (w.alloc (.cells #[ptr d, .int .i64 at_, .int .i64 most] 247)) := ⟨by simp, by simp, by simp⟩
  have hF := hidden (fin_idle (h.more hB0) hl _ at_ most hJ0 (by unfold needN at hat; omega) hi)
  have hJ := hidden hJ0
  have hB := hidden hB0
  have hc : ¬ ((n : Int) - ((needN most : Nat) : Int) < (at_ : Int)) := by omega
  have hc2 : (needN most : Int) <= 3000 := by omega
  clear h hi hat hB0 hJ0
  generalize needN most = own at hN hc hc2
  have hm1 : ¬ (most : Int) < 1 := by omega
  have hm2 : ¬ (200 : Int) < (most : Int) := by omega
  go_enter Tryz.func151, Tryz.ntmps151
  go_wp2_with (first
    | (go_at_call 104; refine (hBl.out).mono ?_; rintro ev w1 ⟨rfl, rfl⟩)
    | (go_at_call 154; refine (hN.out).mono ?_; rintro ev w1 ⟨rfl, rfl⟩)
    | (go_at_call 200; refine (hF.out).mono ?_; rintro ev w2 ⟨rfl, hB2⟩; have hJ2 := hidden (hJ.out.below hB2); have hB3 := hidden (hB.out.trans (hB2.mono hB.out.size)); clear hB2))
  go_ret2
  exact ⟨_, rfl, hJ2.out, Nat.le_refl _, hB3.out⟩
end
structure Piece where
  no : Int
  blk : Nat
  zs : List Int
abbrev Piece.cells (p : Piece) : List Value := [.int .i64 p.no, .slice (some ⟨p.blk, 0, none⟩) 128 128]
def cellsOf : List Piece -> List Value
  | [] => []
  | p :: r => .int .i64 p.no :: .slice (some ⟨p.blk, 0, none⟩) 128 128 :: cellsOf r
def plain (ps : List Piece) : List (Int × List Int) := ps.map fun p => (p.no, p.zs)
theorem cellsOf_len : ∀ ps, (cellsOf ps).length = ps.length * 2
  | [] => rfl
  | _ :: r => by simp [cellsOf, cellsOf_len r]; omega
theorem cellsOf_append : ∀ a b, cellsOf (a ++ b) = cellsOf a ++ cellsOf b
  | [], _ => rfl
  | p :: r, b => by simp [cellsOf, cellsOf_append r b]
theorem cellsOf_get : ∀ (ps : List Piece) (k : Nat) (p : Piece), ps[k]? = some p -> (cellsOf ps)[k * 2]? = some (.int .i64 p.no) /\ (cellsOf ps)[k * 2 + 1]? = some (.slice (some ⟨p.blk, 0, none⟩) 128 128)
  | [], k, p, h => by simp at h
  | q :: r, 0, p, h => by simp at h; subst h; exact ⟨rfl, rfl⟩
  | q :: r, k + 1, p, h => by
    have := cellsOf_get r k p (by simpa using h)
    rw [show (k + 1) * 2 = k * 2 + 2 by omega]
    simpa [cellsOf] using this
structure DataAt (base : Nat) (w : World) (p : Piece) : Prop where
  new : base <= p.blk
  lt : p.blk < w.heap.size
  len : p.zs.length = 128
  bytes : BytesAt w (.slice (some ⟨p.blk, 0, none⟩) 128 128) p.zs
  row : ∃ cs t fz, w.heap[p.blk]? = some (.cells cs t fz) /\ t ≠ 255
theorem DataAt.keep {base : Nat} {w w' : World} {p : Piece} {bs : List Nat} (h : DataAt base w p) (ha : Apart bs w w') (hb : p.blk ∉ bs) : DataAt base w' p := by
  obtain ⟨cs, t, fz, hh, ht⟩ := h.row
  exact ⟨h.new, Nat.lt_of_lt_of_le h.lt ha.size, h.len, bytes_keep h.bytes ha hb, cs, t, fz, (ha.block _ h.lt hb).trans hh, ht⟩
structure GOwn (base : Nat) (w : World) (v : Value) (ps : List Piece) : Prop where
  row : w.ownsRow base 255 2 v ps.length (cellsOf ps)
  data : ∀ p ∈ ps, DataAt base w p
theorem GOwn.nil (base : Nat) (w : World) : GOwn base w (.slice none 0 0) [] := ⟨World.ownsRow_nil w base _ _, fun p hp => by cases hp⟩
theorem GOwn.keep {base : Nat} {w w' : World} {v : Value} {ps : List Piece} {bs : List Nat} (h : GOwn base w v ps) (ha : Apart bs w w') (hb : ∀ k ∈ bs, k < base) : GOwn base w' v ps := by
  refine ⟨⟨h.row.1, ?_⟩, fun p hp => ?_⟩
  · rcases h.row.2 with h2 | ⟨g', cap', cur, rfl, h1, hh, rest⟩
    · exact .inl h2
    · exact .inr ⟨g', cap', cur, rfl, h1, (ha.block g' (by rcases Nat.lt_or_ge g' w.heap.size with h | h; exact h; rw [Array.getElem?_eq_none h] at hh; cases hh) (fun hm => by have := hb _ hm; omega)).trans hh, rest⟩
  · have h1 := h.data p hp
    exact h1.keep ha (fun hm => by have := hb _ hm; have := h1.new; omega)
theorem GOwn.below {base : Nat} {w w' : World} {v : Value} {ps : List Piece} (h : GOwn base w v ps) (hb : Below w.heap.size w w') : GOwn base w' v ps := h.keep (Apart.of_below (bs := []) hb) (by simp)
theorem GOwn.at {base : Nat} {w : World} {v : Value} {ps : List Piece} (h : GOwn base w v ps) (hl : ps.length <= 1000) : GAt w v (plain ps) := by
  have hpl : (plain ps).length = ps.length := by simp [plain]
  rcases h.row.2 with ⟨rfl, h0⟩ | ⟨g', cap', cur, rfl, h1, hh, h2, h3, h4, h5⟩
  · exact ⟨none, 0, by rw [hpl, h0], by omega, fun hne => absurd (List.length_eq_zero_iff.1 (by rw [hpl]; exact h0)) hne⟩
  · refine ⟨_, cap', by rw [hpl], by omega, fun hne => ⟨g', 0, rfl, ?_, fun k hk => ?_⟩⟩
    · rcases Nat.lt_or_ge g' w.heap.size with h | h
      · exact h
      · rw [Array.getElem?_eq_none h] at hh; cases hh
    · rw [hpl] at hk
      obtain ⟨p, hp⟩ : ∃ p, ps[k]? = some p := ⟨_, List.getElem?_eq_getElem hk⟩
      obtain ⟨c0, c1⟩ := cellsOf_get ps k p hp
      have hg : (plain ps).getD k (0, []) = (p.no, p.zs) := by simp [plain, List.getD, hp]
      rw [hg]
      have hc : ∀ j, j < ps.length * 2 -> w.cell? ⟨g', j, none⟩ = (cellsOf ps)[j]? := fun j hj => by
        rw [cell_of_row w g' j cur _ (0, 0) hh, <- h5, List.getElem?_take, if_pos hj]
        simp
      refine ⟨by rw [Nat.zero_add, hc _ (by omega)]; exact c0, _, by rw [Nat.zero_add, hc _ (by omega)]; exact c1, (h.data p (List.mem_of_getElem? hp)).bytes⟩
theorem GOwn.off {base d g : Nat} {w : World} {v : Value} {ps : List Piece} (h : GOwn base w v ps) (hl : ps.length <= 1000) (hd : d < base) (hg : g < base) : GOff d g w v (plain ps) := fun _ ha => (h.keep ha (by simp; omega)).at hl
theorem GOwn.lit (base : Nat) (w : World) (hb : base <= w.heap.size) (p : Piece) (hp : DataAt base w p) :
    GOwn base (w.alloc (.cells #[.int .i64 p.no, .slice (some ⟨p.blk, 0, none⟩) 128 128] 255)) (.slice (some ⟨w.heap.size, 0, none⟩) 1 1) [p] := by
  refine ⟨World.ownsRow_lit (base := base) (e := 255) (size := 2) w #[.int .i64 p.no, .slice (some ⟨p.blk, 0, none⟩) 128 128] 1 hb (by decide) rfl, fun q hq => ?_⟩
  obtain rfl := List.mem_singleton.1 hq
  exact hp.keep (Apart.of_below (bs := []) ((Below.refl _ _).alloc (Nat.le_refl _) _)) (by simp)
theorem GOwn.append {base : Nat} {w : World} {v : Value} {ps qs : List Piece} (h : GOwn base w v ps) (b cap : Nat) (hx : GOwn base w (.slice (some ⟨b, 0, none⟩) qs.length cap) qs) (hn : ps.length + qs.length <= 1000) (hbase : base <= w.heap.size) (ty : TypeId) :
    ∃ v' w', (Builtin.append_ #[215, 215] ty #[v, .slice (some ⟨b, 0, none⟩) qs.length cap]).run Tryz.prog w = .ok v' w' /\ GOwn base w' v' (ps ++ qs) /\ Below base w w' /\ w.grownBy w' v.ownBlock := by
  obtain ⟨i0, hi, hz0, hz1, hz2⟩ := info_parts3 Tryz.infoGroup
  obtain ⟨v', w', hrun, hown, hgrow, -⟩ := run_append_own (P := Tryz.prog) w base 215 ty 255 i0 (.agg #[.int .i64 0, .slice none 0 0]) 2 32 Tryz.underlying215 hi hz0 hz1 hz2 (by simp [Value.cells]) (by decide)
    v ps.length _ h.row ⟨b, 0, none⟩ qs.length cap (cellsOf qs) (cellsOf_len qs) (fun j u hu => by
      have hj : j < qs.length * 2 := by
        rcases Nat.lt_or_ge j (qs.length * 2) with h | h
        · exact h
        · rw [List.getElem?_eq_none (by rw [cellsOf_len]; exact h)] at hu; cases hu
      rw [Go.WideShapes.add_plain, Nat.zero_add, hx.row.cellAt j hj]
      exact hu) (by
      have : ∀ qs : List Piece, ∀ u ∈ cellsOf qs, u.oneCell' = true := by
        intro qs
        induction qs with
        | nil => intro u hu; cases hu
        | cons q r ih =>
          intro u hu
          rcases List.mem_cons.1 hu with rfl | hu
          · rfl
          · rcases List.mem_cons.1 hu with rfl | hu
            · rfl
            · exact ih u hu
      exact this qs) (by unfold maxLen; omega) (by omega) hbase
  have hB : Below base w w' := (Below.refl base w).grown hgrow hbase (fun k hk => (h.row.lt k hk).1)
  refine ⟨v', w', hrun, ⟨by rw [List.length_append, cellsOf_append]; exact hown, fun p hp => ?_⟩, hB, hgrow⟩
  have key : DataAt base w p := by
    rcases List.mem_append.1 hp with h' | h'
    · exact h.data p h'
    · exact hx.data p h'
  have hne : v.ownBlock ≠ some p.blk := by
    intro e
    rcases h.row.2 with ⟨rfl, _⟩ | ⟨g', cap', cur, rfl, _, hh, _⟩
    · cases e
    · have e' : g' = p.blk := by simpa [Value.ownBlock] using e
      subst e'
      obtain ⟨cs, t, fz, h2, ht⟩ := key.row
      rw [h2] at hh
      have := Obj.cells.inj (Option.some.inj hh)
      exact absurd this.2.1 ht
  refine key.keep (bs := v.ownBlock.toList) ⟨hgrow.os, hgrow.tape, hgrow.output, hgrow.size, fun k hk hn => hgrow.block k hk ?_⟩ ?_
  · intro e; exact hn (by rw [<- e]; simp)
  · intro hm; exact hne (by simpa using hm)
theorem all_all {N at_ own : Nat} {l : Grp} {mem : Nat -> Int} (hg : Good N at_ own l) (ho : 1 + size l <= own) :
    Idle at_ (laid (allWs at_ l) mem) /\ (∀ no, (no < at_ \/ at_ + own <= no) -> (∀ p ∈ l, p.1 ≠ no) -> blockL (laid (allWs at_ l) mem) no = blockL mem no) /\ ∀ p ∈ l, blockL (laid (allWs at_ l) mem) p.1 = p.2 := by
  rw [allWs, laid_append]
  have h := note_all (mem := mem) (v := blockL mem) hg ho (fun _ _ => rfl)
  exact settle_all hg (by omega) (fun no h1 _ => h.2 no h1)
end Go.Proofs.YtpofmiecjkghgaaGreatDoor
