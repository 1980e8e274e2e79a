/- The journal's Commit. -/
import Derived.Test.YtopegpjkkicjhaaGreatDoorJp6
namespace Go.Proofs.YtopegpjkkicjhaaGreatDoor
open Go.RowKit Go.Extern.Stop Go.Stop Go.Extern
set_option maxRecDepth 100000

/-- What is behind a Commit: all its Writes, or a beginning of them and the death. -/
structure Done (w0 : World) (d g n : Nat) (ws : Grp) (mem : Nat → Int) (writes left : Int) (r : Value) (w w' : World) : Prop where
  apart : Apart [d, g] w w'
  out : (r = .nilIface ∧ ∃ left', Sys w0 d g n (laid ws mem) (writes + ws.length) left' w' ∧ LeftOk left' ∧ (left = -1 → left' = -1)) ∨
    (∃ (k b : Nat) (i : Int), k < ws.length ∧ r = flt b ∧ Chain w' [(sJournal, sNone), (sDisk, itoaB i)] (num 50) (flt b) ∧ w.heap.size ≤ b ∧ Sys w0 d g n (laid (ws.take k) mem) (writes + k) 0 w' ∧ left ≠ -1)
section
variable {w0 : World} {d g n : Nat} {mem : Nat → Int} {writes left : Int} {w : World}
/-- A group that may not be written. -/
theorem commit_bad (h : Sys w0 d g n mem writes left w) (jb at_ most : Nat) (hm : 1 ≤ most ∧ most ≤ 200) (hj : JAt jb d at_ most w) (hat : at_ + needN most ≤ n) (v : Value) (xs : List (Int × List Int)) (hv : GAt w v xs) (hb : ¬ ∀ k, k < xs.length → OkAt n at_ (needN most) xs k) :
    Calls Tryz.prog 39 #[ptr jb, v] w fun e w' => ∃ b, e = .returned (flt b) ∧ Chain w' [(sJournal, sNone)] (num 1) (flt b) ∧ w.heap.size ≤ b ∧ Below w.heap.size w w' := by
  have hfew := h.disk.few
  have hT := hidden (takes_calls h jb at_ most (needN most) hj (by omega) v xs hv)
  have hN := hidden (need_calls most hm.1 (by omega) w)
  have j2 := hj.c2
  clear h hj hv hat
  generalize needN most = own at hT hN hb
  replace hb := hidden hb
  go_enter Tryz.func39, Tryz.ntmps39
  go_wp2_with fail
  refine (hN.out).mono ?_
  rintro ev w1 ⟨rfl, rfl⟩
  go_wp2_with fail
  refine (hT.out).mono ?_
  rintro ev w2 ⟨hT2, hB2⟩
  obtain rfl := hT2.bad hb.out
  replace hB2 := hidden hB2
  clear hT2 hT hN
  go_wp2_with fail
  refine (jwrong_some w2 [] (num 1) _ _ rfl).mono ?_
  rintro ev w3 ⟨b, rfl, hc, hbs, hB3⟩
  have hE := hidden (And.intro hc (And.intro (Nat.le_trans hB2.out.size hbs) (hB2.out.trans (hB3.mono hB2.out.size))))
  clear hc hbs hB3
  go_wp2
  go_ret
  exact ⟨b, rfl, hE.out⟩
/-- A group of too many blocks. -/
theorem commit_big (h : Sys w0 d g n mem writes left w) (jb at_ most : Nat) (hm : 1 ≤ most ∧ most ≤ 200) (hj : JAt jb d at_ most w) (hat : at_ + needN most ≤ n) (v : Value) (xs : List (Int × List Int)) (hv : GAt w v xs) (hb : ∀ k, k < xs.length → OkAt n at_ (needN most) xs k) (hbig : most < xs.length) :
    Calls Tryz.prog 39 #[ptr jb, v] w fun e w' => ∃ b, e = .returned (flt b) ∧ Chain w' [(sJournal, sNone)] (num 5) (flt b) ∧ w.heap.size ≤ b ∧ Below w.heap.size w w' := by
  have hfew := h.disk.few
  have hT := hidden (takes_calls h jb at_ most (needN most) hj (by omega) v xs hv)
  have hN := hidden (need_calls most hm.1 (by omega) w)
  have j2 := hj.c2
  have hJ := hidden hj
  obtain ⟨a, c, rfl, hx, -⟩ := hv
  clear h hj hat
  generalize needN most = own at hT hN hb
  replace hb := hidden hb
  have hbig' : (most : Int) < (xs.length : Int) := by omega
  go_enter Tryz.func39, Tryz.ntmps39
  go_wp2_with fail
  refine (hN.out).mono ?_
  rintro ev w1 ⟨rfl, rfl⟩
  go_wp2_with fail
  refine (hT.out).mono ?_
  rintro ev w2 ⟨hT2, hB2⟩
  obtain rfl := hT2.good hb.out
  have j3 := (hJ.out.below hB2).c2
  replace hB2 := hidden hB2
  clear hT2 hT hN
  go_wp2_with fail
  refine (jwrong_some w2 [] (num 5) _ _ rfl).mono ?_
  rintro ev w3 ⟨b, rfl, hc, hbs, hB3⟩
  have hE := hidden (And.intro hc (And.intro (Nat.le_trans hB2.out.size hbs) (hB2.out.trans (hB3.mono hB2.out.size))))
  clear hc hbs hB3
  go_wp2
  go_ret
  exact ⟨b, rfl, hE.out⟩
/-- No block at all. -/
theorem commit_none (h : Sys w0 d g n mem writes left w) (jb at_ most : Nat) (hm : 1 ≤ most ∧ most ≤ 200) (hj : JAt jb d at_ most w) (hat : at_ + needN most ≤ n) (v : Value) (hv : GAt w v []) :
    Calls Tryz.prog 39 #[ptr jb, v] w fun e w' => e = .returned .nilIface ∧ Below w.heap.size w w' := by
  have hfew := h.disk.few
  have hT := hidden (takes_calls h jb at_ most (needN most) hj (by omega) v [] hv)
  have hN := hidden (need_calls most hm.1 (by omega) w)
  have j2 := hj.c2
  have hJ := hidden hj
  obtain ⟨a, c, rfl, hx, -⟩ := hv
  clear h hj hat
  generalize needN most = own at hT hN
  simp only [List.length_nil] at hT ⊢
  go_enter Tryz.func39, Tryz.ntmps39
  go_wp2_with fail
  refine (hN.out).mono ?_
  rintro ev w1 ⟨rfl, rfl⟩
  go_wp2_with fail
  refine (hT.out).mono ?_
  rintro ev w2 ⟨hT2, hB2⟩
  obtain rfl := hT2.good (fun k hk => absurd hk (by simp))
  have j3 := (hJ.out.below hB2).c2
  replace hB2 := hidden hB2
  clear hT2 hT hN
  go_wp2
  go_ret
  exact ⟨rfl, hB2.out⟩
/-- A group that may be written. -/
theorem commit_good (h : Sys w0 d g n mem writes left w) (hlo : LeftOk left) (hw : 0 ≤ writes ∧ writes < 400000000) (jb at_ most : Nat) (hm : 1 ≤ most ∧ most ≤ 200) (hj : JAt jb d at_ most w) (hjd : jb ≠ d ∧ jb ≠ g) (hat : at_ + needN most ≤ n) (hi : Idle at_ mem) (l : Grp) (h1 : 1 ≤ l.length) (h2 : l.length ≤ most) (hg : Good n at_ (needN most) l) (v : Value) (hv : GOff d g w v (up l)) :
    Calls Tryz.prog 39 #[ptr jb, v] w fun e w' => ∃ r, e = .returned r ∧ Done w0 d g n (allWs at_ l) mem writes left r w w' := by
  have hfew := h.disk.few
  have hT := hidden (takes_calls h jb at_ most (needN most) hj (by omega) v (up l) hv.at)
  have hN := hidden (need_calls most hm.1 (by omega) w)
  have j2 := hj.c2
  have hJ := hidden hj
  have hS := hidden h
  have hV := hidden hv
  have hgd := hidden hg
  replace hi := hidden hi
  have hat2 : at_ + (1 + size l) ≤ n := by
    have e : size l = rowsN l.length + l.length := rfl
    have e2 := rowsN_mono h2
    unfold needN at hat
    omega
  obtain ⟨a, c, rfl, -, -⟩ := hv.at
  rw [up_len] at hV hT ⊢
  clear h hj hat hv hg
  have hown : Hid (needN most = needN most) := hidden rfl
  generalize hon : needN most = own at hT hN hgd
  replace hon := hidden hon
  have h2' : ¬ (most : Int) < (l.length : Int) := by omega
  have h1' : ((l.length : Int) == 0) = false := beq_eq_false_iff_ne.2 (by omega)
  go_enter Tryz.func39, Tryz.ntmps39
  go_wp2_with fail
  refine (hN.out).mono ?_
  rintro ev w1 ⟨rfl, rfl⟩
  go_wp2_with fail
  refine (hT.out).mono ?_
  rintro ev w2 ⟨hT2, hB2⟩
  obtain rfl := hT2.good hgd.out.ok
  have j3 := (hJ.out.below hB2).c2
  have hC := hidden (do_calls (hS.out.more hB2) hlo hw jb at_ most (hJ.out.below hB2) hjd hi.out l h1 own hgd.out hat2 _ (hV.out.below hB2))
  replace hB2 := hidden hB2
  clear hT2 hT hN
  go_wp2_with fail
  refine (hC.out).mono ?_
  rintro ev w3 ⟨r, rfl, hW⟩
  have hW' := hW.from hB2.out
  rcases hW'.out with ⟨rfl, hE⟩ | ⟨k, b, i, hk, rfl, hc, hb, hS3, hl3⟩
  · have hE2 := hidden (And.intro hW'.apart hE)
    clear hW hW' hC hE
    go_wp2_with fail
    refine (jwrong_nil _).mono ?_
    rintro ev w4 ⟨rfl, rfl⟩
    go_wp2
    go_ret
    exact ⟨_, rfl, hE2.out.1, Or.inl ⟨rfl, hE2.out.2⟩⟩
  · have hA := hidden hW'.apart
    replace hS3 := hidden hS3
    replace hl3 := hidden hl3
    have hcH := hidden hc
    replace hk := hidden hk
    clear hW hW' hC
    go_wp2_with fail
    refine (jwrong_some w3 _ (num 50) _ _ hcH.out).mono ?_
    rintro ev w4 ⟨b4, rfl, hc4, hb4, hB4⟩
    have hE : Hid (Done w0 d g n (allWs at_ l) mem writes left (flt b4) w1 w4) := hidden ⟨hA.out.trans (Apart.of_below hB4), Or.inr ⟨k, b4, i, hk.out, rfl, hc4, Nat.le_trans hA.out.size hb4, hS3.out.more hB4, hl3.out⟩⟩
    clear hc4 hb4 hB4 hA hS3 hcH hc
    go_wp2
    go_ret
    exact ⟨_, rfl, hE.out⟩
end
end Go.Proofs.YtopegpjkkicjhaaGreatDoor
