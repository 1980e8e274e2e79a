/- The journal's Open, Read and Most. -/
import Derived.Test.YtopegpjkkicjhaaGreatDoorJp7
namespace Go.Proofs.YtopegpjkkicjhaaGreatDoor
open Go.RowKit Go.Extern.Stop Go.Stop Go.Extern
set_option maxRecDepth 100000

section
variable {w0 : World} {d g n : Nat} {mem : Nat → Int} {writes left : Int} {w : World}
theorem most_calls (jb at_ most : Nat) (hj : JAt jb d at_ most w) : Calls Tryz.prog 94 #[ptr jb] w fun e w' => e = .returned (.int .i64 most) ∧ w' = w := by
  have j2 := hj.c2
  clear hj
  go_enter Tryz.func94, Tryz.ntmps94
  go_wp2
  go_ret
  exact ⟨rfl, rfl⟩
theorem jread_calls (h : Sys w0 d g n mem writes left w) (hl : left ≠ 0) (jb at_ most : Nat) (hj : JAt jb d at_ most w) (i : Nat) (hi : i < n) :
    Calls Tryz.prog 95 #[ptr jb, .int .i64 i] w fun e w' => ∃ v, e = .returned (.tuple #[v, .nilIface]) ∧ BytesAt w' v (blockL mem i) ∧ Below w.heap.size w w' := by
  have j0 := hj.c0
  have hR := hidden (sys_read h i hi hl)
  clear hj h
  go_enter Tryz.func95, Tryz.ntmps95
  go_wp2_with fail
  refine (hR.out).mono ?_
  rintro ev w1 ⟨b, rfl, hb, -, -, -, hB⟩
  have hE := hidden (And.intro hb hB)
  clear hb hB hR
  go_wp2_with fail
  refine (jwrong_nil _).mono ?_
  rintro ev w4 ⟨rfl, rfl⟩
  go_wp2
  go_ret2
  exact ⟨_, rfl, hE.out⟩
/-- A Journal that is there: nothing was under way. -/
theorem open_idle (h : Sys w0 d g n mem writes left w) (hl : left ≠ 0) (at_ most : Nat) (hm : 1 ≤ most ∧ most ≤ 200) (hat : at_ + needN most ≤ n) (hi : Idle at_ mem) :
    Calls Tryz.prog 56 #[ptr d, .int .i64 at_, .int .i64 most] w fun e w' => ∃ jb, e = .returned (.tuple #[ptr jb, .nilIface]) ∧ JAt jb d at_ most w' ∧ w.heap.size ≤ jb ∧ Below w.heap.size w w' := by
  have hfew := h.disk.few
  have hN := hidden (need_calls most hm.1 (by omega) w)
  have hBl := hidden (sys_blocks h)
  have hB0 : Below w.heap.size w (w.alloc (.cells #[ptr d, .int .i64 at_, .int .i64 most] 130)) := (Below.refl _ _).alloc (Nat.le_refl _) _
  have hJ0 : JAt w.heap.size d at_ most (w.alloc (.cells #[ptr d, .int .i64 at_, .int .i64 most] 130)) := ⟨by simp, by simp, by simp⟩
  have hF := hidden (fin_idle (h.more hB0) hl _ at_ most hJ0 (by unfold needN at hat; omega) hi)
  have hJ := hidden hJ0
  have hB := hidden hB0
  have hc : ¬ ((n : Int) - ((needN most : Nat) : Int) < (at_ : Int)) := by omega
  have hc2 : (needN most : Int) ≤ 3000 := by omega
  clear h hi hat hB0 hJ0
  generalize needN most = own at hN hc hc2
  have hm1 : ¬ (most : Int) < 1 := by omega
  have hm2 : ¬ (200 : Int) < (most : Int) := by omega
  go_enter Tryz.func56, Tryz.ntmps56
  go_wp2_with (first
    | (go_at_call 92; refine (hBl.out).mono ?_; rintro ev w1 ⟨rfl, rfl⟩)
    | (go_at_call 73; refine (hN.out).mono ?_; rintro ev w1 ⟨rfl, rfl⟩)
    | (go_at_call 93; refine (hF.out).mono ?_; rintro ev w2 ⟨rfl, hB2⟩; have hJ2 := hidden (hJ.out.below hB2); have hB3 := hidden (hB.out.trans (hB2.mono hB.out.size)); clear hB2))
  go_ret2
  exact ⟨_, rfl, hJ2.out, Nat.le_refl _, hB3.out⟩
/-- The disk is dead. -/
theorem open_dead (h : Sys w0 d g n mem writes 0 w) (at_ most : Nat) (hm : 1 ≤ most ∧ most ≤ 200) (hat : at_ + needN most ≤ n) :
    Calls Tryz.prog 56 #[ptr d, .int .i64 at_, .int .i64 most] w fun e w' => ∃ b, e = .returned (.tuple #[.pointer none, flt b]) ∧ Below w.heap.size w w' := by
  have hfew := h.disk.few
  have hN := hidden (need_calls most hm.1 (by omega) w)
  have hBl := hidden (sys_blocks h)
  have hB0 : Below w.heap.size w (w.alloc (.cells #[ptr d, .int .i64 at_, .int .i64 most] 130)) := (Below.refl _ _).alloc (Nat.le_refl _) _
  have hJ0 : JAt w.heap.size d at_ most (w.alloc (.cells #[ptr d, .int .i64 at_, .int .i64 most] 130)) := ⟨by simp, by simp, by simp⟩
  have hF := hidden (fin_dead (h.more hB0) _ at_ most hJ0 (by unfold needN at hat; omega))
  have hB := hidden hB0
  have hc : ¬ ((n : Int) - ((needN most : Nat) : Int) < (at_ : Int)) := by omega
  have hc2 : (needN most : Int) ≤ 3000 := by omega
  clear h hat hB0 hJ0
  generalize needN most = own at hN hc hc2
  have hm1 : ¬ (most : Int) < 1 := by omega
  have hm2 : ¬ (200 : Int) < (most : Int) := by omega
  go_enter Tryz.func56, Tryz.ntmps56
  go_wp2_with (first
    | (go_at_call 92; refine (hBl.out).mono ?_; rintro ev w1 ⟨rfl, rfl⟩)
    | (go_at_call 73; refine (hN.out).mono ?_; rintro ev w1 ⟨rfl, rfl⟩)
    | (go_at_call 93; refine (hF.out).mono ?_; rintro ev w2 ⟨b2, rfl, hc9, -, hB2⟩; have hB3 := hidden (hB.out.trans (hB2.mono hB.out.size)); clear hB2; replace hc9 := hidden hc9)
    | (go_at_call 74; refine (jwrong_some _ _ (num 50) _ _ hc9.out).mono ?_; rintro ev w4 ⟨b4, rfl, -, -, hB4⟩; have hE := hidden (hB3.out.trans (hB4.mono hB3.out.size)); clear hB4))
  go_ret2
  exact ⟨_, rfl, hE.out⟩
/-- A group was under way: it is done, or the disk dies again. -/
theorem open_noted (h : Sys w0 d g n mem writes left w) (hl : left ≠ 0) (hlo : LeftOk left) (hw : 0 ≤ writes ∧ writes < 500000000) (at_ most : Nat) (hm : 1 ≤ most ∧ most ≤ 200) (hat : at_ + needN most ≤ n) (l : Grp) (h1 : 1 ≤ l.length) (h2 : l.length ≤ most) (hg : Good n at_ (needN most) l) (hn : Noted at_ l mem) :
    Calls Tryz.prog 56 #[ptr d, .int .i64 at_, .int .i64 most] w fun e w' => Apart [d, g] w w' ∧
      ((∃ jb left', e = .returned (.tuple #[ptr jb, .nilIface]) ∧ JAt jb d at_ most w' ∧ w.heap.size ≤ jb ∧ Sys w0 d g n (laid (settleWs at_ l) mem) (writes + (settleWs at_ l).length) left' w' ∧ LeftOk left' ∧ (left = -1 → left' = -1)) ∨
       (∃ b k, e = .returned (.tuple #[.pointer none, flt b]) ∧ k < (settleWs at_ l).length ∧ Sys w0 d g n (laid ((settleWs at_ l).take k) mem) (writes + k) 0 w' ∧ left ≠ -1)) := by
  have hfew := h.disk.few
  have hN := hidden (need_calls most hm.1 (by omega) w)
  have hBl := hidden (sys_blocks h)
  have hdl := h.disk.lt
  have hB0 : Below w.heap.size w (w.alloc (.cells #[ptr d, .int .i64 at_, .int .i64 most] 130)) := (Below.refl _ _).alloc (Nat.le_refl _) _
  have hJ0 : JAt w.heap.size d at_ most (w.alloc (.cells #[ptr d, .int .i64 at_, .int .i64 most] 130)) := ⟨by simp, by simp, by simp⟩
  have hsz : 1 + size l ≤ needN most := by
    have e : size l = rowsN l.length + l.length := rfl
    have e2 := rowsN_mono h2
    unfold needN
    omega
  have hjd : w.heap.size ≠ d ∧ w.heap.size ≠ g := by omega
  have hF := hidden (fin_noted (h.more hB0) hl hlo hw _ at_ most hJ0 hjd l h1 (hg.less hsz) (by omega) hn)
  have hJ := hidden hJ0
  have hB := hidden hB0
  have hc : ¬ ((n : Int) - ((needN most : Nat) : Int) < (at_ : Int)) := by omega
  have hc2 : (needN most : Int) ≤ 3000 := by omega
  clear h hn hat hB0 hJ0 hg hsz
  generalize needN most = own at hN hc hc2
  have hm1 : ¬ (most : Int) < 1 := by omega
  have hm2 : ¬ (200 : Int) < (most : Int) := by omega
  replace hdl := hidden hdl
  replace hjd := hidden hjd
  go_enter Tryz.func56, Tryz.ntmps56
  go_wp2_with (first
    | (go_at_call 92; refine (hBl.out).mono ?_; rintro ev w1 ⟨rfl, rfl⟩)
    | (go_at_call 73; refine (hN.out).mono ?_; rintro ev w1 ⟨rfl, rfl⟩))
  refine (hF.out).mono ?_
  rintro ev w2 ⟨r, rfl, hW⟩
  have hW' := hW.from hB.out
  rename_i w1 _
  rcases hW'.out with ⟨rfl, left1, hE⟩ | ⟨k, b, i, hk, rfl, hc9, hb, hS3, hl3⟩
  · have hE2 := hidden (And.intro hW'.apart (And.intro (hJ.out.keep hW.apart (by simp; exact hjd.out)) hE))
    clear hW hW' hF hE
    go_wp2
    go_ret2
    exact ⟨hE2.out.1, Or.inl ⟨_, left1, rfl, hE2.out.2.1, Nat.le_refl _, hE2.out.2.2⟩⟩
  · have hA := hidden hW'.apart
    replace hS3 := hidden hS3
    replace hl3 := hidden hl3
    have hcH := hidden hc9
    replace hk := hidden hk
    clear hW hW' hF hc9
    go_wp2_with fail
    refine (jwrong_some w2 _ (num 50) _ _ hcH.out).mono ?_
    rintro ev w4 ⟨b4, rfl, -, -, hB4⟩
    have hE := hidden (And.intro (hA.out.trans (Apart.of_below hB4)) (hS3.out.more hB4))
    clear hB4 hA hS3 hcH
    go_wp2
    go_ret2
    exact ⟨hE.out.1, Or.inr ⟨_, k, rfl, hk.out, hE.out.2, hl3.out⟩⟩
end
end Go.Proofs.YtopegpjkkicjhaaGreatDoor
