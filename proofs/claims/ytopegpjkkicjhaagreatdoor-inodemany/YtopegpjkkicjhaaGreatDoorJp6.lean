/- The journal's wrong, finish and commit. -/
import Derived.Test.YtopegpjkkicjhaaGreatDoorJp5
import Derived.Test.YtopegpjkkicjhaaGreatDoorJp2
namespace Go.Proofs.YtopegpjkkicjhaaGreatDoor
open Go.RowKit Go.Extern.Stop Go.Stop Go.Extern
set_option maxRecDepth 100000

abbrev sJournal : ByteArray := ⟨#[106, 111, 117, 114, 110, 97, 108]⟩
abbrev sNone : ByteArray := ⟨#[]⟩
theorem jwrong_nil (w : World) : Calls Tryz.prog 74 #[.nilIface] w fun e w' => e = .returned .nilIface ∧ w' = w := by
  go_enter Tryz.func74, Tryz.ntmps74
  go_wp2_with fail
  refine (wrap_nil _ _ _).mono ?_
  rintro ev w1 ⟨rfl, rfl⟩
  go_wp2
  go_ret
  exact ⟨rfl, rfl⟩
theorem jwrong_some (w : World) (l : List (ByteArray × ByteArray)) (bot : Value) (u : TypeId) (v : Value) (hc : Chain w l bot (.iface u v)) :
    Calls Tryz.prog 74 #[.iface u v] w fun e w' => ∃ b, e = .returned (flt b) ∧ Chain w' ((sJournal, sNone) :: l) bot (flt b) ∧ w.heap.size ≤ b ∧ Below w.heap.size w w' := by
  replace hc := hidden hc
  go_enter Tryz.func74, Tryz.ntmps74
  go_wp2_with fail
  refine (wrap_some sJournal sNone _ _ w).mono ?_
  rintro ev w1 ⟨rfl, rfl⟩
  go_wp2
  go_ret
  exact ⟨_, rfl, Chain.alloc (w := w) sJournal sNone hc.out, Nat.le_refl _, (Below.refl _ _).alloc (Nat.le_refl _) _⟩
theorem Wrote.from {w0 : World} {d g n : Nat} {ws : Grp} {mem : Nat → Int} {writes left : Int} {r : Value} {w w1 w' : World} (hb : Below w.heap.size w w1) (h : Wrote w0 d g n ws mem writes left r w1 w') : Wrote w0 d g n ws mem writes left r w w' := by
  refine ⟨(Apart.of_below hb).trans h.apart, ?_⟩
  rcases h.out with h' | ⟨k, b, i, h1, h2, h3, h4, h5⟩
  · exact Or.inl h'
  · exact Or.inr ⟨k, b, i, h1, h2, h3, Nat.le_trans hb.size h4, h5⟩
theorem Wrote.append {w0 : World} {d g n : Nat} {ws ws2 : Grp} {mem : Nat → Int} {writes left left1 : Int} {r : Value} {w w1 w' : World} (ha : Apart [d, g] w w1) (hl : left = -1 → left1 = -1) (h2 : Wrote w0 d g n ws2 (laid ws mem) (writes + ws.length) left1 r w1 w') : Wrote w0 d g n (ws ++ ws2) mem writes left r w w' := by
  refine ⟨ha.trans h2.apart, ?_⟩
  rcases h2.out with ⟨rfl, l2, hS, h3, h4⟩ | ⟨k, b, i, h3, h4, h5, h6, h7, h8⟩
  · refine Or.inl ⟨rfl, l2, ?_, h3, fun e => h4 (hl e)⟩
    rw [laid_append, List.length_append]
    have e : writes + ((ws.length + ws2.length : Nat) : Int) = writes + ws.length + ws2.length := by omega
    rw [e]; exact hS
  · refine Or.inr ⟨ws.length + k, b, i, by rw [List.length_append]; omega, h4, h5, Nat.le_trans ha.size h6, ?_, fun e => h8 (hl e)⟩
    rw [List.take_length_add_append, laid_append]
    have e : writes + ((ws.length + k : Nat) : Int) = writes + ws.length + k := by omega
    rw [e]; exact h7
theorem Wrote.begin {w0 : World} {d g n : Nat} {ws ws2 : Grp} {mem : Nat → Int} {writes left : Int} {b : Nat} {w w' : World} (h : Wrote w0 d g n ws mem writes left (flt b) w w') : Wrote w0 d g n (ws ++ ws2) mem writes left (flt b) w w' := by
  refine ⟨h.apart, ?_⟩
  rcases h.out with ⟨h1, -⟩ | ⟨k, b, i, h3, h4, h5, h6, h7, h8⟩
  · cases h1
  · exact Or.inr ⟨k, b, i, by rw [List.length_append]; omega, h4, h5, h6, by rw [List.take_append_of_le_length (by omega)]; exact h7, h8⟩
section
variable {w0 : World} {d g n : Nat} {mem : Nat → Int} {writes left : Int} {w : World}
theorem fin_dead (h : Sys w0 d g n mem writes 0 w) (jb at_ most : Nat) (hj : JAt jb d at_ most w) (hat : at_ < n) :
    Calls Tryz.prog 93 #[ptr jb] w fun e w' => ∃ b, e = .returned (flt b) ∧ Chain w' [(sDisk, itoaB at_)] (num 50) (flt b) ∧ w.heap.size ≤ b ∧ Below w.heap.size w w' := by
  have hU := hidden (under_dead h jb at_ most hj hat)
  clear h hj
  go_enter Tryz.func93, Tryz.ntmps93
  go_wp2_with fail
  refine (hU.out).mono ?_
  rintro ev w1 ⟨b, rfl, hE⟩
  replace hE := hidden hE
  go_wp2
  go_ret
  exact ⟨b, rfl, hE.out⟩
theorem fin_idle (h : Sys w0 d g n mem writes left w) (hl : left ≠ 0) (jb at_ most : Nat) (hj : JAt jb d at_ most w) (hat : at_ < n) (hi : Idle at_ mem) :
    Calls Tryz.prog 93 #[ptr jb] w fun e w' => e = .returned .nilIface ∧ Below w.heap.size w w' := by
  have hU := hidden (under_idle h hl jb at_ most hj hat hi)
  clear h hj hi
  go_enter Tryz.func93, Tryz.ntmps93
  go_wp2_with fail
  refine (hU.out).mono ?_
  rintro ev w1 ⟨rfl, hE⟩
  replace hE := hidden hE
  go_wp2
  go_ret
  exact ⟨rfl, hE.out⟩
theorem fin_noted (h : Sys w0 d g n mem writes left w) (hl : left ≠ 0) (hlo : LeftOk left) (hw : 0 ≤ writes ∧ writes < 500000000) (jb at_ most : Nat) (hj : JAt jb d at_ most w) (hjd : jb ≠ d ∧ jb ≠ g) (l : Grp) (h1 : 1 ≤ l.length) (hg : Good n at_ (1 + size l) l) (hat : at_ + (1 + size l) ≤ n) (hn : Noted at_ l mem) :
    Calls Tryz.prog 93 #[ptr jb] w fun e w' => ∃ r, e = .returned r ∧ Wrote w0 d g n (settleWs at_ l) mem writes left r w w' := by
  have hU := hidden (under_noted h hl jb at_ most hj l h1 hg hat hn)
  have hS := hidden h
  have hJ := hidden hj
  have hgd := hidden hg
  have hat2 : at_ < n := by omega
  have hl2 := hg.few
  clear h hj hn hg hat
  go_enter Tryz.func93, Tryz.ntmps93
  go_wp2_with fail
  refine (hU.out).mono ?_
  rintro ev w1 ⟨v, rfl, hV, ⟨a, c, rfl⟩, hB⟩
  have hne : ((l.length : Int) == 0) = false := beq_eq_false_iff_ne.2 (by omega)
  have hSe := hidden (settle_calls (hS.out.more hB) jb at_ most (hJ.out.below hB) hjd hat2 l _ hgd.out h1 _ hV hlo hw)
  replace hB := hidden hB
  clear hU hV
  go_wp2_with fail
  refine (hSe.out).mono ?_
  rintro ev w2 ⟨r, rfl, hW⟩
  have hE := hidden (hW.from hB.out)
  clear hW hSe
  go_wp2
  go_ret
  exact ⟨r, rfl, hE.out⟩
theorem rowsN_mono {a b : Nat} (h : a ≤ b) : rowsN a ≤ rowsN b := by unfold rowsN; omega
abbrev allWs (at_ : Nat) (l : Grp) : Grp := noteWs at_ l ++ settleWs at_ l
theorem do_calls (h : Sys w0 d g n mem writes left w) (hlo : LeftOk left) (hw : 0 ≤ writes ∧ writes < 400000000) (jb at_ most : Nat) (hj : JAt jb d at_ most w) (hjd : jb ≠ d ∧ jb ≠ g) (hi : Idle at_ mem) (l : Grp) (h1 : 1 ≤ l.length) (own : Nat) (hg : Good n at_ own l) (hat : at_ + (1 + size l) ≤ n) (v : Value) (hv : GOff d g w v (up l)) :
    Calls Tryz.prog 75 #[ptr jb, v] w fun e w' => ∃ r, e = .returned r ∧ Wrote w0 d g n (allWs at_ l) mem writes left r w w' := by
  have hS := hidden h
  have hJ := hidden hj
  have hgd := hidden hg
  have hV := hidden hv
  have hat2 : at_ < n := by omega
  have hl2 := hg.few
  have hrl := rowsN_le l.length
  have hnl : (noteWs at_ l).length ≤ 401 := by rw [note_len]; show rowsN l.length + l.length + 1 ≤ 401; omega
  have hat3 : at_ + 1 + size l ≤ n := by omega
  obtain ⟨a, c, rfl, -, -⟩ := hv.at
  rw [up_len] at hV ⊢
  by_cases hl : left = 0
  · subst hl
    have hF := hidden (fin_dead h jb at_ most hj hat2)
    clear h hj hg hv hi hat hnl hat3
    go_enter Tryz.func75, Tryz.ntmps75
    go_wp2_with fail
    refine (hF.out).mono ?_
    rintro ev w1 ⟨b, rfl, hE⟩
    replace hE := hidden hE
    go_wp2
    go_ret
    refine ⟨_, rfl, Apart.of_below hE.out.2.2, Or.inr ⟨0, b, _, by rw [List.length_append, note_len]; omega, rfl, hE.out.1, hE.out.2.1, ?_, by decide⟩⟩
    simpa [laid] using hS.out.more hE.out.2.2
  · have hF := hidden (fin_idle h hl jb at_ most hj hat2 hi)
    clear h hj hg hv hi hat
    go_enter Tryz.func75, Tryz.ntmps75
    go_wp2_with fail
    refine (hF.out).mono ?_
    rintro ev w1 ⟨rfl, hB⟩
    have hN := hidden (note_calls (hS.out.more hB) jb at_ most (hJ.out.below hB) hjd l own hgd.out hat3 h1 _ (hV.out.below hB) hlo (by omega))
    replace hB := hidden hB
    clear hF
    go_wp2_with fail
    refine (hN.out).mono ?_
    rintro ev w2 ⟨r, rfl, hW⟩
    have hW' := hW.from hB.out
    rcases hW.out with ⟨rfl, left1, hS1, hl1, hll⟩ | ⟨-, b, -, -, rfl, -⟩
    · have hSe := hidden (settle_calls hS1 jb at_ most ((hJ.out.below hB.out).keep hW.apart (by simp; exact hjd)) hjd hat2 l own hgd.out h1 _ ((hV.out.below hB.out).keep hW.apart) hl1 (by omega))
      have hA := hidden hW'.apart
      replace hll := hidden hll
      clear hW hW' hN hS1
      go_wp2_with fail
      refine (hSe.out).mono ?_
      rintro ev w3 ⟨r, rfl, hW3⟩
      have hE := hidden (Wrote.append hA.out hll.out hW3)
      clear hW3 hSe
      go_wp2
      go_ret
      exact ⟨r, rfl, hE.out⟩
    · have hE := hidden (hW'.begin (ws2 := settleWs at_ l))
      clear hW hW' hN
      go_wp2
      go_ret
      exact ⟨_, rfl, hE.out⟩
end
end Go.Proofs.YtopegpjkkicjhaaGreatDoor
