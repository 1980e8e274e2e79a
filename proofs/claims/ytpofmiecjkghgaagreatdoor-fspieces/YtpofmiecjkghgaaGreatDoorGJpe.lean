/- The journal's underWay, where a group is noted. -/
import Derived.Test.YtpofmiecjkghgaaGreatDoorGJpd
import Derived.Test.YtpofmiecjkghgaaGreatDoorGJpc
import Derived.Test.YtpofmiecjkghgaaGreatDoorGJpb
namespace Go.Proofs.YtpofmiecjkghgaaGreatDoor
open Go.RowKit Go.Extern.Stop Go.Stop Go.Extern
set_option maxRecDepth 100000
theorem Good.ok {N at_ own : Nat} {l : Grp} (h : Good N at_ own l) : ∀ k, k < (up l).length -> OkAt N at_ own (up l) k := fun k hk => by
  rw [up_len] at hk
  have e : ∀ j, xno (up l) j = (nob l j : Int) := fun j => by show ((up l).getD j (0, [])).1 = _; rw [up_get]
  have e2 : xdat (up l) k = dat l k := by show ((up l).getD k (0, [])).2 = _; rw [up_get]
  refine ⟨by rw [e]; omega, by rw [e]; have := h.no k hk; omega, fun j hj => ?_, by rw [e2]; exact h.len k hk, by rw [e]; have := h.out k hk; omega⟩
  rw [e, e]
  have := h.once k j hk hj
  omega
theorem Took.good {N at_ own : Nat} {xs : List (Int × List Int)} {e : Ending} (h : Took N at_ own xs e) (hg : ∀ k, k < xs.length -> OkAt N at_ own xs k) : e = .returned (.bool true) := by
  obtain ⟨r, rfl, hr⟩ := h
  rw [hr.2 hg]
theorem Took.bad {N at_ own : Nat} {xs : List (Int × List Int)} {e : Ending} (h : Took N at_ own xs e) (hg : ¬ ∀ k, k < xs.length -> OkAt N at_ own xs k) : e = .returned (.bool false) := by
  obtain ⟨r, rfl, hr⟩ := h
  cases r
  · rfl
  · exact absurd (hr.1 rfl) hg
set_option maxHeartbeats 2000000 in
theorem under_noted {w0 : World} {d g n : Nat} {mem : Nat -> Int} {writes left : Int} {w : World} (h : Sys w0 d g n mem writes left w) (hl : left ≠ 0) (jb at_ most : Nat) (hj : JAt jb d at_ most w) (l : Grp) (h1 : 1 <= l.length) (hg : Good n at_ (1 + size l) l) (hat : at_ + (1 + size l) <= n) (hn : Noted at_ l mem) :
    Calls Tryz.prog 244 #[ptr jb] w fun e w' => ∃ v, e = .returned (.tuple #[v, .nilIface]) /\ GOff d g w' v (up l) /\ (∃ a c, v = .slice a l.length c) /\ Below w.heap.size w w' := by
  have hfew := h.disk.few
  have hllen := hg.few
  have hdl := h.disk.lt
  have hrl := rowsN_le l.length
  have hB0 : Below w.heap.size w w.drew := (Below.refl _ _).drew
  have kR := hidden (sys_read (h.more hB0) at_ (by omega) hl)
  rw [hn.head] at kR
  have hspan := hidden (noted_span hg hn)
  have hbl : Hid ((bodyL l).length = size l * 128) := hidden (bodyK_len l hg.len _ (Nat.le_refl _))
  have j0 := hj.c0
  have j1 := hj.c1
  have hS := hidden h
  have hJ := hidden hj
  have hgd := hidden hg
  have hcnt := hidden (head_count l.length (by omega) (bodyL l))
  have hdig := hidden (head_digest l.length (bodyL l))
  have hhl := hidden (headL_len l.length (bodyL l))
  have hsz : size l = rowsN l.length + l.length := rfl
  generalize hH : headG l = H at kR
  rw [show headL l.length (bodyL l) = H from hH] at hcnt hdig hhl
  replace hH := hidden hH
  have hat' : at_ + (1 + (rowsN l.length + l.length)) <= n := hat
  clear h hj hn hg hat
  replace hB0 := hidden hB0
  go_enter Tryz.func244, Tryz.ntmps244
  go_upto_region 1 with fail
  go_cut [4, 5] (fun x y wx => y = .nilIface /\ ∃ hb, x = .slice (some ⟨hb, 0, none⟩) 128 128 /\ BytesAt wx (.slice (some ⟨hb, 0, none⟩) 128 128) H /\ Below w.heap.size w wx)
  case first =>
    go_region_with (go_at_call 94; refine (kR.out).mono ?_; rintro ev w3 ⟨b3, rfl, hE, -, -, -, hB3⟩; replace hE := hidden hE; replace hB3 := hidden hB3)
    all_goals (go_wp2; go_meet; case rel => exact ⟨rfl, b3, rfl, hE.out, hB0.out.trans (hB3.out.mono hB0.out.size)⟩)
  case rest =>
    obtain ⟨rfl, hb, rfl, hBy, hB⟩ := hcut
    clear kR hB0 j0 j1
    have hG := hidden (get_calls H _ 0 _ hBy (by rw [hhl.out]; omega) (by rw [hhl.out]; omega))
    rw [hcnt.out] at hG
    replace hBy := hidden hBy
    replace hB := hidden hB
    go_wp2_with fail
    refine (hG.out).mono ?_
    rintro ev w4 ⟨rfl, rfl⟩
    clear hG
    have j0 := (hJ.out.below hB.out).c0
    have j1 := (hJ.out.below hB.out).c1
    have hS4 := hidden (hS.out.more hB.out)
    have c1 : decide ((l.length : Int) < 1) = false := decide_eq_false (by omega)
    have c2 : decide ((200 : Int) < (l.length : Int)) = false := decide_eq_false (by omega)
    have c3 : decide ((n : Int) < (at_ : Int) + ((1 + (rowsN l.length + l.length) : Nat) : Int)) = false := decide_eq_false (by omega)
    go_wp2_with fail
    go_quiet (first
      | (go_at_call 292; exact Calls.quiet_of_same (room_calls l.length (by omega) _))
      | (go_at_call 104; exact Calls.quiet_of_same (sys_blocks (hS4.out.more (below_drewN (Below.refl _ _) _)))))
    have hB5 : Below w.heap.size w (w4.drewN nq) := below_drewN hB.out nq
    have hBy5 : BytesAt (w4.drewN nq) (.slice (some ⟨hb, 0, none⟩) 128 128) H := hBy.out.below (below_drewN (Below.refl _ _) nq)
    generalize w4.drewN nq = w5 at hB5 hBy5 ⊢
    clear hB hBy hS4 j0 j1 c1 c2 c3
    have j0 := (hJ.out.below hB5).c0
    have j1 := (hJ.out.below hB5).c1
    have hq1 : IntKind.i64.wrap ((at_ : Int) + 1) = ((at_ + 1 : Nat) : Int) := wrap_pos _ (by omega) (by omega)
    have hq2 : IntKind.i64.wrap ((rowsN l.length : Int) + (l.length : Int)) = ((rowsN l.length + l.length : Nat) : Int) := wrap_pos _ (by omega) (by omega)
    have kS : ∀ (wx : World) (s m : Int), s = ((at_ + 1 : Nat) : Int) -> m = ((rowsN l.length + l.length : Nat) : Int) -> Below w5.heap.size w5 wx -> Calls Tryz.prog 293 #[ptr jb, .int .i64 s, .int .i64 m] wx fun e w' => ∃ b cap, e = .returned (.tuple #[.slice (some ⟨b, 0, none⟩) (size l * 128) cap, .nilIface]) /\ OwnB w5.heap.size w' b (size l * 128) cap (bodyL l) /\ Below w5.heap.size w5 w' := fun wx s m hs hm hx => by
      subst hs hm
      have hBx := hB5.trans (hx.mono hB5.size)
      refine (span_calls (hS.out.more hBx) hl jb at_ most (hJ.out.below hBx) (at_ + 1) (rowsN l.length + l.length) (by omega) (by omega)).mono ?_
      rintro e w' ⟨b, cap, rfl, hO, hB⟩
      rw [show spanL mem (at_ + 1) (rowsN l.length + l.length) = bodyL l from hspan.out] at hO
      exact ⟨b, cap, rfl, hO.mono hx.size, hx.trans (hB.mono hx.size)⟩
    replace kS := hidden kS
    replace hB5 := hidden hB5
    replace hBy5 := hidden hBy5
    go_upto_region 8 with fail
    go_cut [8, 5] (fun x y wx => y = .nilIface /\ ∃ b cap, x = .slice (some ⟨b, 0, none⟩) (size l * 128) cap /\ OwnB w5.heap.size wx b (size l * 128) cap (bodyL l) /\ Below w5.heap.size w5 wx)
    case first =>
      go_region_with (first
        | (go_at_call 202; refine (rows_calls l.length (by omega) _).mono ?_; rintro ev w3 ⟨rfl, rfl⟩)
        | (go_at_call 293; refine (kS.out _ _ _ (by first | exact hq1 | rfl | omega) (by first | exact hq2 | rfl | omega) (Below.refl _ _).drew).mono ?_; rintro ev w3 ⟨b3, cap3, rfl, hE⟩; replace hE := hidden hE))
      all_goals (go_wp2; go_meet; case rel => exact ⟨rfl, b3, cap3, rfl, hE.out⟩)
    case rest =>
      obtain ⟨rfl, b6, cap6, rfl, hO6, hB6⟩ := hcut
      rename_i w6
      clear kS j0 j1
      have hcap := hO6.caps.1
      have hGr := hidden (group_calls l hgd.out.len (fun j hj => by have := hgd.out.no j hj; omega) h1 hllen b6 (size l * 128) cap6 _ rfl hO6.bytes hcap)
      have hb6 := hO6.lt
      replace hO6 := hidden hO6
      replace hB6 := hidden hB6
      generalize hM : size l * 128 = M at hGr hO6 hcap ⊢
      replace hM := hidden hM
      go_wp2_with fail
      refine (hGr.out).mono ?_
      rintro ev w7 ⟨gb, rfl, hgb, hB7, hK7⟩
      have hB57 : Below w5.heap.size w5 w7 := hB6.out.trans (hB7.mono hB6.out.size)
      have hO7 := hO6.out.below hB7
      have hBy7 := hBy5.out.below hB57
      have hG1 := hidden (get_calls H _ 1 w7 hBy7 (by rw [hhl.out]; omega) (by rw [hhl.out]; omega))
      rw [hdig.out] at hG1
      have hDg := hidden (digest_calls hb 0 128 128 H (bodyL l) _ w7 hBy7 hhl.out (by omega) (by omega) (by omega) hO7.bytes)
      replace hK7 := hidden hK7
      replace hB57 := hidden hB57
      have hDe : (digestL H (bodyL l) == digestL H (bodyL l)) = true := by simp
      generalize digestL H (bodyL l) = D at hG1 hDg hDe
      clear hGr hO6 hB6 hB7 hO7 hBy7
      go_wp2_with fail
      refine (hG1.out).mono ?_
      rintro ev w8 ⟨rfl, rfl⟩
      go_wp2_with fail
      refine (hDg.out).mono ?_
      rintro ev w9 ⟨rfl, hB9⟩
      have hB59 : Below w5.heap.size w5 w9 := hB57.out.trans (hB9.mono hB57.out.size)
      have hBw9 := hB5.out.trans (hB59.mono hB5.out.size)
      have hgne : gb ∉ [d, g] /\ b6 ∉ [d, g] := by
        have e1 := hB5.out.size
        have e2 := hB59.size
        constructor
        · simp; omega
        · simp; omega
      have hT := hidden (takes_calls (hS.out.more hBw9) jb at_ most (1 + (rowsN l.length + l.length)) (hJ.out.below hBw9) (by omega) _ _ (hK7.out [] w9 (Apart.of_below hB9) (by simp) (by simp)))
      have hR9 := hidden (room_calls l.length (by omega) w9)
      have hGO : Hid (∀ w'', Below w9.heap.size w9 w'' -> GOff d g w'' (.slice (some ⟨gb, 0, none⟩) l.length l.length) (up l)) := hidden fun w'' hx w3 h3 => hK7.out [d, g] w3 (((Apart.of_below hB9).trans (Apart.of_below hx)).trans h3) hgne.1 hgne.2
      have hBw := hidden hBw9
      clear hG1 hDg hK7 hB57 hB59 hBw9 hB9
      go_wp2_with fail
      refine (hR9.out).mono ?_
      rintro ev w10 ⟨rfl, rfl⟩
      go_wp2_with fail
      refine (hT.out).mono ?_
      rintro ev w11 ⟨hT1, hB11⟩
      obtain rfl := hT1.good hgd.out.ok
      have hE := hidden (And.intro (hGO.out w11 hB11) (hBw.out.trans (hB11.mono hBw.out.size)))
      clear hT hT1 hB11 hGO hBw
      go_wp2
      go_ret2
      exact ⟨_, rfl, hE.out.1, ⟨_, _, rfl⟩, hE.out.2⟩
abbrev sJournal : ByteArray := ⟨#[106, 111, 117, 114, 110, 97, 108]⟩
abbrev sNone : ByteArray := ⟨#[]⟩
theorem jwrong_nil (w : World) : Calls Tryz.prog 199 #[.nilIface] w fun e w' => e = .returned .nilIface /\ w' = w := by
  go_enter Tryz.func199, Tryz.ntmps199
  go_wp2_with fail
  refine (wrap_nil _ _ _).mono ?_
  rintro ev w1 ⟨rfl, rfl⟩
  go_wp2
  go_ret
  exact ⟨rfl, rfl⟩
theorem jwrong_some (w : World) (l : List (ByteArray × ByteArray)) (bot : Value) (u : TypeId) (v : Value) (hc : Chain w l bot (.iface u v)) :
    Calls Tryz.prog 199 #[.iface u v] w fun e w' => ∃ b, e = .returned (flt b) /\ Chain w' ((sJournal, sNone) :: l) bot (flt b) /\ w.heap.size <= b /\ Below w.heap.size w w' := by
  replace hc := hidden hc
  go_enter Tryz.func199, Tryz.ntmps199
  go_wp2_with fail
  refine (wrap_some sJournal sNone _ _ w).mono ?_
  rintro ev w1 ⟨rfl, rfl⟩
  go_wp2
  go_ret
  exact ⟨_, rfl, Chain.alloc (w := w) sJournal sNone hc.out, Nat.le_refl _, (Below.refl _ _).alloc (Nat.le_refl _) _⟩
theorem Wrote.from {w0 : World} {d g n : Nat} {ws : Grp} {mem : Nat -> Int} {writes left : Int} {r : Value} {w w1 w' : World} (hb : Below w.heap.size w w1) (h : Wrote w0 d g n ws mem writes left r w1 w') : Wrote w0 d g n ws mem writes left r w w' := by
  refine ⟨(Apart.of_below hb).trans h.apart, ?_⟩
  rcases h.out with h' | ⟨k, b, i, h1, h2, h3, h4, h5⟩
  · exact Or.inl h'
  · exact Or.inr ⟨k, b, i, h1, h2, h3, Nat.le_trans hb.size h4, h5⟩
theorem Wrote.append {w0 : World} {d g n : Nat} {ws ws2 : Grp} {mem : Nat -> Int} {writes left left1 : Int} {r : Value} {w w1 w' : World} (ha : Apart [d, g] w w1) (hl : left = -1 -> left1 = -1) (h2 : Wrote w0 d g n ws2 (laid ws mem) (writes + ws.length) left1 r w1 w') : Wrote w0 d g n (ws ++ ws2) mem writes left r w w' := by
  refine ⟨ha.trans h2.apart, ?_⟩
  rcases h2.out with ⟨rfl, l2, hS, h3, h4⟩ | ⟨k, b, i, h3, h4, h5, h6, h7, h8⟩
  · refine Or.inl ⟨rfl, l2, ?_, h3, fun e => h4 (hl e)⟩
    rw [laid_append, List.length_append]
    have e : writes + ((ws.length + ws2.length : Nat) : Int) = writes + ws.length + ws2.length := by omega
    rw [e]; exact hS
  · refine Or.inr ⟨ws.length + k, b, i, by rw [List.length_append]; omega, h4, h5, Nat.le_trans ha.size h6, ?_, fun e => h8 (hl e)⟩
    rw [List.take_length_add_append, laid_append]
    have e : writes + ((ws.length + k : Nat) : Int) = writes + ws.length + k := by omega
    rw [e]; exact h7
theorem Wrote.begin {w0 : World} {d g n : Nat} {ws ws2 : Grp} {mem : Nat -> Int} {writes left : Int} {b : Nat} {w w' : World} (h : Wrote w0 d g n ws mem writes left (flt b) w w') : Wrote w0 d g n (ws ++ ws2) mem writes left (flt b) w w' := by
  refine ⟨h.apart, ?_⟩
  rcases h.out with ⟨h1, -⟩ | ⟨k, b, i, h3, h4, h5, h6, h7, h8⟩
  · cases h1
  · exact Or.inr ⟨k, b, i, by rw [List.length_append]; omega, h4, h5, h6, by rw [List.take_append_of_le_length (by omega)]; exact h7, h8⟩
section
variable {w0 : World} {d g n : Nat} {mem : Nat -> Int} {writes left : Int} {w : World}
theorem fin_dead (h : Sys w0 d g n mem writes 0 w) (jb at_ most : Nat) (hj : JAt jb d at_ most w) (hat : at_ < n) :
    Calls Tryz.prog 200 #[ptr jb] w fun e w' => ∃ b, e = .returned (flt b) /\ Chain w' [(sDisk, itoaB at_)] (num 50) (flt b) /\ w.heap.size <= b /\ Below w.heap.size w w' := by
  have hU := hidden (under_dead h jb at_ most hj hat)
  clear h hj
  go_enter Tryz.func200, Tryz.ntmps200
  go_wp2_with fail
  refine (hU.out).mono ?_
  rintro ev w1 ⟨b, rfl, hE⟩
  replace hE := hidden hE
  go_wp2
  go_ret
  exact ⟨b, rfl, hE.out⟩
theorem fin_idle (h : Sys w0 d g n mem writes left w) (hl : left ≠ 0) (jb at_ most : Nat) (hj : JAt jb d at_ most w) (hat : at_ < n) (hi : Idle at_ mem) :
    Calls Tryz.prog 200 #[ptr jb] w fun e w' => e = .returned .nilIface /\ Below w.heap.size w w' := by
  have hU := hidden (under_idle h hl jb at_ most hj hat hi)
  clear h hj hi
  go_enter Tryz.func200, Tryz.ntmps200
  go_wp2_with fail
  refine (hU.out).mono ?_
  rintro ev w1 ⟨rfl, hE⟩
  replace hE := hidden hE
  go_wp2
  go_ret
  exact ⟨rfl, hE.out⟩
theorem fin_noted (h : Sys w0 d g n mem writes left w) (hl : left ≠ 0) (hlo : LeftOk left) (hw : 0 <= writes /\ writes < 500000000) (jb at_ most : Nat) (hj : JAt jb d at_ most w) (hjd : jb ≠ d /\ jb ≠ g) (l : Grp) (h1 : 1 <= l.length) (hg : Good n at_ (1 + size l) l) (hat : at_ + (1 + size l) <= n) (hn : Noted at_ l mem) :
    Calls Tryz.prog 200 #[ptr jb] w fun e w' => ∃ r, e = .returned r /\ Wrote w0 d g n (settleWs at_ l) mem writes left r w w' := by
  have hU := hidden (under_noted h hl jb at_ most hj l h1 hg hat hn)
  have hS := hidden h
  have hJ := hidden hj
  have hgd := hidden hg
  have hat2 : at_ < n := by omega
  have hl2 := hg.few
  clear h hj hn hg hat
  go_enter Tryz.func200, Tryz.ntmps200
  go_wp2_with fail
  refine (hU.out).mono ?_
  rintro ev w1 ⟨v, rfl, hV, ⟨a, c, rfl⟩, hB⟩
  have hne : ((l.length : Int) == 0) = false := beq_eq_false_iff_ne.2 (by omega)
  have hSe := hidden (settle_calls (hS.out.more hB) jb at_ most (hJ.out.below hB) hjd hat2 l _ hgd.out h1 _ hV hlo hw)
  replace hB := hidden hB
  clear hU hV
  go_wp2_with fail
  refine (hSe.out).mono ?_
  rintro ev w2 ⟨r, rfl, hW⟩
  have hE := hidden (hW.from hB.out)
  clear hW hSe
  go_wp2
  go_ret
  exact ⟨r, rfl, hE.out⟩
theorem rowsN_mono {a b : Nat} (h : a <= b) : rowsN a <= rowsN b := by unfold rowsN; omega
abbrev allWs (at_ : Nat) (l : Grp) : Grp := noteWs at_ l ++ settleWs at_ l
theorem do_calls (h : Sys w0 d g n mem writes left w) (hlo : LeftOk left) (hw : 0 <= writes /\ writes < 400000000) (jb at_ most : Nat) (hj : JAt jb d at_ most w) (hjd : jb ≠ d /\ jb ≠ g) (hi : Idle at_ mem) (l : Grp) (h1 : 1 <= l.length) (own : Nat) (hg : Good n at_ own l) (hat : at_ + (1 + size l) <= n) (v : Value) (hv : GOff d g w v (up l)) :
    Calls Tryz.prog 207 #[ptr jb, v] w fun e w' => ∃ r, e = .returned r /\ Wrote w0 d g n (allWs at_ l) mem writes left r w w' := by
  have hS := hidden h
  have hJ := hidden hj
  have hgd := hidden hg
  have hV := hidden hv
  have hat2 : at_ < n := by omega
  have hl2 := hg.few
  have hrl := rowsN_le l.length
  have hnl : (noteWs at_ l).length <= 401 := by rw [note_len]; show rowsN l.length + l.length + 1 <= 401; omega
  have hat3 : at_ + 1 + size l <= n := by omega
  obtain ⟨a, c, rfl, -, -⟩ := hv.at
  rw [up_len] at hV ⊢
  by_cases hl : left = 0
  · subst hl
    have hF := hidden (fin_dead h jb at_ most hj hat2)
    clear h hj hg hv hi hat hnl hat3
    go_enter Tryz.func207, Tryz.ntmps207
    go_wp2_with fail
    refine (hF.out).mono ?_
    rintro ev w1 ⟨b, rfl, hE⟩
    replace hE := hidden hE
    go_wp2
    go_ret
    refine ⟨_, rfl, Apart.of_below hE.out.2.2, Or.inr ⟨0, b, _, by rw [List.length_append, note_len]; omega, rfl, hE.out.1, hE.out.2.1, ?_, by decide⟩⟩
    simpa [laid] using hS.out.more hE.out.2.2
  · have hF := hidden (fin_idle h hl jb at_ most hj hat2 hi)
    clear h hj hg hv hi hat
    go_enter Tryz.func207, Tryz.ntmps207
    go_wp2_with fail
    refine (hF.out).mono ?_
    rintro ev w1 ⟨rfl, hB⟩
    have hN := hidden (note_calls (hS.out.more hB) jb at_ most (hJ.out.below hB) hjd l own hgd.out hat3 h1 _ (hV.out.below hB) hlo (by omega))
    replace hB := hidden hB
    clear hF
    go_wp2_with fail
    refine (hN.out).mono ?_
    rintro ev w2 ⟨r, rfl, hW⟩
    have hW' := hW.from hB.out
    rcases hW.out with ⟨rfl, left1, hS1, hl1, hll⟩ | ⟨-, b, -, -, rfl, -⟩
    · have hSe := hidden (settle_calls hS1 jb at_ most ((hJ.out.below hB.out).keep hW.apart (by simp; exact hjd)) hjd hat2 l own hgd.out h1 _ ((hV.out.below hB.out).keep hW.apart) hl1 (by omega))
      have hA := hidden hW'.apart
      replace hll := hidden hll
      clear hW hW' hN hS1
      go_wp2_with fail
      refine (hSe.out).mono ?_
      rintro ev w3 ⟨r, rfl, hW3⟩
      have hE := hidden (Wrote.append hA.out hll.out hW3)
      clear hW3 hSe
      go_wp2
      go_ret
      exact ⟨r, rfl, hE.out⟩
    · have hE := hidden (hW'.begin (ws2 := settleWs at_ l))
      clear hW hW' hN
      go_wp2
      go_ret
      exact ⟨_, rfl, hE.out⟩
end
structure Done (w0 : World) (d g n : Nat) (ws : Grp) (mem : Nat -> Int) (writes left : Int) (r : Value) (w w' : World) : Prop where
  apart : Apart [d, g] w w'
  out : (r = .nilIface /\ ∃ left', Sys w0 d g n (laid ws mem) (writes + ws.length) left' w' /\ LeftOk left' /\ (left = -1 -> left' = -1)) \/
    (∃ (k b : Nat) (i : Int), k < ws.length /\ r = flt b /\ Chain w' [(sJournal, sNone), (sDisk, itoaB i)] (num 50) (flt b) /\ w.heap.size <= b /\ Sys w0 d g n (laid (ws.take k) mem) (writes + k) 0 w' /\ left ≠ -1)
section
variable {w0 : World} {d g n : Nat} {mem : Nat -> Int} {writes left : Int} {w : World}
theorem commit_bad (h : Sys w0 d g n mem writes left w) (jb at_ most : Nat) (hm : 1 <= most /\ most <= 200) (hj : JAt jb d at_ most w) (hat : at_ + needN most <= n) (v : Value) (xs : List (Int × List Int)) (hv : GAt w v xs) (hb : ¬ ∀ k, k < xs.length -> OkAt n at_ (needN most) xs k) :
    Calls Tryz.prog 161 #[ptr jb, v] w fun e w' => ∃ b, e = .returned (flt b) /\ Chain w' [(sJournal, sNone)] (num 1) (flt b) /\ w.heap.size <= b /\ Below w.heap.size w w' := by
  have hfew := h.disk.few
  have hT := hidden (takes_calls h jb at_ most (needN most) hj (by omega) v xs hv)
  have hN := hidden (need_calls most hm.1 (by omega) w)
  have j2 := hj.c2
  clear h hj hv hat
  generalize needN most = own at hT hN hb
  replace hb := hidden hb
  go_enter Tryz.func161, Tryz.ntmps161
  go_wp2_with fail
  refine (hN.out).mono ?_
  rintro ev w1 ⟨rfl, rfl⟩
  go_wp2_with fail
  refine (hT.out).mono ?_
  rintro ev w2 ⟨hT2, hB2⟩
  obtain rfl := hT2.bad hb.out
  replace hB2 := hidden hB2
  clear hT2 hT hN
  go_wp2_with fail
  refine (jwrong_some w2 [] (num 1) _ _ rfl).mono ?_
  rintro ev w3 ⟨b, rfl, hc, hbs, hB3⟩
  have hE := hidden (And.intro hc (And.intro (Nat.le_trans hB2.out.size hbs) (hB2.out.trans (hB3.mono hB2.out.size))))
  clear hc hbs hB3
  go_wp2
  go_ret
  exact ⟨b, rfl, hE.out⟩
theorem commit_big (h : Sys w0 d g n mem writes left w) (jb at_ most : Nat) (hm : 1 <= most /\ most <= 200) (hj : JAt jb d at_ most w) (hat : at_ + needN most <= n) (v : Value) (xs : List (Int × List Int)) (hv : GAt w v xs) (hb : ∀ k, k < xs.length -> OkAt n at_ (needN most) xs k) (hbig : most < xs.length) :
    Calls Tryz.prog 161 #[ptr jb, v] w fun e w' => ∃ b, e = .returned (flt b) /\ Chain w' [(sJournal, sNone)] (num 5) (flt b) /\ w.heap.size <= b /\ Below w.heap.size w w' := by
  have hfew := h.disk.few
  have hT := hidden (takes_calls h jb at_ most (needN most) hj (by omega) v xs hv)
  have hN := hidden (need_calls most hm.1 (by omega) w)
  have j2 := hj.c2
  have hJ := hidden hj
  obtain ⟨a, c, rfl, hx, -⟩ := hv
  clear h hj hat
  generalize needN most = own at hT hN hb
  replace hb := hidden hb
  have hbig' : (most : Int) < (xs.length : Int) := by omega
  go_enter Tryz.func161, Tryz.ntmps161
  go_wp2_with fail
  refine (hN.out).mono ?_
  rintro ev w1 ⟨rfl, rfl⟩
  go_wp2_with fail
  refine (hT.out).mono ?_
  rintro ev w2 ⟨hT2, hB2⟩
  obtain rfl := hT2.good hb.out
  have j3 := (hJ.out.below hB2).c2
  replace hB2 := hidden hB2
  clear hT2 hT hN
  go_wp2_with fail
  refine (jwrong_some w2 [] (num 5) _ _ rfl).mono ?_
  rintro ev w3 ⟨b, rfl, hc, hbs, hB3⟩
  have hE := hidden (And.intro hc (And.intro (Nat.le_trans hB2.out.size hbs) (hB2.out.trans (hB3.mono hB2.out.size))))
  clear hc hbs hB3
  go_wp2
  go_ret
  exact ⟨b, rfl, hE.out⟩
theorem commit_none (h : Sys w0 d g n mem writes left w) (jb at_ most : Nat) (hm : 1 <= most /\ most <= 200) (hj : JAt jb d at_ most w) (hat : at_ + needN most <= n) (v : Value) (hv : GAt w v []) :
    Calls Tryz.prog 161 #[ptr jb, v] w fun e w' => e = .returned .nilIface /\ Below w.heap.size w w' := by
  have hfew := h.disk.few
  have hT := hidden (takes_calls h jb at_ most (needN most) hj (by omega) v [] hv)
  have hN := hidden (need_calls most hm.1 (by omega) w)
  have j2 := hj.c2
  have hJ := hidden hj
  obtain ⟨a, c, rfl, hx, -⟩ := hv
  clear h hj hat
  generalize needN most = own at hT hN
  simp only [List.length_nil] at hT ⊢
  go_enter Tryz.func161, Tryz.ntmps161
  go_wp2_with fail
  refine (hN.out).mono ?_
  rintro ev w1 ⟨rfl, rfl⟩
  go_wp2_with fail
  refine (hT.out).mono ?_
  rintro ev w2 ⟨hT2, hB2⟩
  obtain rfl := hT2.good (fun k hk => absurd hk (by simp))
  have j3 := (hJ.out.below hB2).c2
  replace hB2 := hidden hB2
  clear hT2 hT hN
  go_wp2
  go_ret
  exact ⟨rfl, hB2.out⟩
theorem commit_good (h : Sys w0 d g n mem writes left w) (hlo : LeftOk left) (hw : 0 <= writes /\ writes < 400000000) (jb at_ most : Nat) (hm : 1 <= most /\ most <= 200) (hj : JAt jb d at_ most w) (hjd : jb ≠ d /\ jb ≠ g) (hat : at_ + needN most <= n) (hi : Idle at_ mem) (l : Grp) (h1 : 1 <= l.length) (h2 : l.length <= most) (hg : Good n at_ (needN most) l) (v : Value) (hv : GOff d g w v (up l)) :
    Calls Tryz.prog 161 #[ptr jb, v] w fun e w' => ∃ r, e = .returned r /\ Done w0 d g n (allWs at_ l) mem writes left r w w' := by
  have hfew := h.disk.few
  have hT := hidden (takes_calls h jb at_ most (needN most) hj (by omega) v (up l) hv.at)
  have hN := hidden (need_calls most hm.1 (by omega) w)
  have j2 := hj.c2
  have hJ := hidden hj
  have hS := hidden h
  have hV := hidden hv
  have hgd := hidden hg
  replace hi := hidden hi
  have hat2 : at_ + (1 + size l) <= n := by
    have e : size l = rowsN l.length + l.length := rfl
    have e2 := rowsN_mono h2
    unfold needN at hat
    omega
  obtain ⟨a, c, rfl, -, -⟩ := hv.at
  rw [up_len] at hV hT ⊢
  clear h hj hat hv hg
  have hown : Hid (needN most = needN most) := hidden rfl
  generalize hon : needN most = own at hT hN hgd
  replace hon := hidden hon
  have h2' : ¬ (most : Int) < (l.length : Int) := by omega
  have h1' : ((l.length : Int) == 0) = false := beq_eq_false_iff_ne.2 (by omega)
  go_enter Tryz.func161, Tryz.ntmps161
  go_wp2_with fail
  refine (hN.out).mono ?_
  rintro ev w1 ⟨rfl, rfl⟩
  go_wp2_with fail
  refine (hT.out).mono ?_
  rintro ev w2 ⟨hT2, hB2⟩
  obtain rfl := hT2.good hgd.out.ok
  have j3 := (hJ.out.below hB2).c2
  have hC := hidden (do_calls (hS.out.more hB2) hlo hw jb at_ most (hJ.out.below hB2) hjd hi.out l h1 own hgd.out hat2 _ (hV.out.below hB2))
  replace hB2 := hidden hB2
  clear hT2 hT hN
  go_wp2_with fail
  refine (hC.out).mono ?_
  rintro ev w3 ⟨r, rfl, hW⟩
  have hW' := hW.from hB2.out
  rcases hW'.out with ⟨rfl, hE⟩ | ⟨k, b, i, hk, rfl, hc, hb, hS3, hl3⟩
  · have hE2 := hidden (And.intro hW'.apart hE)
    clear hW hW' hC hE
    go_wp2_with fail
    refine (jwrong_nil _).mono ?_
    rintro ev w4 ⟨rfl, rfl⟩
    go_wp2
    go_ret
    exact ⟨_, rfl, hE2.out.1, Or.inl ⟨rfl, hE2.out.2⟩⟩
  · have hA := hidden hW'.apart
    replace hS3 := hidden hS3
    replace hl3 := hidden hl3
    have hcH := hidden hc
    replace hk := hidden hk
    clear hW hW' hC
    go_wp2_with fail
    refine (jwrong_some w3 _ (num 50) _ _ hcH.out).mono ?_
    rintro ev w4 ⟨b4, rfl, hc4, hb4, hB4⟩
    have hE : Hid (Done w0 d g n (allWs at_ l) mem writes left (flt b4) w1 w4) := hidden ⟨hA.out.trans (Apart.of_below hB4), Or.inr ⟨k, b4, i, hk.out, rfl, hc4, Nat.le_trans hA.out.size hb4, hS3.out.more hB4, hl3.out⟩⟩
    clear hc4 hb4 hB4 hA hS3 hcH hc
    go_wp2
    go_ret
    exact ⟨_, rfl, hE.out⟩
end
section
variable {w0 : World} {d g n : Nat} {mem : Nat -> Int} {writes left : Int} {w : World}
theorem most_calls (jb at_ most : Nat) (hj : JAt jb d at_ most w) : Calls Tryz.prog 263 #[ptr jb] w fun e w' => e = .returned (.int .i64 most) /\ w' = w := by
  have j2 := hj.c2
  clear hj
  go_enter Tryz.func263, Tryz.ntmps263
  go_wp2
  go_ret
  exact ⟨rfl, rfl⟩
theorem jread_calls (h : Sys w0 d g n mem writes left w) (hl : left ≠ 0) (jb at_ most : Nat) (hj : JAt jb d at_ most w) (i : Nat) (hi : i < n) :
    Calls Tryz.prog 264 #[ptr jb, .int .i64 i] w fun e w' => ∃ v, e = .returned (.tuple #[v, .nilIface]) /\ BytesAt w' v (blockL mem i) /\ Below w.heap.size w w' := by
  have j0 := hj.c0
  have hR := hidden (sys_read h i hi hl)
  clear hj h
  go_enter Tryz.func264, Tryz.ntmps264
  go_wp2_with fail
  refine (hR.out).mono ?_
  rintro ev w1 ⟨b, rfl, hb, -, -, -, hB⟩
  have hE := hidden (And.intro hb hB)
  clear hb hB hR
  go_wp2_with fail
  refine (jwrong_nil _).mono ?_
  rintro ev w4 ⟨rfl, rfl⟩
  go_wp2
  go_ret2
  exact ⟨_, rfl, hE.out⟩
theorem open_idle (h : Sys w0 d g n mem writes left w) (hl : left ≠ 0) (at_ most : Nat) (hm : 1 <= most /\ most <= 200) (hat : at_ + needN most <= n) (hi : Idle at_ mem) :
    Calls Tryz.prog 151 #[ptr d, .int .i64 at_, .int .i64 most] w fun e w' => ∃ jb, e = .returned (.tuple #[ptr jb, .nilIface]) /\ JAt jb d at_ most w' /\ w.heap.size <= jb /\ Below w.heap.size w w' := by
  have hfew := h.disk.few
  have hN := hidden (need_calls most hm.1 (by omega) w)
  have hBl := hidden (sys_blocks h)
  have hB0 : Below w.heap.size w (w.alloc (.cells #[ptr d, .int .i64 at_, .int .i64 most] 247)) := (Below.refl _ _).alloc (Nat.le_refl _) _
  have hJ0 : JAt w.heap.size d at_ most (w.alloc (.cells #[ptr d, .int .i64 at_, .int .i64 most] 247)) := ⟨by simp, by simp, by simp⟩
  have hF := hidden (fin_idle (h.more hB0) hl _ at_ most hJ0 (by unfold needN at hat; omega) hi)
  have hJ := hidden hJ0
  have hB := hidden hB0
  have hc : ¬ ((n : Int) - ((needN most : Nat) : Int) < (at_ : Int)) := by omega
  have hc2 : (needN most : Int) <= 3000 := by omega
  clear h hi hat hB0 hJ0
  generalize needN most = own at hN hc hc2
  have hm1 : ¬ (most : Int) < 1 := by omega
  have hm2 : ¬ (200 : Int) < (most : Int) := by omega
  go_enter Tryz.func151, Tryz.ntmps151
  go_wp2_with (first
    | (go_at_call 104; refine (hBl.out).mono ?_; rintro ev w1 ⟨rfl, rfl⟩)
    | (go_at_call 154; refine (hN.out).mono ?_; rintro ev w1 ⟨rfl, rfl⟩)
    | (go_at_call 200; refine (hF.out).mono ?_; rintro ev w2 ⟨rfl, hB2⟩; have hJ2 := hidden (hJ.out.below hB2); have hB3 := hidden (hB.out.trans (hB2.mono hB.out.size)); clear hB2))
  go_ret2
  exact ⟨_, rfl, hJ2.out, Nat.le_refl _, hB3.out⟩
theorem open_dead (h : Sys w0 d g n mem writes 0 w) (at_ most : Nat) (hm : 1 <= most /\ most <= 200) (hat : at_ + needN most <= n) :
    Calls Tryz.prog 151 #[ptr d, .int .i64 at_, .int .i64 most] w fun e w' => ∃ b, e = .returned (.tuple #[.pointer none, flt b]) /\ Below w.heap.size w w' := by
  have hfew := h.disk.few
  have hN := hidden (need_calls most hm.1 (by omega) w)
  have hBl := hidden (sys_blocks h)
  have hB0 : Below w.heap.size w (w.alloc (.cells #[ptr d, .int .i64 at_, .int .i64 most] 247)) := (Below.refl _ _).alloc (Nat.le_refl _) _
  have hJ0 : JAt w.heap.size d at_ most (w.alloc (.cells #[ptr d, .int .i64 at_, .int .i64 most] 247)) := ⟨by simp, by simp, by simp⟩
  have hF := hidden (fin_dead (h.more hB0) _ at_ most hJ0 (by unfold needN at hat; omega))
  have hB := hidden hB0
  have hc : ¬ ((n : Int) - ((needN most : Nat) : Int) < (at_ : Int)) := by omega
  have hc2 : (needN most : Int) <= 3000 := by omega
  clear h hat hB0 hJ0
  generalize needN most = own at hN hc hc2
  have hm1 : ¬ (most : Int) < 1 := by omega
  have hm2 : ¬ (200 : Int) < (most : Int) := by omega
  go_enter Tryz.func151, Tryz.ntmps151
  go_wp2_with (first
    | (go_at_call 104; refine (hBl.out).mono ?_; rintro ev w1 ⟨rfl, rfl⟩)
    | (go_at_call 154; refine (hN.out).mono ?_; rintro ev w1 ⟨rfl, rfl⟩)
    | (go_at_call 200; refine (hF.out).mono ?_; rintro ev w2 ⟨b2, rfl, hc9, -, hB2⟩; have hB3 := hidden (hB.out.trans (hB2.mono hB.out.size)); clear hB2; replace hc9 := hidden hc9)
    | (go_at_call 199; refine (jwrong_some _ _ (num 50) _ _ hc9.out).mono ?_; rintro ev w4 ⟨b4, rfl, -, -, hB4⟩; have hE := hidden (hB3.out.trans (hB4.mono hB3.out.size)); clear hB4))
  go_ret2
  exact ⟨_, rfl, hE.out⟩
theorem open_noted (h : Sys w0 d g n mem writes left w) (hl : left ≠ 0) (hlo : LeftOk left) (hw : 0 <= writes /\ writes < 500000000) (at_ most : Nat) (hm : 1 <= most /\ most <= 200) (hat : at_ + needN most <= n) (l : Grp) (h1 : 1 <= l.length) (h2 : l.length <= most) (hg : Good n at_ (needN most) l) (hn : Noted at_ l mem) :
    Calls Tryz.prog 151 #[ptr d, .int .i64 at_, .int .i64 most] w fun e w' => Apart [d, g] w w' /\
      ((∃ jb left', e = .returned (.tuple #[ptr jb, .nilIface]) /\ JAt jb d at_ most w' /\ w.heap.size <= jb /\ Sys w0 d g n (laid (settleWs at_ l) mem) (writes + (settleWs at_ l).length) left' w' /\ LeftOk left' /\ (left = -1 -> left' = -1)) \/
       (∃ b k, e = .returned (.tuple #[.pointer none, flt b]) /\ k < (settleWs at_ l).length /\ Sys w0 d g n (laid ((settleWs at_ l).take k) mem) (writes + k) 0 w' /\ left ≠ -1)) := by
  have hfew := h.disk.few
  have hN := hidden (need_calls most hm.1 (by omega) w)
  have hBl := hidden (sys_blocks h)
  have hdl := h.disk.lt
  have hB0 : Below w.heap.size w (w.alloc (.cells #[ptr d, .int .i64 at_, .int .i64 most] 247)) := (Below.refl _ _).alloc (Nat.le_refl _) _
  have hJ0 : JAt w.heap.size d at_ most (w.alloc (.cells #[ptr d, .int .i64 at_, .int .i64 most] 247)) := ⟨by simp, by simp, by simp⟩
  have hsz : 1 + size l <= needN most := by
    have e : size l = rowsN l.length + l.length := rfl
    have e2 := rowsN_mono h2
    unfold needN
    omega
  have hjd : w.heap.size ≠ d /\ w.heap.size ≠ g := by omega
  have hF := hidden (fin_noted (h.more hB0) hl hlo hw _ at_ most hJ0 hjd l h1 (hg.less hsz) (by omega) hn)
  have hJ := hidden hJ0
  have hB := hidden hB0
  have hc : ¬ ((n : Int) - ((needN most : Nat) : Int) < (at_ : Int)) := by omega
  have hc2 : (needN most : Int) <= 3000 := by omega
  clear h hn hat hB0 hJ0 hg hsz
  generalize needN most = own at hN hc hc2
  have hm1 : ¬ (most : Int) < 1 := by omega
  have hm2 : ¬ (200 : Int) < (most : Int) := by omega
  replace hdl := hidden hdl
  replace hjd := hidden hjd
  go_enter Tryz.func151, Tryz.ntmps151
  go_wp2_with (first
    | (go_at_call 104; refine (hBl.out).mono ?_; rintro ev w1 ⟨rfl, rfl⟩)
    | (go_at_call 154; refine (hN.out).mono ?_; rintro ev w1 ⟨rfl, rfl⟩))
  refine (hF.out).mono ?_
  rintro ev w2 ⟨r, rfl, hW⟩
  have hW' := hW.from hB.out
  rename_i w1 _
  rcases hW'.out with ⟨rfl, left1, hE⟩ | ⟨k, b, i, hk, rfl, hc9, hb, hS3, hl3⟩
  · have hE2 := hidden (And.intro hW'.apart (And.intro (hJ.out.keep hW.apart (by simp; exact hjd.out)) hE))
    clear hW hW' hF hE
    go_wp2
    go_ret2
    exact ⟨hE2.out.1, Or.inl ⟨_, left1, rfl, hE2.out.2.1, Nat.le_refl _, hE2.out.2.2⟩⟩
  · have hA := hidden hW'.apart
    replace hS3 := hidden hS3
    replace hl3 := hidden hl3
    have hcH := hidden hc9
    replace hk := hidden hk
    clear hW hW' hF hc9
    go_wp2_with fail
    refine (jwrong_some w2 _ (num 50) _ _ hcH.out).mono ?_
    rintro ev w4 ⟨b4, rfl, -, -, hB4⟩
    have hE := hidden (And.intro (hA.out.trans (Apart.of_below hB4)) (hS3.out.more hB4))
    clear hB4 hA hS3 hcH
    go_wp2
    go_ret2
    exact ⟨hE.out.1, Or.inr ⟨_, k, rfl, hk.out, hE.out.2, hl3.out⟩⟩
end
structure Piece where
  no : Int
  blk : Nat
  zs : List Int
abbrev Piece.cells (p : Piece) : List Value := [.int .i64 p.no, .slice (some ⟨p.blk, 0, none⟩) 128 128]
def cellsOf : List Piece -> List Value
  | [] => []
  | p :: r => .int .i64 p.no :: .slice (some ⟨p.blk, 0, none⟩) 128 128 :: cellsOf r
def plain (ps : List Piece) : List (Int × List Int) := ps.map fun p => (p.no, p.zs)
theorem cellsOf_len : ∀ ps, (cellsOf ps).length = ps.length * 2
  | [] => rfl
  | _ :: r => by simp [cellsOf, cellsOf_len r]; omega
theorem cellsOf_append : ∀ a b, cellsOf (a ++ b) = cellsOf a ++ cellsOf b
  | [], _ => rfl
  | p :: r, b => by simp [cellsOf, cellsOf_append r b]
theorem cellsOf_get : ∀ (ps : List Piece) (k : Nat) (p : Piece), ps[k]? = some p -> (cellsOf ps)[k * 2]? = some (.int .i64 p.no) /\ (cellsOf ps)[k * 2 + 1]? = some (.slice (some ⟨p.blk, 0, none⟩) 128 128)
  | [], k, p, h => by simp at h
  | q :: r, 0, p, h => by simp at h; subst h; exact ⟨rfl, rfl⟩
  | q :: r, k + 1, p, h => by
    have := cellsOf_get r k p (by simpa using h)
    rw [show (k + 1) * 2 = k * 2 + 2 by omega]
    simpa [cellsOf] using this
structure DataAt (base : Nat) (w : World) (p : Piece) : Prop where
  new : base <= p.blk
  lt : p.blk < w.heap.size
  len : p.zs.length = 128
  bytes : BytesAt w (.slice (some ⟨p.blk, 0, none⟩) 128 128) p.zs
  row : ∃ cs t fz, w.heap[p.blk]? = some (.cells cs t fz) /\ t ≠ 255
theorem DataAt.keep {base : Nat} {w w' : World} {p : Piece} {bs : List Nat} (h : DataAt base w p) (ha : Apart bs w w') (hb : p.blk ∉ bs) : DataAt base w' p := by
  obtain ⟨cs, t, fz, hh, ht⟩ := h.row
  exact ⟨h.new, Nat.lt_of_lt_of_le h.lt ha.size, h.len, bytes_keep h.bytes ha hb, cs, t, fz, (ha.block _ h.lt hb).trans hh, ht⟩
structure GOwn (base : Nat) (w : World) (v : Value) (ps : List Piece) : Prop where
  row : w.ownsRow base 255 2 v ps.length (cellsOf ps)
  data : ∀ p ∈ ps, DataAt base w p
theorem GOwn.nil (base : Nat) (w : World) : GOwn base w (.slice none 0 0) [] := ⟨World.ownsRow_nil w base _ _, fun p hp => by cases hp⟩
theorem GOwn.keep {base : Nat} {w w' : World} {v : Value} {ps : List Piece} {bs : List Nat} (h : GOwn base w v ps) (ha : Apart bs w w') (hb : ∀ k ∈ bs, k < base) : GOwn base w' v ps := by
  refine ⟨⟨h.row.1, ?_⟩, fun p hp => ?_⟩
  · rcases h.row.2 with h2 | ⟨g', cap', cur, rfl, h1, hh, rest⟩
    · exact .inl h2
    · exact .inr ⟨g', cap', cur, rfl, h1, (ha.block g' (by rcases Nat.lt_or_ge g' w.heap.size with h | h; exact h; rw [Array.getElem?_eq_none h] at hh; cases hh) (fun hm => by have := hb _ hm; omega)).trans hh, rest⟩
  · have h1 := h.data p hp
    exact h1.keep ha (fun hm => by have := hb _ hm; have := h1.new; omega)
theorem GOwn.below {base : Nat} {w w' : World} {v : Value} {ps : List Piece} (h : GOwn base w v ps) (hb : Below w.heap.size w w') : GOwn base w' v ps := h.keep (Apart.of_below (bs := []) hb) (by simp)
theorem GOwn.at {base : Nat} {w : World} {v : Value} {ps : List Piece} (h : GOwn base w v ps) (hl : ps.length <= 1000) : GAt w v (plain ps) := by
  have hpl : (plain ps).length = ps.length := by simp [plain]
  rcases h.row.2 with ⟨rfl, h0⟩ | ⟨g', cap', cur, rfl, h1, hh, h2, h3, h4, h5⟩
  · exact ⟨none, 0, by rw [hpl, h0], by omega, fun hne => absurd (List.length_eq_zero_iff.1 (by rw [hpl]; exact h0)) hne⟩
  · refine ⟨_, cap', by rw [hpl], by omega, fun hne => ⟨g', 0, rfl, ?_, fun k hk => ?_⟩⟩
    · rcases Nat.lt_or_ge g' w.heap.size with h | h
      · exact h
      · rw [Array.getElem?_eq_none h] at hh; cases hh
    · rw [hpl] at hk
      obtain ⟨p, hp⟩ : ∃ p, ps[k]? = some p := ⟨_, List.getElem?_eq_getElem hk⟩
      obtain ⟨c0, c1⟩ := cellsOf_get ps k p hp
      have hg : (plain ps).getD k (0, []) = (p.no, p.zs) := by simp [plain, List.getD, hp]
      rw [hg]
      have hc : ∀ j, j < ps.length * 2 -> w.cell? ⟨g', j, none⟩ = (cellsOf ps)[j]? := fun j hj => by
        rw [cell_of_row w g' j cur _ (0, 0) hh, <- h5, List.getElem?_take, if_pos hj]
        simp
      refine ⟨by rw [Nat.zero_add, hc _ (by omega)]; exact c0, _, by rw [Nat.zero_add, hc _ (by omega)]; exact c1, (h.data p (List.mem_of_getElem? hp)).bytes⟩
theorem GOwn.off {base d g : Nat} {w : World} {v : Value} {ps : List Piece} (h : GOwn base w v ps) (hl : ps.length <= 1000) (hd : d < base) (hg : g < base) : GOff d g w v (plain ps) := fun _ ha => (h.keep ha (by simp; omega)).at hl
theorem GOwn.lit (base : Nat) (w : World) (hb : base <= w.heap.size) (p : Piece) (hp : DataAt base w p) :
    GOwn base (w.alloc (.cells #[.int .i64 p.no, .slice (some ⟨p.blk, 0, none⟩) 128 128] 255)) (.slice (some ⟨w.heap.size, 0, none⟩) 1 1) [p] := by
  refine ⟨World.ownsRow_lit (base := base) (e := 255) (size := 2) w #[.int .i64 p.no, .slice (some ⟨p.blk, 0, none⟩) 128 128] 1 hb (by decide) rfl, fun q hq => ?_⟩
  obtain rfl := List.mem_singleton.1 hq
  exact hp.keep (Apart.of_below (bs := []) ((Below.refl _ _).alloc (Nat.le_refl _) _)) (by simp)
theorem GOwn.append {base : Nat} {w : World} {v : Value} {ps qs : List Piece} (h : GOwn base w v ps) (b cap : Nat) (hx : GOwn base w (.slice (some ⟨b, 0, none⟩) qs.length cap) qs) (hn : ps.length + qs.length <= 1000) (hbase : base <= w.heap.size) (ty : TypeId) :
    ∃ v' w', (Builtin.append_ #[215, 215] ty #[v, .slice (some ⟨b, 0, none⟩) qs.length cap]).run Tryz.prog w = .ok v' w' /\ GOwn base w' v' (ps ++ qs) /\ Below base w w' /\ w.grownBy w' v.ownBlock := by
  obtain ⟨i0, hi, hz0, hz1, hz2⟩ := info_parts3 Tryz.infoGroup
  obtain ⟨v', w', hrun, hown, hgrow, -⟩ := run_append_own (P := Tryz.prog) w base 215 ty 255 i0 (.agg #[.int .i64 0, .slice none 0 0]) 2 32 Tryz.underlying215 hi hz0 hz1 hz2 (by simp [Value.cells]) (by decide)
    v ps.length _ h.row ⟨b, 0, none⟩ qs.length cap (cellsOf qs) (cellsOf_len qs) (fun j u hu => by
      have hj : j < qs.length * 2 := by
        rcases Nat.lt_or_ge j (qs.length * 2) with h | h
        · exact h
        · rw [List.getElem?_eq_none (by rw [cellsOf_len]; exact h)] at hu; cases hu
      rw [Go.WideShapes.add_plain, Nat.zero_add, hx.row.cellAt j hj]
      exact hu) (by
      have : ∀ qs : List Piece, ∀ u ∈ cellsOf qs, u.oneCell' = true := by
        intro qs
        induction qs with
        | nil => intro u hu; cases hu
        | cons q r ih =>
          intro u hu
          rcases List.mem_cons.1 hu with rfl | hu
          · rfl
          · rcases List.mem_cons.1 hu with rfl | hu
            · rfl
            · exact ih u hu
      exact this qs) (by unfold maxLen; omega) (by omega) hbase
  have hB : Below base w w' := (Below.refl base w).grown hgrow hbase (fun k hk => (h.row.lt k hk).1)
  refine ⟨v', w', hrun, ⟨by rw [List.length_append, cellsOf_append]; exact hown, fun p hp => ?_⟩, hB, hgrow⟩
  have key : DataAt base w p := by
    rcases List.mem_append.1 hp with h' | h'
    · exact h.data p h'
    · exact hx.data p h'
  have hne : v.ownBlock ≠ some p.blk := by
    intro e
    rcases h.row.2 with ⟨rfl, _⟩ | ⟨g', cap', cur, rfl, _, hh, _⟩
    · cases e
    · have e' : g' = p.blk := by simpa [Value.ownBlock] using e
      subst e'
      obtain ⟨cs, t, fz, h2, ht⟩ := key.row
      rw [h2] at hh
      have := Obj.cells.inj (Option.some.inj hh)
      exact absurd this.2.1 ht
  refine key.keep (bs := v.ownBlock.toList) ⟨hgrow.os, hgrow.tape, hgrow.output, hgrow.size, fun k hk hn => hgrow.block k hk ?_⟩ ?_
  · intro e; exact hn (by rw [<- e]; simp)
  · intro hm; exact hne (by simpa using hm)
theorem fill_data (base : Nat) (w : World) (hb : base <= w.heap.size) (no n : Int) : DataAt base (w.alloc (.cells (fillA n 128) 5)) ⟨no, w.heap.size, fillL n⟩ :=
  ⟨hb, by simp, fillL_len n, fillA_bytes n w, _, _, _, heap_alloc_new w _, by decide⟩
/-! What a Commit leaves, by how many of its Writes were done. -/
theorem all_all {N at_ own : Nat} {l : Grp} {mem : Nat -> Int} (hg : Good N at_ own l) (ho : 1 + size l <= own) :
    Idle at_ (laid (allWs at_ l) mem) /\ (∀ no, (no < at_ \/ at_ + own <= no) -> (∀ p ∈ l, p.1 ≠ no) -> blockL (laid (allWs at_ l) mem) no = blockL mem no) /\ ∀ p ∈ l, blockL (laid (allWs at_ l) mem) p.1 = p.2 := by
  rw [allWs, laid_append]
  have h := note_all (mem := mem) (v := blockL mem) hg ho (fun _ _ => rfl)
  exact settle_all hg (by omega) (fun no h1 _ => h.2 no h1)
theorem all_some {N at_ own : Nat} {l : Grp} {mem : Nat -> Int} (hg : Good N at_ own l) (ho : 1 + size l <= own) (hi : Idle at_ mem) (k : Nat) (hk : k < (allWs at_ l).length) :
    (Idle at_ (laid ((allWs at_ l).take k) mem) /\ ∀ no, (no < at_ \/ at_ + own <= no) -> blockL (laid ((allWs at_ l).take k) mem) no = blockL mem no) \/
    (Noted at_ l (laid ((allWs at_ l).take k) mem) /\ ∀ no, (no < at_ \/ at_ + own <= no) -> (∀ p ∈ l, p.1 ≠ no) -> blockL (laid ((allWs at_ l).take k) mem) no = blockL mem no) := by
  by_cases h : k < (noteWs at_ l).length
  · left
    rw [allWs, List.take_append_of_le_length (by omega)]
    exact note_some hg ho hi (fun _ _ => rfl) k h
  · right
    have hn := note_all (mem := mem) (v := blockL mem) hg ho (fun _ _ => rfl)
    obtain ⟨j, rfl⟩ : ∃ j, k = (noteWs at_ l).length + j := ⟨k - (noteWs at_ l).length, by omega⟩
    rw [allWs, List.take_length_add_append, laid_append]
    rw [allWs, List.length_append] at hk
    exact settle_some hg ho hn.1 (fun no h1 _ => hn.2 no h1) j (by omega)
end Go.Proofs.YtpofmiecjkghgaaGreatDoor
