/- The journal's underWay, where a group is noted. -/
import Derived.Test.YtopegpjkkicjhaaGreatDoorJp4
import Derived.Test.YtopegpjkkicjhaaGreatDoorJp3
namespace Go.Proofs.YtopegpjkkicjhaaGreatDoor
open Go.RowKit Go.Extern.Stop Go.Stop Go.Extern
set_option maxRecDepth 100000

theorem Good.ok {N at_ own : Nat} {l : Grp} (h : Good N at_ own l) : ∀ k, k < (up l).length → OkAt N at_ own (up l) k := fun k hk => by
  rw [up_len] at hk
  have e : ∀ j, xno (up l) j = (nob l j : Int) := fun j => by show ((up l).getD j (0, [])).1 = _; rw [up_get]
  have e2 : xdat (up l) k = dat l k := by show ((up l).getD k (0, [])).2 = _; rw [up_get]
  refine ⟨by rw [e]; omega, by rw [e]; have := h.no k hk; omega, fun j hj => ?_, by rw [e2]; exact h.len k hk, by rw [e]; have := h.out k hk; omega⟩
  rw [e, e]
  have := h.once k j hk hj
  omega
theorem Took.good {N at_ own : Nat} {xs : List (Int × List Int)} {e : Ending} (h : Took N at_ own xs e) (hg : ∀ k, k < xs.length → OkAt N at_ own xs k) : e = .returned (.bool true) := by
  obtain ⟨r, rfl, hr⟩ := h
  rw [hr.2 hg]
theorem Took.bad {N at_ own : Nat} {xs : List (Int × List Int)} {e : Ending} (h : Took N at_ own xs e) (hg : ¬ ∀ k, k < xs.length → OkAt N at_ own xs k) : e = .returned (.bool false) := by
  obtain ⟨r, rfl, hr⟩ := h
  cases r
  · rfl
  · exact absurd (hr.1 rfl) hg
set_option maxHeartbeats 2000000 in
theorem under_noted {w0 : World} {d g n : Nat} {mem : Nat → Int} {writes left : Int} {w : World} (h : Sys w0 d g n mem writes left w) (hl : left ≠ 0) (jb at_ most : Nat) (hj : JAt jb d at_ most w) (l : Grp) (h1 : 1 ≤ l.length) (hg : Good n at_ (1 + size l) l) (hat : at_ + (1 + size l) ≤ n) (hn : Noted at_ l mem) :
    Calls Tryz.prog 122 #[ptr jb] w fun e w' => ∃ v, e = .returned (.tuple #[v, .nilIface]) ∧ GOff d g w' v (up l) ∧ (∃ a c, v = .slice a l.length c) ∧ Below w.heap.size w w' := by
  have hfew := h.disk.few
  have hllen := hg.few
  have hdl := h.disk.lt
  have hrl := rowsN_le l.length
  have hB0 : Below w.heap.size w w.drew := (Below.refl _ _).drew
  have kR := hidden (sys_read (h.more hB0) at_ (by omega) hl)
  rw [hn.head] at kR
  have hspan := hidden (noted_span hg hn)
  have hbl : Hid ((bodyL l).length = size l * 128) := hidden (bodyK_len l hg.len _ (Nat.le_refl _))
  have j0 := hj.c0
  have j1 := hj.c1
  have hS := hidden h
  have hJ := hidden hj
  have hgd := hidden hg
  have hcnt := hidden (head_count l.length (by omega) (bodyL l))
  have hdig := hidden (head_digest l.length (bodyL l))
  have hhl := hidden (headL_len l.length (bodyL l))
  have hsz : size l = rowsN l.length + l.length := rfl
  generalize hH : headG l = H at kR
  rw [show headL l.length (bodyL l) = H from hH] at hcnt hdig hhl
  replace hH := hidden hH
  have hat' : at_ + (1 + (rowsN l.length + l.length)) ≤ n := hat
  clear h hj hn hg hat
  replace hB0 := hidden hB0
  go_enter Tryz.func122, Tryz.ntmps122
  go_upto_region 1 with fail
  go_cut [4, 5] (fun x y wx => y = .nilIface ∧ ∃ hb, x = .slice (some ⟨hb, 0, none⟩) 128 128 ∧ BytesAt wx (.slice (some ⟨hb, 0, none⟩) 128 128) H ∧ Below w.heap.size w wx)
  case first =>
    go_region_with (go_at_call 123; refine (kR.out).mono ?_; rintro ev w3 ⟨b3, rfl, hE, -, -, -, hB3⟩; replace hE := hidden hE; replace hB3 := hidden hB3)
    all_goals (go_wp2; go_meet; case rel => exact ⟨rfl, b3, rfl, hE.out, hB0.out.trans (hB3.out.mono hB0.out.size)⟩)
  case rest =>
    obtain ⟨rfl, hb, rfl, hBy, hB⟩ := hcut
    clear kR hB0 j0 j1
    have hG := hidden (get_calls H _ 0 _ hBy (by rw [hhl.out]; omega) (by rw [hhl.out]; omega))
    rw [hcnt.out] at hG
    replace hBy := hidden hBy
    replace hB := hidden hB
    go_wp2_with fail
    refine (hG.out).mono ?_
    rintro ev w4 ⟨rfl, rfl⟩
    clear hG
    have j0 := (hJ.out.below hB.out).c0
    have j1 := (hJ.out.below hB.out).c1
    have hS4 := hidden (hS.out.more hB.out)
    have c1 : decide ((l.length : Int) < 1) = false := decide_eq_false (by omega)
    have c2 : decide ((200 : Int) < (l.length : Int)) = false := decide_eq_false (by omega)
    have c3 : decide ((n : Int) < (at_ : Int) + ((1 + (rowsN l.length + l.length) : Nat) : Int)) = false := decide_eq_false (by omega)
    go_wp2_with fail
    go_quiet (first
      | (go_at_call 150; exact Calls.quiet_of_same (room_calls l.length (by omega) _))
      | (go_at_call 92; exact Calls.quiet_of_same (sys_blocks (hS4.out.more (below_drewN (Below.refl _ _) _)))))
    have hB5 : Below w.heap.size w (w4.drewN nq) := below_drewN hB.out nq
    have hBy5 : BytesAt (w4.drewN nq) (.slice (some ⟨hb, 0, none⟩) 128 128) H := hBy.out.below (below_drewN (Below.refl _ _) nq)
    generalize w4.drewN nq = w5 at hB5 hBy5 ⊢
    clear hB hBy hS4 j0 j1 c1 c2 c3
    have j0 := (hJ.out.below hB5).c0
    have j1 := (hJ.out.below hB5).c1
    have hq1 : IntKind.i64.wrap ((at_ : Int) + 1) = ((at_ + 1 : Nat) : Int) := wrap_pos _ (by omega) (by omega)
    have hq2 : IntKind.i64.wrap ((rowsN l.length : Int) + (l.length : Int)) = ((rowsN l.length + l.length : Nat) : Int) := wrap_pos _ (by omega) (by omega)
    have kS : ∀ (wx : World) (s m : Int), s = ((at_ + 1 : Nat) : Int) → m = ((rowsN l.length + l.length : Nat) : Int) → Below w5.heap.size w5 wx → Calls Tryz.prog 151 #[ptr jb, .int .i64 s, .int .i64 m] wx fun e w' => ∃ b cap, e = .returned (.tuple #[.slice (some ⟨b, 0, none⟩) (size l * 128) cap, .nilIface]) ∧ OwnB w5.heap.size w' b (size l * 128) cap (bodyL l) ∧ Below w5.heap.size w5 w' := fun wx s m hs hm hx => by
      subst hs hm
      have hBx := hB5.trans (hx.mono hB5.size)
      refine (span_calls (hS.out.more hBx) hl jb at_ most (hJ.out.below hBx) (at_ + 1) (rowsN l.length + l.length) (by omega) (by omega)).mono ?_
      rintro e w' ⟨b, cap, rfl, hO, hB⟩
      rw [show spanL mem (at_ + 1) (rowsN l.length + l.length) = bodyL l from hspan.out] at hO
      exact ⟨b, cap, rfl, hO.mono hx.size, hx.trans (hB.mono hx.size)⟩
    replace kS := hidden kS
    replace hB5 := hidden hB5
    replace hBy5 := hidden hBy5
    go_upto_region 8 with fail
    go_cut [8, 5] (fun x y wx => y = .nilIface ∧ ∃ b cap, x = .slice (some ⟨b, 0, none⟩) (size l * 128) cap ∧ OwnB w5.heap.size wx b (size l * 128) cap (bodyL l) ∧ Below w5.heap.size w5 wx)
    case first =>
      go_region_with (first
        | (go_at_call 108; refine (rows_calls l.length (by omega) _).mono ?_; rintro ev w3 ⟨rfl, rfl⟩)
        | (go_at_call 151; refine (kS.out _ _ _ (by first | exact hq1 | rfl | omega) (by first | exact hq2 | rfl | omega) (Below.refl _ _).drew).mono ?_; rintro ev w3 ⟨b3, cap3, rfl, hE⟩; replace hE := hidden hE))
      all_goals (go_wp2; go_meet; case rel => exact ⟨rfl, b3, cap3, rfl, hE.out⟩)
    case rest =>
      obtain ⟨rfl, b6, cap6, rfl, hO6, hB6⟩ := hcut
      rename_i w6
      clear kS j0 j1
      have hcap := hO6.caps.1
      have hGr := hidden (group_calls l hgd.out.len (fun j hj => by have := hgd.out.no j hj; omega) h1 hllen b6 (size l * 128) cap6 _ rfl hO6.bytes hcap)
      have hb6 := hO6.lt
      replace hO6 := hidden hO6
      replace hB6 := hidden hB6
      generalize hM : size l * 128 = M at hGr hO6 hcap ⊢
      replace hM := hidden hM
      go_wp2_with fail
      refine (hGr.out).mono ?_
      rintro ev w7 ⟨gb, rfl, hgb, hB7, hK7⟩
      have hB57 : Below w5.heap.size w5 w7 := hB6.out.trans (hB7.mono hB6.out.size)
      have hO7 := hO6.out.below hB7
      have hBy7 := hBy5.out.below hB57
      have hG1 := hidden (get_calls H _ 1 w7 hBy7 (by rw [hhl.out]; omega) (by rw [hhl.out]; omega))
      rw [hdig.out] at hG1
      have hDg := hidden (digest_calls hb 0 128 128 H (bodyL l) _ w7 hBy7 hhl.out (by omega) (by omega) (by omega) hO7.bytes)
      replace hK7 := hidden hK7
      replace hB57 := hidden hB57
      have hDe : (digestL H (bodyL l) == digestL H (bodyL l)) = true := by simp
      generalize digestL H (bodyL l) = D at hG1 hDg hDe
      clear hGr hO6 hB6 hB7 hO7 hBy7
      go_wp2_with fail
      refine (hG1.out).mono ?_
      rintro ev w8 ⟨rfl, rfl⟩
      go_wp2_with fail
      refine (hDg.out).mono ?_
      rintro ev w9 ⟨rfl, hB9⟩
      have hB59 : Below w5.heap.size w5 w9 := hB57.out.trans (hB9.mono hB57.out.size)
      have hBw9 := hB5.out.trans (hB59.mono hB5.out.size)
      have hgne : gb ∉ [d, g] ∧ b6 ∉ [d, g] := by
        have e1 := hB5.out.size
        have e2 := hB59.size
        constructor
        · simp; omega
        · simp; omega
      have hT := hidden (takes_calls (hS.out.more hBw9) jb at_ most (1 + (rowsN l.length + l.length)) (hJ.out.below hBw9) (by omega) _ _ (hK7.out [] w9 (Apart.of_below hB9) (by simp) (by simp)))
      have hR9 := hidden (room_calls l.length (by omega) w9)
      have hGO : Hid (∀ w'', Below w9.heap.size w9 w'' → GOff d g w'' (.slice (some ⟨gb, 0, none⟩) l.length l.length) (up l)) := hidden fun w'' hx w3 h3 => hK7.out [d, g] w3 (((Apart.of_below hB9).trans (Apart.of_below hx)).trans h3) hgne.1 hgne.2
      have hBw := hidden hBw9
      clear hG1 hDg hK7 hB57 hB59 hBw9 hB9
      go_wp2_with fail
      refine (hR9.out).mono ?_
      rintro ev w10 ⟨rfl, rfl⟩
      go_wp2_with fail
      refine (hT.out).mono ?_
      rintro ev w11 ⟨hT1, hB11⟩
      obtain rfl := hT1.good hgd.out.ok
      have hE := hidden (And.intro (hGO.out w11 hB11) (hBw.out.trans (hB11.mono hBw.out.size)))
      clear hT hT1 hB11 hGO hBw
      go_wp2
      go_ret2
      exact ⟨_, rfl, hE.out.1, ⟨_, _, rfl⟩, hE.out.2⟩
end Go.Proofs.YtopegpjkkicjhaaGreatDoor
