/- JournalPlays answers true, whatever it is given, and changes nothing that was there. -/
import Derived.Test.YtbagncolhckhjaaDoorJmA
import Derived.Test.YtbagncolhckhjaaDoorJm8
import Derived.Deep.CutBlock
namespace Go.Proofs.YtbagncolhckhjaaDoor
open Go.RowKit Go.Extern.Stop Go.Stop Go.Extern
set_option maxRecDepth 1000000

/-- A statement that is the last of its sequence. -/
theorem wp_last {P : Program} {c : Code} {Q : Exit → Act → World → Prop} {a : Act} {w : World} (h : Code.wp P c (Exit.then (fun a w => Q .normal a w) Q) a w) : Code.wp P c Q a w := wp_mono h (fun e a w h => by cases e <;> exact h)
set_option maxHeartbeats 8000000 in
theorem journalPlays_calls (ss : List StepT) (vs : Value) (w : World) (hG0 : Ground w) (hGT0 : GT w) (hz : ScriptAt w vs ss) :
    Calls Tryd.prog 5 #[vs] w fun e w' => e = .returned (.bool true) ∧ Below w.heap.size w w' := by
  have hG := hidden hG0
  have hGT := hidden hGT0
  obtain ⟨sa, scap, rfl, hsl, hsr, hsc⟩ := hz
  have hsl' : ss.length ≤ 9223372036854775807 := by unfold maxLen at hsl; omega
  replace hsr := hidden hsr
  replace hsc := hidden hsc
  clear hGT0 hsl
  go_enter Tryd.func5, Tryd.ntmps5
  go_wp2_with fail
  refine (sys_new 40 (by omega) (by omega) w hG0).mono ?_
  rintro ev w1 ⟨rfl, hS1⟩
  generalize hdd : w.heap.size + 1 = d at hS1 ⊢
  have hO1 := hidden (opened_calls hS1 (by decide) (by decide) [(25, zeroB)] (by decide) (by decide) goodP (blockL (fun _ => 0)) (.before (idle_zero 4) (fun _ _ => rfl)) (-1))
  have hdl1 := hS1.disk.lt
  clear hS1 hG0
  go_wp2_with fail
  refine (hO1.out).mono ?_
  rintro ev w2 ⟨hA2, jb, mem2, wr2, rfl, hS2, hwa2, hwb2, hJ2, hjb, hR2⟩
  have hsz2 := hA2.size
  have hTz := hidden (And.intro hR2.idle (told_zero mem2 hR2))
  have hAw := hidden (jawake_calls w2 hS2.ground)
  have hjl := hJ2.lt
  replace hS2 := hidden hS2
  replace hJ2 := hidden hJ2
  clear hO1 hR2 hA2
  go_wp2_with fail
  refine (hAw.out).mono ?_
  rintro ev w3 ⟨rfl, hB3⟩
  have hsz3 := hB3.size
  have hB34 : Below w3.heap.size w3 (w3.alloc (.cells zeros18 50)) := (Below.refl _ _).alloc (Nat.le_refl _) _
  have hP : Hid (PlaySt w d w.heap.size w3.heap.size jb 2000 (w3.alloc (.cells zeros18 50))) := hidden ⟨⟨_, mem2, wr2, (hS2.out.more hB3).more hB34, by omega, by omega, hTz.out.1, hTz.out.2, now18_new w3 _⟩, (hJ2.out.below hB3).below hB34, by omega, by omega, by omega, by omega, by omega⟩
  have hnbw : w.heap.size ≤ w3.heap.size := by omega
  clear hS2 hJ2 hTz hAw hB3 hB34 hsz2 hsz3 hjl hjb hwa2 hwb2 hdl1
  clear hdd
  go_wp2_with fail
  go_loopg [5, 7] 21 (fun gk jv q wr => ∃ i : Nat, i ≤ 20 ∧ gk = 21 - i ∧ q = .int .i64 i ∧ ∃ jb, jv = ptr jb ∧ Hid (PlaySt w d w.heap.size w3.heap.size jb (5000 * ((i : Int) + 1)) wr))
  case atStart => exact ⟨0, by omega, rfl, rfl, jb, rfl, hidden (hP.out.lim (by omega))⟩
  case round =>
    obtain ⟨i, hi, hgi, rfl, jb2, rfl, hI⟩ := hrel
    replace hgi := hidden hgi
    clear hP
    by_cases hlt : i < ss.length ∧ i < 20
    · have hlt1 : (i : Int) < (ss.length : Int) := by omega
      have hlt2 : (i : Int) < 20 := by omega
      obtain ⟨sb, soff, rfl, hsb, hscell⟩ := hsc.out (by intro e; rw [e] at hlt; simp at hlt)
      obtain ⟨s, hs⟩ : ∃ s, ss[i]? = some s := ⟨_, List.getElem?_eq_getElem hlt.1⟩
      obtain ⟨c0, c1, c2⟩ := hscell i s hs
      obtain ⟨hf64, ho64, hraw⟩ := hsr.out s (List.mem_of_getElem? hs)
      obtain ⟨nw, mem, wrr, hS, h0, hw, hid, htold, hnow⟩ := hI.out.ex
      have hBw := hS.below
      have d0 := (hBw.cell (p := ⟨sb, soff + i * 3, none⟩) hsb).trans c0
      have d1 := (hBw.cell (p := ⟨sb, soff + i * 3 + 1, none⟩) hsb).trans c1
      have d2 := (hBw.cell (p := ⟨sb, soff + i * 3 + 2, none⟩) hsb).trans c2
      obtain ⟨sv, rs, fuse, op⟩ := s
      simp only at d0 d1 d2 hraw hf64 ho64
      obtain ⟨ra, rcap, rfl, hrl, -, hrc⟩ := hraw
      have hrl' : rs.length ≤ 9223372036854775807 := by unfold maxLen at hrl; omega
      replace hrc := hidden hrc
      have hB4 : Below wr.heap.size wr (wr.alloc (.cells #[.slice ra rs.length rcap, .int .i64 fuse, .int .i64 op] 53)) := (Below.refl _ _).alloc (Nat.le_refl _) _
      have hdl := hS.disk.lt
      have hnl := hnow.lt
      have hap := hI.out.apart
      have hRd : Hid (Rd w d w.heap.size w3.heap.size jb2 wr.heap.size ra rcap rs fuse op nw mem wrr (-1) (wr.alloc (.cells #[.slice ra rs.length rcap, .int .i64 fuse, .int .i64 op] 53))) :=
        hidden ⟨hS.more hB4, hI.out.jat.below hB4, hnow.keep (Apart.of_below (bs := []) hB4) (by simp), by simp, by simp, by simp, by omega⟩
      have hlim := hidden (And.intro h0 hw)
      replace hid := hidden hid
      replace htold := hidden htold
      clear c0 c1 c2 hscell hs hrl hS hnow hBw hB4 hdl hnl hap hI h0 hw
      obtain ⟨K, hK⟩ : ∃ K, min rs.length 10 = K := ⟨_, rfl⟩
      have hK10 : K ≤ 10 := by omega
      have hKr : K ≤ rs.length := by omega
      have hKe : Hid (¬ (K < rs.length ∧ K < 10)) := hidden (by omega)
      replace hK := hidden hK
      go_upto_block 2 with fail
      have hsz4 : wr.heap.size < (wr.alloc (.cells #[.slice ra rs.length rcap, .int .i64 fuse, .int .i64 op] 53)).heap.size := by simp
      have hwr4 := hRd.out.sys.disk.lt
      have hlim4 := hRd.out.now.lt
      generalize wr.alloc (.cells #[.slice ra rs.length rcap, .int .i64 fuse, .int .i64 op] 53) = w4 at hRd hsz4 hwr4 hlim4 ⊢
      generalize wr.heap.size = ob at hRd hsz4 ⊢
      clear d0 d1 d2
      refine jp_list w d w.heap.size w3.heap.size jb2 ob ra rcap rs fuse op nw mem wrr w4 hRd K hK10 hKr hKe hrl' hrc _ _ _ _ _ _ _ _ _ _ _ _ _ _ _ _ _ _ _ _ _ _ _ _ _ _ _ _ _ _ _ _ _ _ _ _ _ _ _ _ _ _ _ _ _ _ _ _ _ _ _ _ _ _ _ _ _ _ _ _ _ _ _ _ _ _ _ _ _ _ _ _ _ _ _ _ _ _ _ _ _ _ _ _ _ _ _ _ _ _ _ _ _ _ _ _ _ _ _ _ _ _ _ _ _ _ _ _ _ _ _ _ _ _ _ _ _ _ _ _ _ _ _ _ _ _ _ _ _ _ _ _ _ _ _ _ _ _ _ _ _ _ _ _ _ _ _ _ _ _ _ _ _ _ _ _ _ _ _ _ _ _ _ _ _ _ _ _ _ _ _ _ _ _ _ _ _ _ _ _ _ _ _ _ _ _ _ _ _ _ _ _ _ _ _ _ _ _ _ _ _ _ _ _ _ _ _ _ _ _ _ _ _ _ _ _ _ _ _ _ _ _ _ _ _ _ _ _ _ _ _ _ _ _ _ _ _ _ _ _ _ _ _ _ _ _ _ _ _ _ _ _ _ _ _ _ _ _ _ _ _ _ _ _ _ _ _ _ _ _ _ _ _ _ _ _ _ _ _ _ _ _ _ _ (hidden ?kk) (hidden ?qp)
      case qp =>
        intro _ a a' _ h e
        cases a
        cases a'
        cases e
        exact h
      case kk =>
      intro v11 v12 v13 v57 v58 v59 v60 v61 v62 v63 v64 v65 v66 v67 v68 v69 v70 v71 v72 v73 v74 v75 v76 v77 v78 v79 v80 v81 v82 v83 v84 v85 v86 v87 v88 v89 v90 v91 v92 v93 v94 v95 v96 v97 v98 v99 v100 v101 v102 v103 v104 v105 v106 v107 v108 v109 v110 v111 v112 v113 v114 v115 b ps la lcap w5 hbad hGo hpl hB5
      have hRd5 := hidden (hRd.out.below hB5)
      have hs45 := hB5.size
      replace hGo := hidden hGo
      replace hpl := hidden hpl
      replace hbad := hidden hbad
      clear hRd hB5
      go_upto_region 26 with fail
      refine jp_long w5 K hK10 b la lcap _ _ _ _ _ _ _ _ _ _ _ _ _ _ _ _ _ _ _ _ _ _ _ _ _ _ _ _ _ _ _ _ _ _ _ _ _ _ _ _ _ _ _ _ _ _ _ _ _ _ _ _ _ _ _ _ _ _ _ _ _ _ _ _ _ _ _ _ _ _ _ _ _ _ _ _ _ _ _ _ _ _ _ _ _ _ _ _ _ _ _ _ _ _ _ _ _ _ _ _ _ _ _ _ _ _ _ _ _ _ _ _ _ _ _ _ _ _ _ _ _ _ _ _ _ _ _ _ _ _ _ _ _ _ _ _ _ _ _ _ _ _ _ _ _ _ _ _ _ _ _ _ _ _ _ _ _ _ _ _ _ _ _ _ _ _ _ _ _ _ _ _ _ _ _ _ _ _ _ _ _ _ _ _ _ _ _ _ _ _ _ _ _ _ _ _ _ _ _ _ _ _ _ _ _ _ _ _ _ _ _ _ _ _ _ _ _ _ _ _ _ _ _ _ _ _ _ _ _ _ _ _ _ _ _ _ _ _ _ _ _ _ _ _ _ _ _ _ _ _ _ _ _ _ _ _ _ _ _ _ _ _ _ _ _ _ _ _ _ _ _ _ _ _ _ _ _ _ _ _ _ _ _ _ _ _ (hidden ?kk) (hidden ?qp)
      case qp =>
        intro _ a a' _ h e
        cases a
        cases a'
        cases e
        exact h
      case kk =>
      intro v116 v117 v118 v119 v120 v121 c26 hc26
      go_upto_if 122 with fail
      refine jp_bad w5 rs K b hbad c26 hc26 _ _ _ _ _ _ _ _ _ _ _ _ _ _ _ _ _ _ _ _ _ _ _ _ _ _ _ _ _ _ _ _ _ _ _ _ _ _ _ _ _ _ _ _ _ _ _ _ _ _ _ _ _ _ _ _ _ _ _ _ _ _ _ _ _ _ _ _ _ _ _ _ _ _ _ _ _ _ _ _ _ _ _ _ _ _ _ _ _ _ _ _ _ _ _ _ _ _ _ _ _ _ _ _ _ _ _ _ _ _ _ _ _ _ _ _ _ _ _ _ _ _ _ _ _ _ _ _ _ _ _ _ _ _ _ _ _ _ _ _ _ _ _ _ _ _ _ _ _ _ _ _ _ _ _ _ _ _ _ _ _ _ _ _ _ _ _ _ _ _ _ _ _ _ _ _ _ _ _ _ _ _ _ _ _ _ _ _ _ _ _ _ _ _ _ _ _ _ _ _ _ _ _ _ _ _ _ _ _ _ _ _ _ _ _ _ _ _ _ _ _ _ _ _ _ _ _ _ _ _ _ _ _ _ _ _ _ _ _ _ _ _ _ _ _ _ _ _ _ _ _ _ _ _ _ _ _ _ _ _ _ _ _ _ _ _ _ _ _ _ _ _ _ _ _ _ _ _ _ _ _ _ _ _ _ _ (hidden ?kk) (hidden ?qp)
      case qp =>
        intro _ a a' _ h e
        cases a
        cases a'
        cases e
        exact h
      case kk =>
      intro b2 hbd
      clear hbad hc26
      replace hbd := hidden hbd
      go_upto_block 6 with fail
      refine jp_beside w d w.heap.size w3.heap.size jb2 ob ra rcap rs fuse op nw mem wrr w5 hRd5 K hK10 la lcap ps w4.heap.size hGo hpl b2 _ _ _ _ _ _ _ _ _ _ _ _ _ _ _ _ _ _ _ _ _ _ _ _ _ _ _ _ _ _ _ _ _ _ _ _ _ _ _ _ _ _ _ _ _ _ _ _ _ _ _ _ _ _ _ _ _ _ _ _ _ _ _ _ _ _ _ _ _ _ _ _ _ _ _ _ _ _ _ _ _ _ _ _ _ _ _ _ _ _ _ _ _ _ _ _ _ _ _ _ _ _ _ _ _ _ _ _ _ _ _ _ _ _ _ _ _ _ _ _ _ _ _ _ _ _ _ _ _ _ _ _ _ _ _ _ _ _ _ _ _ _ _ _ _ _ _ _ _ _ _ _ _ _ _ _ _ _ _ _ _ _ _ _ _ _ _ _ _ _ _ _ _ _ _ _ _ _ _ _ _ _ _ _ _ _ _ _ _ _ _ _ _ _ _ _ _ _ _ _ _ _ _ _ _ _ _ _ _ _ _ _ _ _ _ _ _ _ _ _ _ _ _ _ _ _ _ _ _ _ _ _ _ _ _ _ _ _ _ _ _ _ _ _ _ _ _ _ _ _ _ _ _ _ _ _ _ _ _ _ _ _ _ _ _ _ _ _ _ _ _ _ _ _ _ _ _ _ _ _ _ _ _ _ _ (hidden ?kk) (hidden ?qr) (hidden ?qp)
      case qp =>
        intro _ a a' _ h e
        cases a
        cases a'
        cases e
        exact h
      case qr =>
        intro v14 v123 v124 v125 v126 v127 v128 v129 v130 v131 v132 v133 v134 v135 v136 v137 v138 v139 wq hBq
        replace hBq := hidden hBq
        go_wp2
        go_ret
        exact ⟨rfl, hBq.out⟩
      case kk =>
      intro v2 v14 v123 v124 v125 v126 v127 v128 v129 v130 v131 v132 v133 v134 v135 v136 v137 v138 v139 h22
      replace h22 := hidden h22
      have o1 := hRd5.out.o1
      go_upto_if 142 with fail
      clear o1
      refine jp_fuse w d w.heap.size w3.heap.size jb2 ob ra rcap rs fuse op nw mem wrr w5 hRd5 _ _ _ _ _ _ _ _ _ _ _ _ _ _ _ _ _ _ _ _ _ _ _ _ _ _ _ _ _ _ _ _ _ _ _ _ _ _ _ _ _ _ _ _ _ _ _ _ _ _ _ _ _ _ _ _ _ _ _ _ _ _ _ _ _ _ _ _ _ _ _ _ _ _ _ _ _ _ _ _ _ _ _ _ _ _ _ _ _ _ _ _ _ _ _ _ _ _ _ _ _ _ _ _ _ _ _ _ _ _ _ _ _ _ _ _ _ _ _ _ _ _ _ _ _ _ _ _ _ _ _ _ _ _ _ _ _ _ _ _ _ _ _ _ _ _ _ _ _ _ _ _ _ _ _ _ _ _ _ _ _ _ _ _ _ _ _ _ _ _ _ _ _ _ _ _ _ _ _ _ _ _ _ _ _ _ _ _ _ _ _ _ _ _ _ _ _ _ _ _ _ _ _ _ _ _ _ _ _ _ _ _ _ _ _ _ _ _ _ _ _ _ _ _ _ _ _ _ _ _ _ _ _ _ _ _ _ _ _ _ _ _ _ _ _ _ _ _ _ _ _ _ _ _ _ _ _ _ _ _ _ _ _ _ _ _ _ _ _ _ _ _ _ _ _ _ _ _ _ _ _ _ _ _ _ _ (hidden ?kk) (hidden ?qp)
      case qp =>
        intro _ a a' _ h e
        cases a
        cases a'
        cases e
        exact h
      case kk =>
      intro v143 v144 v145 v146 v147 left6 w6 hl6 hA6 hR6
      have hdw : d < w4.heap.size ∧ w.heap.size < w4.heap.size := hwr4
      have hA6' := hA6.mono (bs := [d]) (cs := [d, w.heap.size]) (by simp)
      have hGo6 := hidden (hGo.out.keep hA6' (by simp; omega))
      have hap := hR6.ap
      have hlm := hlim.out
      have hCm := hidden (script_commit hR6.sys hl6 ⟨hlm.1, by omega⟩ hR6.jat ⟨hap.1, hap.2.1⟩ hid.out rs K hK10 b2 hbd.out w4.heap.size _ ps hGo6.out hpl.out hdw.1 hdw.2)
      have hs56 := hA6.size
      replace hR6 := hidden hR6
      clear hRd5 hGo hA6 hA6' hl6
      go_wp2_with fail
      refine (hCm.out).mono ?_
      rintro ev w7 ⟨E, rfl, hCo⟩
      obtain ⟨hA7, dead, mem7, wr7, left7, hS7, hw7a, hw7b, hE7, hO7⟩ := com_split hCo
      have hR7 := hidden (hR6.out.disked hA7 hS7)
      have hGo7 := hidden (hGo6.out.keep hA7 (by simp; omega))
      have hGT7 := hGT.out.below hS7.below
      have hNm := hidden (tells_num hE7 (bad_few hbd.out) hGT7)
      have hs67 := hA7.size
      replace hO7 := hidden hO7
      clear hCo hCm hR6 hGo6 hA7
      go_wp2_with fail
      refine (hNm.out).mono ?_
      rintro ev w8 ⟨q8, rfl, hq8, hB8⟩
      have hR8 := hidden (hR7.out.below hB8)
      have hGo8 := hidden (hGo7.out.below hB8)
      have hE8 := hidden (hE7.below hB8)
      have hGT8 := hidden (hGT7.below hB8)
      have hs78 := hB8.size
      clear hNm hR7 hGo7 hE7 hGT7 hS7 hB8
      go_upto_region 37 with fail
      clear hq8
      refine jp_err w8 b2 dead E hE8 hGT8 _ _ _ _ _ _ _ _ _ _ _ _ _ _ _ _ _ _ _ _ _ _ _ _ _ _ _ _ _ _ _ _ _ _ _ _ _ _ _ _ _ _ _ _ _ _ _ _ _ _ _ _ _ _ _ _ _ _ _ _ _ _ _ _ _ _ _ _ _ _ _ _ _ _ _ _ _ _ _ _ _ _ _ _ _ _ _ _ _ _ _ _ _ _ _ _ _ _ _ _ _ _ _ _ _ _ _ _ _ _ _ _ _ _ _ _ _ _ _ _ _ _ _ _ _ _ _ _ _ _ _ _ _ _ _ _ _ _ _ _ _ _ _ _ _ _ _ _ _ _ _ _ _ _ _ _ _ _ _ _ _ _ _ _ _ _ _ _ _ _ _ _ _ _ _ _ _ _ _ _ _ _ _ _ _ _ _ _ _ _ _ _ _ _ _ _ _ _ _ _ _ _ _ _ _ _ _ _ _ _ _ _ _ _ _ _ _ _ _ _ _ _ _ _ _ _ _ _ _ _ _ _ _ _ _ _ _ _ _ _ _ _ _ _ _ _ _ _ _ _ _ _ _ _ _ _ _ _ _ _ _ _ _ _ _ _ _ _ _ _ _ _ _ _ _ _ _ _ _ _ _ _ _ _ _ (hidden ?kk) (hidden ?qp)
      case qp =>
        intro _ a a' _ h e
        cases a
        cases a'
        cases e
        exact h
      case kk =>
      intro v154 v155 v156 v157 v158 v159 v160 v161 v162 v163 v164 v165 v166 v167 v168 v169 v170 v171 v172 v173 v174 v175 w9 hB9
      have hR9 := hidden (hR8.out.below hB9)
      have hGo9 := hidden (hGo8.out.below hB9)
      have hs89 := hB9.size
      clear hR8 hGo8 hE8 hGT8 hB9
      have hS9 := hidden (hR9.out.sys)
      go_upto_region 39 with fail
      refine jp_died w d w.heap.size mem7 wr7 left7 w9 hS9 dead _ _ _ _ _ _ _ _ _ _ _ _ _ _ _ _ _ _ _ _ _ _ _ _ _ _ _ _ _ _ _ _ _ _ _ _ _ _ _ _ _ _ _ _ _ _ _ _ _ _ _ _ _ _ _ _ _ _ _ _ _ _ _ _ _ _ _ _ _ _ _ _ _ _ _ _ _ _ _ _ _ _ _ _ _ _ _ _ _ _ _ _ _ _ _ _ _ _ _ _ _ _ _ _ _ _ _ _ _ _ _ _ _ _ _ _ _ _ _ _ _ _ _ _ _ _ _ _ _ _ _ _ _ _ _ _ _ _ _ _ _ _ _ _ _ _ _ _ _ _ _ _ _ _ _ _ _ _ _ _ _ _ _ _ _ _ _ _ _ _ _ _ _ _ _ _ _ _ _ _ _ _ _ _ _ _ _ _ _ _ _ _ _ _ _ _ _ _ _ _ _ _ _ _ _ _ _ _ _ _ _ _ _ _ _ _ _ _ _ _ _ _ _ _ _ _ _ _ _ _ _ _ _ _ _ _ _ _ _ _ _ _ _ _ _ _ _ _ _ _ _ _ _ _ _ _ _ _ _ _ _ _ _ _ _ _ _ _ _ _ _ _ _ _ _ _ _ _ _ _ _ _ _ _ _ _ (hidden ?kk) (hidden ?qp)
      case qp =>
        intro _ a a' _ h e
        cases a
        cases a'
        cases e
        exact h
      case kk =>
      intro v177 v178 v179 v180 c39 hc39
      replace hc39 := hidden hc39
      clear hS9
      go_upto_if 181 with fail
      refine jp_open w d w.heap.size w3.heap.size jb2 ob ra rcap rs fuse op nw mem mem7 wr7 left7 w9 hR9 ⟨by omega, by omega⟩ K b2 hbd htold hid dead hO7 c39 hc39 _ _ _ _ _ _ _ _ _ _ _ _ _ _ _ _ _ _ _ _ _ _ _ _ _ _ _ _ _ _ _ _ _ _ _ _ _ _ _ _ _ _ _ _ _ _ _ _ _ _ _ _ _ _ _ _ _ _ _ _ _ _ _ _ _ _ _ _ _ _ _ _ _ _ _ _ _ _ _ _ _ _ _ _ _ _ _ _ _ _ _ _ _ _ _ _ _ _ _ _ _ _ _ _ _ _ _ _ _ _ _ _ _ _ _ _ _ _ _ _ _ _ _ _ _ _ _ _ _ _ _ _ _ _ _ _ _ _ _ _ _ _ _ _ _ _ _ _ _ _ _ _ _ _ _ _ _ _ _ _ _ _ _ _ _ _ _ _ _ _ _ _ _ _ _ _ _ _ _ _ _ _ _ _ _ _ _ _ _ _ _ _ _ _ _ _ _ _ _ _ _ _ _ _ _ _ _ _ _ _ _ _ _ _ _ _ _ _ _ _ _ _ _ _ _ _ _ _ _ _ _ _ _ _ _ _ _ _ _ _ _ _ _ _ _ _ _ _ _ _ _ _ _ _ _ _ _ _ _ _ _ _ _ _ _ _ _ _ _ _ _ _ _ _ _ _ _ _ _ _ _ _ _ _ (hidden ?kk) (hidden ?qp)
      case qp =>
        intro _ a a' _ h e
        cases a
        cases a'
        cases e
        exact h
      case kk =>
      intro v2 v182 v183 v184 v185 v186 v187 v188 v189 jb3 mem10 wr10 left10 w10 hA10 hl10 hw10a hw10b hR10 hF10
      have hGo10 := hidden (hGo9.out.keep hA10 (by simp; omega))
      have hFu := hidden (sys_fuse hR10.sys (-1))
      have hs910 := hA10.size
      rw [show fused left10 (-1) = -1 by unfold fused; rw [if_neg hl10]; rfl] at hFu
      replace hR10 := hidden hR10
      replace hF10 := hidden hF10
      clear hR9 hGo9 hc39 hO7 hA10 hl10
      go_wp2_with fail
      refine (hFu.out).mono ?_
      rintro ev w11 ⟨rfl, hS11, hA11⟩
      have hA11' := hA11.mono (bs := [d]) (cs := [d, w.heap.size]) (by simp)
      have hR11 := hidden (hR10.out.disked hA11' hS11)
      have hGo11 := hidden (hGo10.out.keep hA11' (by simp; omega))
      have hs1011 := hA11.size
      clear hFu hR10 hGo10 hS11 hA11 hA11'
      go_upto_region 45 with fail
      refine jp_was w11 b2 _ _ _ _ _ _ _ _ _ _ _ _ _ _ _ _ _ _ _ _ _ _ _ _ _ _ _ _ _ _ _ _ _ _ _ _ _ _ _ _ _ _ _ _ _ _ _ _ _ _ _ _ _ _ _ _ _ _ _ _ _ _ _ _ _ _ _ _ _ _ _ _ _ _ _ _ _ _ _ _ _ _ _ _ _ _ _ _ _ _ _ _ _ _ _ _ _ _ _ _ _ _ _ _ _ _ _ _ _ _ _ _ _ _ _ _ _ _ _ _ _ _ _ _ _ _ _ _ _ _ _ _ _ _ _ _ _ _ _ _ _ _ _ _ _ _ _ _ _ _ _ _ _ _ _ _ _ _ _ _ _ _ _ _ _ _ _ _ _ _ _ _ _ _ _ _ _ _ _ _ _ _ _ _ _ _ _ _ _ _ _ _ _ _ _ _ _ _ _ _ _ _ _ _ _ _ _ _ _ _ _ _ _ _ _ _ _ _ _ _ _ _ _ _ _ _ _ _ _ _ _ _ _ _ _ _ _ _ _ _ _ _ _ _ _ _ _ _ _ _ _ _ _ _ _ _ _ _ _ _ _ _ _ _ _ _ _ _ _ _ _ _ _ _ _ _ _ _ _ _ _ _ _ _ _ _ _ (hidden ?kk) (hidden ?qp)
      case qp =>
        intro _ a a' _ h e
        cases a
        cases a'
        cases e
        exact h
      case kk =>
      intro v192 c45 hc45
      go_upto_if 193 with fail
      refine jp_left w11 rs K w4.heap.size b2 la lcap ps hGo11 hpl c45 hc45 _ _ _ _ _ _ _ _ _ _ _ _ _ _ _ _ _ _ _ _ _ _ _ _ _ _ _ _ _ _ _ _ _ _ _ _ _ _ _ _ _ _ _ _ _ _ _ _ _ _ _ _ _ _ _ _ _ _ _ _ _ _ _ _ _ _ _ _ _ _ _ _ _ _ _ _ _ _ _ _ _ _ _ _ _ _ _ _ _ _ _ _ _ _ _ _ _ _ _ _ _ _ _ _ _ _ _ _ _ _ _ _ _ _ _ _ _ _ _ _ _ _ _ _ _ _ _ _ _ _ _ _ _ _ _ _ _ _ _ _ _ _ _ _ _ _ _ _ _ _ _ _ _ _ _ _ _ _ _ _ _ _ _ _ _ _ _ _ _ _ _ _ _ _ _ _ _ _ _ _ _ _ _ _ _ _ _ _ _ _ _ _ _ _ _ _ _ _ _ _ _ _ _ _ _ _ _ _ _ _ _ _ _ _ _ _ _ _ _ _ _ _ _ _ _ _ _ _ _ _ _ _ _ _ _ _ _ _ _ _ _ _ _ _ _ _ _ _ _ _ _ _ _ _ _ _ _ _ _ _ _ _ _ _ _ _ _ _ _ _ _ _ _ _ _ _ _ _ _ _ _ _ _ _ _ _ (hidden ?kk) (hidden ?qp)
      case qp =>
        intro _ a a' _ h e
        cases a
        cases a'
        cases e
        exact h
      case kk =>
      intro la2 L lcap2 ps2 hL0 hL1 hGo2 hpl2
      have hseen := hidden (fin_seen hF10.out hL0 hL1)
      have hidle := hidden (hF10.out.1)
      have hLK : L ≤ K := by
        by_cases e : b2 = 0
        · rw [hL0 e]; exact Nat.le_refl _
        · rw [hL1 e]; exact Nat.zero_le _
      have hfine : Hid (∀ j, j < L → Fine rs j ∧ 22 ≤ rno rs j) := hidden (fun j hj => by
        have e : b2 = 0 := by
          rcases Classical.em (b2 = 0) with h | h
          · exact h
          · have := hL1 h; omega
        refine ⟨?_, h22.out e j (by omega)⟩
        rcases hbd.out with ⟨-, h, -⟩ | ⟨h, -⟩ | ⟨h, -⟩
        · exact h j (by omega)
        · omega
        · omega)
      have hnr : Hid (∀ j, j < 18 → 0 ≤ nw j ∧ nw j ≤ 2048) := hidden (fun j hj => (htold.out j hj).2)
      have hL10 : L ≤ 10 := by omega
      have hLr : L ≤ rs.length := by omega
      replace hGo2 := hidden hGo2
      replace hpl2 := hidden hpl2
      clear hGo11 hpl hc45 hL0 hL1 hbd h22 hF10
      go_upto_block 8 with fail
      refine jp_which w d w.heap.size w3.heap.size jb3 ob ra rcap rs fuse op nw mem10 wr10 w11 hnbw L hL10 la2 lcap2 ps2 w4.heap.size hR11 hGo2 hpl2 hfine dead hseen hnr _ _ _ _ _ _ _ _ _ _ _ _ _ _ _ _ _ _ _ _ _ _ _ _ _ _ _ _ _ _ _ _ _ _ _ _ _ _ _ _ _ _ _ _ _ _ _ _ _ _ _ _ _ _ _ _ _ _ _ _ _ _ _ _ _ _ _ _ _ _ _ _ _ _ _ _ _ _ _ _ _ _ _ _ _ _ _ _ _ _ _ _ _ _ _ _ _ _ _ _ _ _ _ _ _ _ _ _ _ _ _ _ _ _ _ _ _ _ _ _ _ _ _ _ _ _ _ _ _ _ _ _ _ _ _ _ _ _ _ _ _ _ _ _ _ _ _ _ _ _ _ _ _ _ _ _ _ _ _ _ _ _ _ _ _ _ _ _ _ _ _ _ _ _ _ _ _ _ _ _ _ _ _ _ _ _ _ _ _ _ _ _ _ _ _ _ _ _ _ _ _ _ _ _ _ _ _ _ _ _ _ _ _ _ _ _ _ _ _ _ _ _ _ _ _ _ _ _ _ _ _ _ _ _ _ _ _ _ _ _ _ _ _ _ _ _ _ _ _ _ _ _ _ _ _ _ _ _ _ _ _ _ _ _ _ _ _ _ _ _ _ _ _ _ _ _ _ _ _ _ _ _ (hidden ?kk) (hidden ?qp)
      case qp =>
        intro _ a a' _ h e
        cases a
        cases a'
        cases e
        exact h
      case kk =>
      intro v2 v18 v19 v20 v196 v197 v198 v199 v200 v201 v202 v203 v204 v205 v206 v207 v208 v209 v210 v211 v212 v213 v214 v215 v216 v217 v218 v219 v220 v221 v222 v223 v224 v225 v226 v227 v228 v229 v230 v231 v232 v233 v234 v235 v236 v237 v238 v239 v240 v241 dn w12 hd1 hd0 hB12
      have hR12 := hidden (hR11.out.below hB12)
      have hGo12 := hidden (hGo2.out.below hB12)
      have hs1112 := hB12.size
      replace hd1 := hidden hd1
      replace hd0 := hidden hd0
      clear hR11 hGo2 hB12 hseen
      go_upto_if 242 with fail
      refine jp_done w d w.heap.size w3.heap.size jb3 ob ra rcap rs fuse op nw mem10 wr10 w12 hnbw L hL10 la2 lcap2 ps2 w4.heap.size hR12 hGo12 hpl2 hfine hlim4 hLr hrl' hrc dn hd1 hd0 _ _ _ _ _ _ _ _ _ _ _ _ _ _ _ _ _ _ _ _ _ _ _ _ _ _ _ _ _ _ _ _ _ _ _ _ _ _ _ _ _ _ _ _ _ _ _ _ _ _ _ _ _ _ _ _ _ _ _ _ _ _ _ _ _ _ _ _ _ _ _ _ _ _ _ _ _ _ _ _ _ _ _ _ _ _ _ _ _ _ _ _ _ _ _ _ _ _ _ _ _ _ _ _ _ _ _ _ _ _ _ _ _ _ _ _ _ _ _ _ _ _ _ _ _ _ _ _ _ _ _ _ _ _ _ _ _ _ _ _ _ _ _ _ _ _ _ _ _ _ _ _ _ _ _ _ _ _ _ _ _ _ _ _ _ _ _ _ _ _ _ _ _ _ _ _ _ _ _ _ _ _ _ _ _ _ _ _ _ _ _ _ _ _ _ _ _ _ _ _ _ _ _ _ _ _ _ _ _ _ _ _ _ _ _ _ _ _ _ _ _ _ _ _ _ _ _ _ _ _ _ _ _ _ _ _ _ _ _ _ _ _ _ _ _ _ _ _ _ _ _ _ _ _ _ _ _ _ _ _ _ _ _ _ _ _ _ _ _ _ _ _ _ _ _ _ _ _ _ _ _ _ _ _ (hidden ?kk) (hidden ?qp)
      case qp =>
        intro _ a a' _ h e
        cases a
        cases a'
        cases e
        exact h
      case kk =>
      intro v21 v243 v244 v245 v246 v247 v248 v249 v250 v251 v252 v253 v254 v255 v256 v257 v258 v259 v260 v261 v262 v263 nw13 w13 hT13 hR13
      replace hT13 := hidden hT13
      replace hR13 := hidden hR13
      clear hR12 hGo12 hd1 hd0 hpl2 hfine hnr
      go_upto_block 12 with fail
      refine wp_last (jp_eighteen w d w.heap.size w3.heap.size jb3 ob ra rcap rs fuse op nw13 mem10 wr10 w13 hR13 hT13 _ _ _ _ _ _ _ _ _ _ _ _ _ _ _ _ _ _ _ _ _ _ _ _ _ _ _ _ _ _ _ _ _ _ _ _ _ _ _ _ _ _ _ _ _ _ _ _ _ _ _ _ _ _ _ _ _ _ _ _ _ _ _ _ _ _ _ _ _ _ _ _ _ _ _ _ _ _ _ _ _ _ _ _ _ _ _ _ _ _ _ _ _ _ _ _ _ _ _ _ _ _ _ _ _ _ _ _ _ _ _ _ _ _ _ _ _ _ _ _ _ _ _ _ _ _ _ _ _ _ _ _ _ _ _ _ _ _ _ _ _ _ _ _ _ _ _ _ _ _ _ _ _ _ _ _ _ _ _ _ _ _ _ _ _ _ _ _ _ _ _ _ _ _ _ _ _ _ _ _ _ _ _ _ _ _ _ _ _ _ _ _ _ _ _ _ _ _ _ _ _ _ _ _ _ _ _ _ _ _ _ _ _ _ _ _ _ _ _ _ _ _ _ _ _ _ _ _ _ _ _ _ _ _ _ _ _ _ _ _ _ _ _ _ _ _ _ _ _ _ _ _ _ _ _ _ _ _ _ _ _ _ _ _ _ _ _ _ _ _ _ _ _ _ _ _ _ _ _ _ _ _ _ _ _ (hidden ?kk) (hidden ?qp))
      case qp =>
        intro _ a a' _ h e
        cases a
        cases a'
        cases e
        exact h
      case kk =>
      intro v2 v22 v23 v24 v264 v265 v266 v267 v268 v269 v270 v271 v272 v273 v274 v275 v276 v277 v278 v279 v280 v281 v282 v283 v284 v285 w14 hB14
      have hR14 := hR13.out.below hB14
      have hap14 := hR14.ap
      have hPn : Hid (PlaySt w d w.heap.size w3.heap.size jb3 (5000 * (((i + 1 : Nat) : Int) + 1)) w14) := hidden ⟨⟨nw13, mem10, wr10, hR14.sys, by omega, by omega, hidle.out, hT13.out, hR14.now⟩, hR14.jat, by omega⟩
      clear hR14 hR13 hB14 hap14
      go_wp2_with fail
      go_roundg (21 - (i + 1))
      case measure => rw [hgi.out]; omega
      case rel => exact ⟨i + 1, by omega, rfl, by go_num, jb3, rfl, hPn⟩
    · skip
      have hstop : ¬ ((i : Int) < (ss.length : Int) ∧ (i : Int) < 20) := by omega
      have hE := hidden (hI.out.base)
      go_wp2_with fail
      all_goals (go_ret; exact ⟨rfl, hE.out⟩)
end Go.Proofs.YtbagncolhckhjaaDoor
