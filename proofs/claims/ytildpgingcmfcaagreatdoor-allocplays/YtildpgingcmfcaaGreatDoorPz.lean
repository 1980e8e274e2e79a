/- AllocPlays answers true, whatever it is given, and changes nothing that was there. -/
import Derived.Test.YtildpgingcmfcaaGreatDoorPzC
import Derived.Deep.CutBlock
namespace Go.Proofs.YtildpgingcmfcaaGreatDoor
open Go.RowKit Go.Extern.Stop Go.Stop Go.Extern Go.Maps Go.Sort Go.Shelf
set_option maxRecDepth 1000000

set_option maxHeartbeats 16000000 in
theorem allocPlays_calls (n : Int) (v : Value) (ss : List OpA) (w : World) (hv : OpsA w v ss) (hG : Ground w) (hGT : GT w) :
    Calls Tryz.prog 3 #[.int .i64 n, v] w fun e w' => e = .returned (.bool true) ∧ Below w.heap.size w w' := by
  have hmd := hidden (made7_calls w hG)
  have kA := hidden (fun (wx : World) (hx : Below w.heap.size w wx) => awake7_calls wx (hG.below hx))
  have kGT := hidden (fun (wx : World) (hx : Below w.heap.size w wx) => hGT.below hx)
  have hV := hidden hv
  obtain ⟨av, vcap, rfl, hmax, -⟩ := hv
  have hmax2 : (ss.length : Int) ≤ 9223372036854775807 := by unfold maxLen at hmax; omega
  clear hG hGT hmax
  obtain ⟨m, hm, hm2⟩ : ∃ m : Nat, bits .and .i64 n 255 = (m : Int) ∧ m ≤ 255 := by
    have : 0 ≤ bits .and .i64 n 255 ∧ bits .and .i64 n 255 ≤ 255 := and_low n 255 (by omega)
    exact ⟨(bits .and .i64 n 255).toNat, by have := this.1; omega, by omega⟩
  obtain ⟨N, hN, hN1, hN2⟩ : ∃ N : Nat, (m : Int) % 40 + 1 = (N : Int) ∧ 1 ≤ N ∧ N ≤ 40 := ⟨m % 40 + 1, by omega, by omega, by omega⟩
  go_enter Tryz.func3, Tryz.ntmps3
  go_wp2_with fail
  refine (hmd.out).mono ?_
  rintro ev w1 ⟨jb, cb, mb, rfl, hC1⟩
  have hAw := hidden (kA.out w1 hC1.sys.below)
  replace hC1 := hidden hC1
  clear hmd
  go_wp2_with fail
  refine (hAw.out).mono ?_
  rintro ev w2 ⟨rfl, hB2⟩
  have hC2 := hC1.out.more hB2
  have hNw := hidden (anew_calls cb 2 15 N hN1 (by omega) (by omega) w2)
  have hl2 := hC2.lts
  replace hC2 := hidden hC2
  clear hAw hC1 hB2
  go_wp2_with fail
  refine (hNw.out).mono ?_
  rintro ev w3 ⟨rfl, hM3, hB3⟩
  have hC3 := hidden (hC2.out.more hB3)
  have hl3 := hM3.lt
  replace hM3 := hidden hM3
  clear hNw hC2 hB3
  go_upto_region 8 with fail
  generalize hd : w.heap.size + 1 = d at hC3 ⊢
  generalize w2.heap.size = ab at hM3 hl2 hl3 ⊢
  have hab := hidden (show ab ∉ [d, w.heap.size, jb, cb, mb] by simp only [List.mem_cons, List.not_mem_nil, or_false, not_or]; omega)
  clear hl2 hl3
  refine ap_rows w d w.heap.size jb cb mb ab N w3 hC3 hM3 hN1 hN2 hab _ _ _ _ _ _ _ _ _ _ _ _ _ _ _ _ _ _ _ _ _ _ _ _ _ _ _ _ _ _ _ _ _ _ _ _ _ _ _ _ _ _ _ _ _ _ _ _ _ _ _ _ _ _ _ _ _ _ _ _ _ _ _ _ _ _ _ _ _ _ _ _ _ _ _ _ _ _ _ _ _ _ _ _ _ _ _ _ _ _ _ _ _ _ _ _ _ _ _ _ _ _ _ _ _ _ _ _ _ _ _ _ _ _ _ _ _ _ _ _ _ _ _ _ _ _ _ _ _ _ _ _ _ _ _ _ _ _ _ _ _ _ _ _ _ _ _ _ _ _ _ _ _ _ _ _ _ _ _ _ _ _ _ _ _ _ _ _ _ _ _ _ _ _ _ _ _ _ _ _ _ _ _ _ _ _ _ _ _ _ _ _ _ _ _ _ _ _ _ _ _ _ _ _ _ _ _ _ _ _ _ _ _ _ _ _ _ _ _ _ _ _ _ _ _ _ _ _ _ _ _ _ _ _ _ _ _ _ _ _ _ _ _ (hidden ?kk) (hidden ?qp)
  case qp =>
    intro _ a a' _ h e
    cases a
    cases a'
    cases e
    exact h
  case kk =>
    intro v53 v54 v55 v56 nb lb w4 hP
    have hQ := hidden (QSt.mk ⟨_, _, hP⟩)
    clear hC3 hM3 hab hd
    dsimp only
    clear hP
    go_wp2_with fail
    go_loopg [11] 61 (fun gk q wr => ∃ i : Nat, i ≤ 60 ∧ gk = 61 - i ∧ q = .int .i64 i ∧ Hid (QSt w d w.heap.size jb cb mb ab nb lb N (1000 * (i : Int)) wr))
    case atStart => exact ⟨0, by omega, rfl, rfl, hidden hQ.out⟩
    case round =>
      obtain ⟨i, hi, hgk, rfl, hI⟩ := hrel
      replace hgk := hidden hgk
      clear hQ
      by_cases hlt : i < ss.length ∧ i < 60
      · have hl1 : (i : Int) < (ss.length : Int) := by omega
        have hl2 : (i : Int) < 60 := by omega
        obtain ⟨av', vc, hve, -, hi64, hcs⟩ := hV.out
        obtain ⟨rfl, -, -⟩ := Value.slice.inj hve
        obtain ⟨vb, off, rfl, hvb, hcell⟩ := hcs (by intro e; rw [e] at hlt; simp at hlt)
        obtain ⟨o, ho⟩ : ∃ o, ss[i]? = some o := ⟨_, List.getElem?_eq_getElem hlt.1⟩
        obtain ⟨ho0, ho1⟩ := hcell i o ho
        have hno := hi64 o (List.mem_of_getElem? ho)
        replace ho0 := (hI.out.below.cell (p := ⟨vb, off + i * 2, none⟩) hvb).trans ho0
        replace ho1 := (hI.out.below.cell (p := ⟨vb, off + i * 2 + 1, none⟩) hvb).trans ho1
        obtain ⟨kind, no⟩ := o
        simp only at ho0 ho1 hno
        have hxl := hidden hlt
        clear hve hcs hcell hlt hvb ho hi64
        go_upto_block 1 with fail
        refine ap_round w d w.heap.size jb cb mb ab nb lb N i vb off ss.length vcap kind no (1000 * (i : Int)) _ hI ho0 ho1 (hidden hno) hxl.out.1 kGT (by omega) _ _ _ _ _ _ _ _ _ _ _ _ _ _ _ _ _ _ _ _ _ _ _ _ _ _ _ _ _ _ _ _ _ _ _ _ _ _ _ _ _ _ _ _ _ _ _ _ _ _ _ _ _ _ _ _ _ _ _ _ _ _ _ _ _ _ _ _ _ _ _ _ _ _ _ _ _ _ _ _ _ _ _ _ _ _ _ _ _ _ _ _ _ _ _ _ _ _ _ _ _ _ _ _ _ _ _ _ _ _ _ _ _ _ _ _ _ _ _ _ _ _ _ _ _ _ _ _ _ _ _ _ _ _ _ _ _ _ _ _ _ _ _ _ _ _ _ _ _ _ _ _ _ _ _ _ _ _ _ _ _ _ _ _ _ _ _ _ _ _ _ _ _ _ _ _ _ _ _ _ _ _ _ _ _ _ _ _ _ _ _ _ _ _ _ _ _ _ _ _ _ _ _ _ _ _ _ _ _ _ _ _ _ _ _ _ _ _ _ _ _ _ _ _ _ _ _ _ _ _ _ _ _ _ _ _ _ (hidden ?kk) (hidden ?qp)
        case qp =>
          intro _ a a' _ h e
          cases a
          cases a'
          cases e
          exact h
        case kk =>
          intro v12 v13 v14 v15 v16 v17 v18 v19 v20 v21 v22 v23 v24 v25 v26 v67 v68 v69 v70 v71 v72 v73 v74 v75 v76 v77 v78 v79 v80 v81 v82 v83 v84 v85 v86 v87 v88 v89 v90 v91 v92 v93 v94 v95 v96 v97 v98 v99 v100 v101 v102 v103 v104 v105 v106 v107 v108 v109 v110 v111 v112 v113 v114 v115 v116 v117 v118 v119 v120 v121 v122 v123 v124 v125 v126 v127 v128 v129 v130 v131 v132 v133 v134 v135 v136 v137 v138 v139 v140 v141 v142 v143 v144 v145 v146 v147 v148 v149 v150 v151 v152 v153 v154 v155 v156 v157 v158 v159 v160 v161 v162 v163 v164 v165 v166 v167 v168 v169 v170 v171 v172 v173 v174 v175 v176 v177 v178 v179 v180 v181 v182 v183 v184 v185 v186 v187 v188 v189 v190 v191 v192 v193 v194 v195 v196 v197 v198 v199 v200 v201 v202 v203 v204 v205 v206 v207 v208 v209 v210 v211 v212 v213 v214 v215 v216 v217 v218 v219 v220 v221 v222 v223 v224 v225 v226 v227 v228 v229 v230 v231 v232 v233 v234 v235 v236 v237 v238 v239 v240 v241 w6 hQ6
          replace hQ6 := hidden hQ6
          dsimp only
          go_wp2
          go_roundg (61 - (i + 1))
          case measure => rw [hgk.out]; omega
          case rel =>
            refine ⟨i + 1, by have := hxl.out; omega, rfl, by go_num, hidden ?_⟩
            have e : 1000 * ((i + 1 : Nat) : Int) = 1000 * (i : Int) + 1000 := by omega
            rw [e]
            exact hQ6.out
      · by_cases hl0 : i < ss.length
        · have hl1 : (i : Int) < (ss.length : Int) := by omega
          have hl2 : ¬ (i : Int) < 60 := by omega
          replace hlt := hidden hlt
          have hE := hidden hI.out.below
          go_wp2
          go_ret
          exact ⟨rfl, hE.out⟩
        · have hl1 : ¬ (i : Int) < (ss.length : Int) := by omega
          replace hlt := hidden hlt
          have hE := hidden hI.out.below
          go_wp2
          go_ret
          exact ⟨rfl, hE.out⟩
end Go.Proofs.YtildpgingcmfcaaGreatDoor
