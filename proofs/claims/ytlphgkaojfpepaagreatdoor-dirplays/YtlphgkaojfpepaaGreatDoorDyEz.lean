/- DirPlays answers true, whatever it is given, and changes nothing that was there. -/
import Derived.Test.YtlphgkaojfpepaaGreatDoorDyDz
import Derived.Test.YtlphgkaojfpepaaGreatDoorGDf
import Derived.Deep.CutBlock
namespace Go.Proofs.YtlphgkaojfpepaaGreatDoor
open Go.RowKit Go.Extern.Stop Go.Stop Go.Extern Go.Maps Go.Sort Go.Shelf
set_option maxRecDepth 1000000

structure OpD where
  kind : Int
  id : Int
  a : List UInt8
  b : List UInt8
/-- A script of calls, as it lies in memory. -/
def OpsD (w : World) (v : Value) (ss : List OpD) : Prop :=
  ∃ a cap, v = .slice a ss.length cap ∧ ss.length ≤ maxLen ∧ (∀ s ∈ ss, i64 s.id) ∧
    (ss ≠ [] → ∃ b off, a = some ⟨b, off, none⟩ ∧ b < w.heap.size ∧ ∀ k s, ss[k]? = some s → w.cell? ⟨b, off + k * 4, none⟩ = some (.int .i64 s.kind) ∧ w.cell? ⟨b, off + k * 4 + 1, none⟩ = some (.int .i64 s.id) ∧ w.cell? ⟨b, off + k * 4 + 2, none⟩ = some (.string (mkB s.a)) ∧ w.cell? ⟨b, off + k * 4 + 3, none⟩ = some (.string (mkB s.b)))
theorem QP10.below {E : TE} {db base k : Nat} {lv : Value} {w : World} (h : QP10 E db base k lv w) : Below E.w0.heap.size E.w0 w := by
  obtain ⟨L, hP, -⟩ := h.ex
  exact hP.d.b.below
set_option maxHeartbeats 16000000 in
theorem dirPlays_calls (v : Value) (ss : List OpD) (w : World) (hv : OpsD w v ss) (hG : Ground w) (hGT : GT w) :
    Calls Tryz.prog 3 #[v] w fun e w' => e = .returned (.bool true) ∧ Below w.heap.size w w' := by
  have kA := hidden (fun (wx : World) (hx : Below w.heap.size w wx) => awake10_calls wx (hG.below hx))
  have kGT := hidden (fun (wx : World) (hx : Below w.heap.size w wx) => hGT.below hx)
  have hV := hidden hv
  obtain ⟨av, vcap, rfl, hmax, -⟩ := hv
  have hmax2 : (ss.length : Int) ≤ 9223372036854775807 := by unfold maxLen at hmax; omega
  have hmd := hidden (made10_calls w hG)
  clear hG hGT hmax
  go_enter Tryz.func3, Tryz.ntmps3
  go_wp2_with fail
  refine (hmd.out).mono ?_
  rintro ev w1 ⟨jb, cb, mb, ab, tb, db, rfl, hok, -, hD1, -, hB1⟩
  dsimp only
  have hAw := hidden (kA.out w1 hB1)
  obtain ⟨E, hE⟩ : ∃ E, E = te10 w jb cb mb ab tb := ⟨_, rfl⟩
  rw [← hE] at hok hD1
  have e3 : ptr tb = ptr E.tb := by rw [hE]; rfl
  have hw0 : E.w0 = w := by rw [hE]; rfl
  have kGT2 := hidden (show ∀ wx, Below E.w0.heap.size E.w0 wx → GT wx from fun wx hx => kGT.out wx (by rw [← hw0]; exact hx))
  replace hE := hidden hE
  replace hok := hidden hok
  replace hw0 := hidden hw0
  replace hD1 := hidden hD1
  clear hmd hB1
  go_wp2_with fail
  refine (hAw.out).mono ?_
  rintro ev w2 ⟨rfl, hB2⟩
  dsimp only
  have hD2 := hD1.out.more hB2
  have hQ2 := hidden (show QP10 E db w2.heap.size 0 (.slice none 0 0) w2 from by
    obtain ⟨K, D, f, lim, h1, -⟩ := hD2.b.s
    exact ⟨[], ⟨hD2, ⟨World.ownsRow_nil w2 _ _ _⟩, (fun r hr => by cases hr), h1.lts, hD2.b.lt, Nat.le_refl _⟩, Nat.le_refl _⟩)
  clear hAw hD1 hB2 hD2
  rw [e3]
  generalize w2.heap.size = base at hQ2
  clear e3
  go_wp2_with fail
  go_loopg [5, 6] 51 (fun gk lv q wr => ∃ i : Nat, i ≤ 50 ∧ gk = 51 - i ∧ q = .int .i64 i ∧ Hid (QP10 E db base i lv wr))
  case atStart => exact ⟨0, by omega, rfl, rfl, hidden hQ2.out⟩
  case round =>
    obtain ⟨i, hi, hgk, rfl, hI⟩ := hrel
    replace hgk := hidden hgk
    clear hQ2
    have hbel := hidden (show Below w.heap.size w wr from by have := hI.out.below; rw [hw0.out] at this; exact this)
    by_cases hlt : i < ss.length ∧ i < 50
    · have hl1 : (i : Int) < (ss.length : Int) := by omega
      have hl2 : (i : Int) < 50 := by omega
      obtain ⟨av', vc, hve, -, hi64, hcs⟩ := hV.out
      obtain ⟨rfl, -, -⟩ := Value.slice.inj hve
      obtain ⟨vb, off, rfl, hvb, hcell⟩ := hcs (by intro e; rw [e] at hlt; simp at hlt)
      obtain ⟨o, ho⟩ : ∃ o, ss[i]? = some o := ⟨_, List.getElem?_eq_getElem hlt.1⟩
      obtain ⟨c0, c1, c2, c3⟩ := hcell i o ho
      have hno := hi64 o (List.mem_of_getElem? ho)
      replace c0 := (hbel.out.cell (p := ⟨vb, off + i * 4, none⟩) hvb).trans c0
      replace c1 := (hbel.out.cell (p := ⟨vb, off + i * 4 + 1, none⟩) hvb).trans c1
      replace c2 := (hbel.out.cell (p := ⟨vb, off + i * 4 + 2, none⟩) hvb).trans c2
      replace c3 := (hbel.out.cell (p := ⟨vb, off + i * 4 + 3, none⟩) hvb).trans c3
      obtain ⟨kind, id, s, t⟩ := o
      simp only at c0 c1 c2 c3 hno
      have hxl := hidden hlt
      clear hve hcs hcell hlt hvb ho hi64
      by_cases hA : s.length ≤ 200
      · by_cases hB : t.length ≤ 200
        · go_upto_block 1 with fail
          refine dp_round E db base i vb off ss.length vcap kind id s t _ _ hok hI c0 c1 c2 c3 (hidden hno) hxl.out.1 hxl.out.2 hA hB kGT2 _ _ _ _ _ _ _ _ _ _ _ _ _ _ _ _ _ _ _ _ _ _ _ _ _ _ _ _ _ _ _ _ _ _ _ _ _ _ _ _ _ _ _ _ _ _ _ _ _ _ _ _ _ _ _ _ _ _ _ _ _ _ _ _ _ _ _ _ _ _ _ _ _ _ _ _ _ _ _ _ _ _ _ _ _ _ _ _ _ _ _ _ _ _ _ _ _ _ _ _ _ _ _ _ _ _ _ _ _ _ _ _ _ _ _ _ _ _ _ _ _ _ _ _ _ _ _ _ _ _ _ _ _ _ _ _ _ _ _ _ _ _ _ _ _ _ _ _ _ _ _ _ _ _ _ _ _ _ _ _ _ _ _ _ _ _ _ _ _ _ _ _ _ _ _ _ _ _ _ _ _ _ _ _ _ _ _ _ _ _ _ _ _ _ _ _ _ _ _ _ _ _ _ _ _ _ _ _ _ _ _ _ _ _ _ _ _ _ _ _ _ _ _ _ _ _ _ _ _ _ _ _ _ _ _ _ _ _ _ _ _ _ _ _ _ _ _ _ _ _ _ _ _ _ _ _ _ _ _ _ _ _ _ _ _ _ _ _ _ _ _ _ _ _ _ _ _ _ _ (hidden ?kk) (hidden ?qp)
          case qp =>
            intro _ a a' _ h e
            cases a
            cases a'
            cases e
            exact h
          case kk =>
            intro v7 v8 v9 v10 v11 v12 v13 v14 v15 v16 v17 v18 v19 v20 v21 v42 v43 v44 v45 v46 v47 v48 v49 v50 v51 v52 v53 v54 v55 v56 v57 v58 v59 v60 v61 v62 v63 v64 v65 v66 v67 v68 v69 v70 v71 v72 v73 v74 v75 v76 v77 v78 v79 v80 v81 v82 v83 v84 v85 v86 v87 v88 v89 v90 v91 v92 v93 v94 v95 v96 v97 v98 v99 v100 v101 v102 v103 v104 v105 v106 v107 v108 v109 v110 v111 v112 v113 v114 v115 v116 v117 v118 v119 v120 v121 v122 v123 v124 v125 v126 v127 v128 v129 v130 v131 v132 v133 v134 v135 v136 v137 v138 v139 v140 v141 v142 v143 v144 v145 v146 v147 v148 v149 v150 v151 v152 v153 v154 v155 v156 v157 v158 v159 v160 v161 v162 v163 v164 v165 v166 v167 v168 v169 v170 v171 v172 v173 v174 v175 v176 v177 v178 v179 v180 v181 v182 v183 v184 v185 v186 v187 v188 v189 v190 v191 v192 v193 v194 v195 v196 v197 v198 v199 v200 v201 v202 v203 v204 v205 v206 v207 v208 v209 v210 v211 v212 v213 v214 v215 v216 v217 v218 v219 v220 v221 v222 v223 v224 v225 v226 v227 v228 v229 v230 v231 v232 v233 v234 v235 v236 v237 v238 v239 v240 v241 v242 v243 v244 v245 v246 v247 v248 v249 v250 v251 v252 v253 v254 v255 v256 v257 v258 v259 v260 v261 v262 v263 v264 v265 v266 v267 v268 v269 v270 v271 v272 v273 v274 v275 v276 v277 v278 v279 v280 v281 lv2 w6 hQ6
            replace hQ6 := hidden hQ6
            dsimp only
            go_wp2
            go_roundg (51 - (i + 1))
            case measure => rw [hgk.out]; omega
            case rel => exact ⟨i + 1, by have := hxl.out; omega, rfl, by go_num, hidden hQ6.out⟩
        · have hsA : ¬ (200 : Int) < ((mkB s).size : Int) := by rw [mk_size]; omega
          have hsB : (200 : Int) < ((mkB t).size : Int) := by rw [mk_size]; omega
          have hB5 := hidden (hbel.out.trans (((Below.refl wr.heap.size wr).alloc (Nat.le_refl _) (.cells #[.int .i64 kind, .int .i64 id, .string (mkB s), .string (mkB t)] 30)).mono hbel.out.size))
          go_wp2
          go_ret
          exact ⟨rfl, hB5.out⟩
      · have hsA : (200 : Int) < ((mkB s).size : Int) := by rw [mk_size]; omega
        have hB5 := hidden (hbel.out.trans (((Below.refl wr.heap.size wr).alloc (Nat.le_refl _) (.cells #[.int .i64 kind, .int .i64 id, .string (mkB s), .string (mkB t)] 30)).mono hbel.out.size))
        go_wp2
        go_ret
        exact ⟨rfl, hB5.out⟩
    · by_cases hl0 : i < ss.length
      · have hl1 : (i : Int) < (ss.length : Int) := by omega
        have hl2 : ¬ (i : Int) < 50 := by omega
        replace hlt := hidden hlt
        go_wp2
        go_ret
        exact ⟨rfl, hbel.out⟩
      · have hl1 : ¬ (i : Int) < (ss.length : Int) := by omega
        replace hlt := hidden hlt
        go_wp2
        go_ret
        exact ⟨rfl, hbel.out⟩
end Go.Proofs.YtlphgkaojfpepaaGreatDoor
