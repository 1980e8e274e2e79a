/- InodePlays answers true, whatever it is given, and changes nothing that was there. -/
import Derived.Test.YtdkpffpjbpfdnaaGreatDoorIlMd
import Derived.Test.YtdkpffpjbpfdnaaGreatDoorGIh
import Derived.Deep.CutBlock
namespace Go.Proofs.YtdkpffpjbpfdnaaGreatDoor
open Go.RowKit Go.Extern.Stop Go.Stop Go.Extern Go.Maps Go.Sort Go.Shelf
set_option maxRecDepth 1000000

structure OpI where
  kind : Int
  no : Int
  at1 : Int
  long : Int
  n : Int
/-- A script of calls, as it lies in memory. -/
def OpsI (w : World) (v : Value) (ss : List OpI) : Prop :=
  ∃ a cap, v = .slice a ss.length cap ∧ ss.length ≤ maxLen ∧ (∀ s ∈ ss, i64 s.no ∧ i64 s.at1 ∧ i64 s.long ∧ i64 s.n) ∧
    (ss ≠ [] → ∃ b off, a = some ⟨b, off, none⟩ ∧ b < w.heap.size ∧ ∀ k s, ss[k]? = some s → w.cell? ⟨b, off + k * 5, none⟩ = some (.int .i64 s.kind) ∧ w.cell? ⟨b, off + k * 5 + 1, none⟩ = some (.int .i64 s.no) ∧ w.cell? ⟨b, off + k * 5 + 2, none⟩ = some (.int .i64 s.at1) ∧ w.cell? ⟨b, off + k * 5 + 3, none⟩ = some (.int .i64 s.long) ∧ w.cell? ⟨b, off + k * 5 + 4, none⟩ = some (.int .i64 s.n))
theorem Q8.below {E : TE} {rb lim : Nat} {w : World} (h : Q8 E rb lim w) : Below E.w0.heap.size E.w0 w := by
  obtain ⟨K, D, hP⟩ := h.ex
  exact hP.p.s.below
set_option maxHeartbeats 16000000 in
theorem inodePlays_calls (zn : Int) (v : Value) (ss : List OpI) (w : World) (hv : OpsI w v ss) (hG : Ground w) (hGT : GT w) :
    Calls Tryz.prog 3 #[.int .i64 zn, v] w fun e w' => e = .returned (.bool true) ∧ Below w.heap.size w w' := by
  have kA := hidden (fun (wx : World) (hx : Below w.heap.size w wx) => awake8_calls wx (hG.below hx))
  have kGT := hidden (fun (wx : World) (hx : Below w.heap.size w wx) => hGT.below hx)
  have hV := hidden hv
  obtain ⟨av, vcap, rfl, hmax, -⟩ := hv
  have hmax2 : (ss.length : Int) ≤ 9223372036854775807 := by unfold maxLen at hmax; omega
  obtain ⟨k, hk, hk1, hk2⟩ : ∃ k : Nat, (bits .and .i64 zn 63).tmod 50 + 10 = (k : Int) ∧ 10 ≤ k ∧ k ≤ 59 := by
    have h : 0 ≤ bits .and .i64 zn 63 ∧ bits .and .i64 zn 63 ≤ 63 := and_low zn 63 (by decide)
    have h0 := Int.tmod_nonneg 50 h.1
    have h1 := Int.tmod_lt_of_pos (bits .and .i64 zn 63) (b := 50) (by omega)
    exact ⟨((bits .and .i64 zn 63).tmod 50 + 10).toNat, by omega, by omega, by omega⟩
  have hmd := hidden (made8_calls w hG k (by omega) (by omega))
  clear hG hGT hmax
  go_enter Tryz.func3, Tryz.ntmps3
  go_wp2_with fail
  refine (hmd.out).mono ?_
  rintro ev w1 ⟨jb, cb, mb, ab, tb, rfl, hok, hfar, hSt⟩
  dsimp only
  have hS1 := s8_new hSt
  have hAw := hidden (kA.out w1 hS1.below)
  obtain ⟨E, hE⟩ : ∃ E, E = te8 w jb cb mb ab tb k := ⟨_, rfl⟩
  rw [← hE] at hS1 hok hfar
  have e5 : ptr cb = ptr E.cb := by rw [hE]; rfl
  have e6 : ptr ab = ptr E.ab := by rw [hE]; rfl
  have e7 : ptr tb = ptr E.tb := by rw [hE]; rfl
  have e0 : (k : Int) = ((E.k : Nat) : Int) := by rw [hE]; rfl
  have htn := hidden (show E.tn = 6 by rw [hE]; rfl)
  have hkk := hidden (show E.kk = E.k by rw [hE]; rfl)
  have hfr := hidden (show E.fr = 20 by rw [hE]; rfl)
  have hk60 : E.k ≤ 60 := by omega
  have hw0 : E.w0 = w := by rw [hE]; rfl
  have kGT2 := hidden (show ∀ wx, Below E.w0.heap.size E.w0 wx → GT wx from fun wx hx => kGT.out wx (by rw [← hw0]; exact hx))
  replace hE := hidden hE
  replace hok := hidden hok
  replace hfar := hidden hfar
  replace hw0 := hidden hw0
  replace hS1 := hidden hS1
  clear hmd hSt
  go_wp2_with fail
  refine (hAw.out).mono ?_
  rintro ev w2 ⟨rfl, hB2⟩
  dsimp only
  have hS2 := hidden (hS1.out.more hB2)
  clear hAw hS1 hB2
  go_upto_region 6 with fail
  obtain ⟨w3, hw3, hQ3⟩ : ∃ w3, w2.alloc (.cells #[.int .i64 0, .string ⟨#[]⟩, .int .i64 0, .string ⟨#[]⟩, .int .i64 0, .string ⟨#[]⟩, .int .i64 0, .string ⟨#[]⟩, .int .i64 0, .string ⟨#[]⟩, .int .i64 0, .string ⟨#[]⟩, .int .i64 0, .string ⟨#[]⟩] 31) = w3 ∧ Q8 E w2.heap.size 0 w3 := by
    refine ⟨_, rfl, ⟨fun _ => 0, fun _ => [], ?_, ?_, ?_, ?_⟩⟩
    · refine P8.of (hS2.out.more ((Below.refl _ _).alloc (Nat.le_refl _) _)) ?_
      have : sumB (fun _ => ([] : List Int)) 7 = 0 := by decide
      rw [this]
      omega
    · refine ⟨fun id hid => ?_, fun id hid => ?_, fun i hi => ?_⟩
      · match id, hid with
        | 0, _ => simp
        | 1, _ => simp
        | 2, _ => simp
        | 3, _ => simp
        | 4, _ => simp
        | 5, _ => simp
        | 6, _ => simp
        | n + 7, h => omega
      · match id, hid with
        | 0, _ => simp; rfl
        | 1, _ => simp; rfl
        | 2, _ => simp; rfl
        | 3, _ => simp; rfl
        | 4, _ => simp; rfl
        | 5, _ => simp; rfl
        | 6, _ => simp; rfl
        | n + 7, h => omega
      · simp
    · intro id _ _ _; rfl
    · exact hS2.out.lts
  replace hQ3 := hidden hQ3
  rw [hw3, e0, e5, e6, e7]
  generalize w2.heap.size = rb at hQ3 ⊢
  clear hw3 hS2 e0 e5 e6 e7
  go_wp2_with fail
  go_loopg [9] 31 (fun gk q wr => ∃ i : Nat, i ≤ 30 ∧ gk = 31 - i ∧ q = .int .i64 i ∧ Hid (Q8 E rb (1000 * i) wr))
  case atStart => exact ⟨0, by omega, rfl, rfl, hidden hQ3.out⟩
  case round =>
    obtain ⟨i, hi, hgk, rfl, hI⟩ := hrel
    replace hgk := hidden hgk
    clear hQ3
    have hbel := hidden (show Below w.heap.size w wr from by have := hI.out.below; rw [hw0.out] at this; exact this)
    by_cases hlt : i < ss.length ∧ i < 30
    · have hl1 : (i : Int) < (ss.length : Int) := by omega
      have hl2 : (i : Int) < 30 := by omega
      obtain ⟨av', vc, hve, -, hi64, hcs⟩ := hV.out
      obtain ⟨rfl, -, -⟩ := Value.slice.inj hve
      obtain ⟨vb, off, rfl, hvb, hcell⟩ := hcs (by intro e; rw [e] at hlt; simp at hlt)
      obtain ⟨o, ho⟩ : ∃ o, ss[i]? = some o := ⟨_, List.getElem?_eq_getElem hlt.1⟩
      obtain ⟨c0, c1, c2, c3, c4⟩ := hcell i o ho
      have hno := hi64 o (List.mem_of_getElem? ho)
      replace c0 := (hbel.out.cell (p := ⟨vb, off + i * 5, none⟩) hvb).trans c0
      replace c1 := (hbel.out.cell (p := ⟨vb, off + i * 5 + 1, none⟩) hvb).trans c1
      replace c2 := (hbel.out.cell (p := ⟨vb, off + i * 5 + 2, none⟩) hvb).trans c2
      replace c3 := (hbel.out.cell (p := ⟨vb, off + i * 5 + 3, none⟩) hvb).trans c3
      replace c4 := (hbel.out.cell (p := ⟨vb, off + i * 5 + 4, none⟩) hvb).trans c4
      obtain ⟨kind, id, at_, long, n⟩ := o
      simp only at c0 c1 c2 c3 c4 hno
      have hxl := hidden hlt
      clear hve hcs hcell hlt hvb ho hi64
      go_upto_block 1 with fail
      refine ip_round w jb cb mb ab tb k E rb i vb off ss.length vcap kind id at_ long n (1000 * i) _ hE hok hfar htn hkk hfr hk60 hI c0 c1 c2 c3 c4 (hidden hno) hxl.out.1 kGT2 (by omega) _ _ _ _ _ _ _ _ _ _ _ _ _ _ _ _ _ _ _ _ _ _ _ _ _ _ _ _ _ _ _ _ _ _ _ _ _ _ _ _ _ _ _ _ _ _ _ _ _ _ _ _ _ _ _ _ _ _ _ _ _ _ _ _ _ _ _ _ _ _ _ _ _ _ _ _ _ _ _ _ _ _ _ _ _ _ _ _ _ _ _ _ _ _ _ _ _ _ _ _ _ _ _ _ _ _ _ _ _ _ _ _ _ _ _ _ _ _ _ _ _ _ _ _ _ _ _ _ _ _ _ _ _ _ _ _ _ _ _ _ _ _ _ _ _ _ _ _ _ _ _ _ _ _ _ _ _ _ _ _ _ _ _ _ _ _ _ _ _ _ _ _ _ _ _ _ _ _ _ _ _ _ _ _ _ _ _ _ _ _ _ _ _ _ _ _ _ _ _ _ _ _ _ _ _ _ _ _ _ _ _ _ _ _ _ _ _ _ _ _ _ _ _ _ _ _ _ _ _ _ _ _ _ _ _ _ _ _ _ _ _ _ _ _ _ _ _ _ _ _ _ _ _ _ _ _ _ _ _ _ _ _ _ _ _ _ _ _ _ _ _ _ _ _ _ _ _ _ _ _ _ _ _ _ _ _ _ _ _ _ _ _ _ _ _ _ _ _ _ _ _ _ _ _ _ _ _ _ _ _ _ _ _ _ _ _ _ _ _ _ _ _ _ _ _ _ _ _ _ _ _ _ _ _ _ _ _ _ _ _ _ _ _ _ _ _ _ _ _ _ _ _ _ _ _ _ _ _ _ _ _ _ _ _ _ _ _ _ _ _ _ _ _ _ _ _ _ _ _ _ _ _ _ _ _ _ _ _ _ _ _ _ _ _ _ _ _ _ (hidden ?kk) (hidden ?qp)
      case qp =>
        intro _ a a' _ h e
        cases a
        cases a'
        cases e
        exact h
      case kk =>
        intro v10 v11 v12 v13 v14 v15 v16 v17 v18 v19 v20 v21 v22 v23 v24 v25 v26 v27 v28 v29 v56 v57 v58 v59 v60 v61 v62 v63 v64 v65 v66 v67 v68 v69 v70 v71 v72 v73 v74 v75 v76 v77 v78 v79 v80 v81 v82 v83 v84 v85 v86 v87 v88 v89 v90 v91 v92 v93 v94 v95 v96 v97 v98 v99 v100 v101 v102 v103 v104 v105 v106 v107 v108 v109 v110 v111 v112 v113 v114 v115 v116 v117 v118 v119 v120 v121 v122 v123 v124 v125 v126 v127 v128 v129 v130 v131 v132 v133 v134 v135 v136 v137 v138 v139 v140 v141 v142 v143 v144 v145 v146 v147 v148 v149 v150 v151 v152 v153 v154 v155 v156 v157 v158 v159 v160 v161 v162 v163 v164 v165 v166 v167 v168 v169 v170 v171 v172 v173 v174 v175 v176 v177 v178 v179 v180 v181 v182 v183 v184 v185 v186 v187 v188 v189 v190 v191 v192 v193 v194 v195 v196 v197 v198 v199 v200 v201 v202 v203 v204 v205 v206 v207 v208 v209 v210 v211 v212 v213 v214 v215 v216 v217 v218 v219 v220 v221 v222 v223 v224 v225 v226 v227 v228 v229 v230 v231 v232 v233 v234 v235 v236 v237 v238 v239 v240 v241 v242 v243 v244 v245 v246 v247 v248 v249 v250 v251 v252 v253 v254 v255 v256 v257 v258 v259 v260 v261 v262 v263 v264 v265 v266 v267 v268 v269 v270 v271 v272 v273 v274 v275 v276 v277 v278 v279 v280 v281 v282 v283 v284 v285 v286 v287 v288 v289 v290 v291 v292 v293 v294 v295 v296 v297 v298 v299 v300 v301 v302 v303 v304 v305 v306 v307 v308 v309 v310 v311 v312 v313 v314 v315 v316 v317 v318 v319 v320 v321 v322 v323 v324 v325 v326 v327 v328 v329 v330 v331 v332 v333 v334 v335 v336 v337 v338 v339 v340 v341 v342 v343 v344 v345 v346 v347 v348 v349 v350 v351 v352 v353 v354 v355 v356 v357 v358 v359 v360 v361 v362 v363 v364 v365 v366 v367 v368 v369 v370 v371 v372 v373 v374 v375 v376 v377 v378 v379 v380 v381 v382 v383 v384 v385 v386 v387 v388 v389 v390 v391 v392 v393 v394 v395 v396 v397 v398 v399 v400 v401 v402 w6 hQ6
        replace hQ6 := hidden hQ6
        dsimp only
        go_wp2
        go_roundg (31 - (i + 1))
        case measure => rw [hgk.out]; omega
        case rel =>
          refine ⟨i + 1, by have := hxl.out; omega, rfl, by go_num, hidden ?_⟩
          have e : 1000 * (i + 1) = 1000 * i + 1000 := by omega
          rw [e]
          exact hQ6.out
    · by_cases hl0 : i < ss.length
      · have hl1 : (i : Int) < (ss.length : Int) := by omega
        have hl2 : ¬ (i : Int) < 30 := by omega
        replace hlt := hidden hlt
        go_wp2
        go_ret
        exact ⟨rfl, hbel.out⟩
      · have hl1 : ¬ (i : Int) < (ss.length : Int) := by omega
        replace hlt := hidden hlt
        go_wp2
        go_ret
        exact ⟨rfl, hbel.out⟩
end Go.Proofs.YtdkpffpjbpfdnaaGreatDoor
