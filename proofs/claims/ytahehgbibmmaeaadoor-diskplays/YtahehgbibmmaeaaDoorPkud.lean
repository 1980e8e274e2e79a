/- DiskPlays' loop: a case of a round. -/
import Derived.Test.YtahehgbibmmaeaaDoorPb
namespace Go.Proofs.YtahehgbibmmaeaaDoor
open Go.RowKit Go.Extern.Stop Go.Stop Go.Extern
set_option maxRecDepth 1000000

set_option maxHeartbeats 8000000 in
theorem play_fuse_dead (wb : World) (nb N : Nat) (hN16 : 16 ≤ N) (hN60 : N ≤ 60) (b off len vcap K : Nat) (hlen : len ≤ 9223372036854775807) (hK1 : (K : Int) < (len : Int)) (hK2 : (K : Int) < 60)
    (o : OpT) (hi64 : i64 o.i) (hn64 : i64 o.n) (writes fuse : Int)  (wr : World) (hdl : Hid (((0 : Int) == 0) = true)) (hPl : Hid (Play wb nb N (K : Int) writes fuse (0 : Int) wr))
    (q0 : wr.cell? ⟨b, off + K * 4, none⟩ = some (.int .i64 o.kind)) (q1 : wr.cell? ⟨b, off + K * 4 + 1, none⟩ = some (.int .i64 o.i)) (q2 : wr.cell? ⟨b, off + K * 4 + 2, none⟩ = some (.int .i64 o.n)) (q3 : wr.cell? ⟨b, off + K * 4 + 3, none⟩ = some (.bool o.short))
    (x2 x3 x6 x20 x21 x22 x23 x24 x25 x26 x27 x28 x29 x30 x31 x32 x33 x34 x35 x36 x37 x38 x39 x40 x41 x42 x43 x44 x45 x46 x47 x48 x49 x50 x51 x52 x53 x54 x55 x56 x57 x58 x59 x60 x61 x230 x231 x232 x233 x234 x235 x236 x237 x238 x239 x240 x241 x242 x243 x244 x245 x246 x247 x248 x249 x250 x251 x252 x253 x254 x255 x256 u4 u12 u13 u14 u15 u16 u17 u18 u19 u62 u63 u64 u65 u66 u67 u68 u69 u70 u71 u72 u73 u74 u75 u76 u77 u78 u79 u80 u81 u82 u83 u84 u85 u86 u87 u88 u89 u90 u91 u92 u93 u94 u95 u96 u97 u98 u99 u100 u101 u102 u103 u104 u105 u106 u107 u108 u109 u110 u111 u112 u113 u114 u115 u116 u117 u118 u119 u120 u121 u122 u123 u124 u125 u126 u127 u128 u129 u130 u131 u132 u133 u134 u135 u136 u137 u138 u139 u140 u141 u142 u143 u144 u145 u146 u147 u148 u149 u150 u151 u152 u153 u154 u155 u156 u157 u158 u159 u160 u161 u162 u163 u164 u165 u166 u167 u168 u169 u170 u171 u172 u173 u174 u175 u176 u177 u178 u179 u180 u181 u182 u183 u184 u185 u186 u187 u188 u189 u190 u191 u192 u193 u194 u195 u196 u197 u198 u199 u200 u201 u202 u203 u204 u205 u206 u207 u208 u209 u210 u211 u212 u213 u214 u215 u216 u217 u218 u219 u220 u221 u222 u223 u224 u225 u226 u227 u228 u229 : Value) (KK : Act → World → Prop)
    (hKK : Hid (∀ (v4 v12 v13 v14 v15 v16 v17 v18 v19 v62 v63 v64 v65 v66 v67 v68 v69 v70 v71 v72 v73 v74 v75 v76 v77 v78 v79 v80 v81 v82 v83 v84 v85 v86 v87 v88 v89 v90 v91 v92 v93 v94 v95 v96 v97 v98 v99 v100 v101 v102 v103 v104 v105 v106 v107 v108 v109 v110 v111 v112 v113 v114 v115 v116 v117 v118 v119 v120 v121 v122 v123 v124 v125 v126 v127 v128 v129 v130 v131 v132 v133 v134 v135 v136 v137 v138 v139 v140 v141 v142 v143 v144 v145 v146 v147 v148 v149 v150 v151 v152 v153 v154 v155 v156 v157 v158 v159 v160 v161 v162 v163 v164 v165 v166 v167 v168 v169 v170 v171 v172 v173 v174 v175 v176 v177 v178 v179 v180 v181 v182 v183 v184 v185 v186 v187 v188 v189 v190 v191 v192 v193 v194 v195 v196 v197 v198 v199 v200 v201 v202 v203 v204 v205 v206 v207 v208 v209 v210 v211 v212 v213 v214 v215 v216 v217 v218 v219 v220 v221 v222 v223 v224 v225 v226 v227 v228 v229 : Value) (writes' fuse' left' : Int) (dead' : Bool) (k' : Int) (w' : World), k' = (K : Int) + 1 → dead' = (left' == 0) → Play wb nb N ((K : Int) + 1) writes' fuse' left' w' → KK ⟨#[.int .i64 (N : Int), .slice (some ⟨b, off, none⟩) len vcap, x2, x3, v4, ptr (wb.heap.size + 1), x6, .slice (some ⟨nb, 0, none⟩) N N, .int .i64 (writes'), .int .i64 (fuse'), .bool (dead'), .int .i64 (k'), v12, v13, v14, v15, v16, v17, v18, v19, x20, x21, x22, x23, x24, x25, x26, x27, x28, x29, x30, x31, x32, x33, x34, x35, x36, x37, x38, x39, x40, x41, x42, x43, x44, x45, x46, x47, x48, x49, x50, x51, x52, x53, x54, x55, x56, x57, x58, x59, x60, x61, v62, v63, v64, v65, v66, v67, v68, v69, v70, v71, v72, v73, v74, v75, v76, v77, v78, v79, v80, v81, v82, v83, v84, v85, v86, v87, v88, v89, v90, v91, v92, v93, v94, v95, v96, v97, v98, v99, v100, v101, v102, v103, v104, v105, v106, v107, v108, v109, v110, v111, v112, v113, v114, v115, v116, v117, v118, v119, v120, v121, v122, v123, v124, v125, v126, v127, v128, v129, v130, v131, v132, v133, v134, v135, v136, v137, v138, v139, v140, v141, v142, v143, v144, v145, v146, v147, v148, v149, v150, v151, v152, v153, v154, v155, v156, v157, v158, v159, v160, v161, v162, v163, v164, v165, v166, v167, v168, v169, v170, v171, v172, v173, v174, v175, v176, v177, v178, v179, v180, v181, v182, v183, v184, v185, v186, v187, v188, v189, v190, v191, v192, v193, v194, v195, v196, v197, v198, v199, v200, v201, v202, v203, v204, v205, v206, v207, v208, v209, v210, v211, v212, v213, v214, v215, v216, v217, v218, v219, v220, v221, v222, v223, v224, v225, v226, v227, v228, v229, x230, x231, x232, x233, x234, x235, x236, x237, x238, x239, x240, x241, x242, x243, x244, x245, x246, x247, x248, x249, x250, x251, x252, x253, x254, x255, x256], []⟩ w'))
    (Q : Exit → Act → World → Prop) (hQp : Hid (∀ x a a' w, Q (.panic x) a w → a.defers = a'.defers → Q (.panic x) a' w))
    (hk : Hid (o.kind = 2)) (hnb : wb.heap.size + 1 < nb)  :
    Code.wp Tryd.prog (((Tryd.f6.body.bind firstLoop).getD .skip)) (Exit.then KK Q) ⟨#[.int .i64 (N : Int), .slice (some ⟨b, off, none⟩) len vcap, x2, x3, u4, ptr (wb.heap.size + 1), x6, .slice (some ⟨nb, 0, none⟩) N N, .int .i64 (writes), .int .i64 (fuse), .bool (true), .int .i64 ((K : Int)), u12, u13, u14, u15, u16, u17, u18, u19, x20, x21, x22, x23, x24, x25, x26, x27, x28, x29, x30, x31, x32, x33, x34, x35, x36, x37, x38, x39, x40, x41, x42, x43, x44, x45, x46, x47, x48, x49, x50, x51, x52, x53, x54, x55, x56, x57, x58, x59, x60, x61, u62, u63, u64, u65, u66, u67, u68, u69, u70, u71, u72, u73, u74, u75, u76, u77, u78, u79, u80, u81, u82, u83, u84, u85, u86, u87, u88, u89, u90, u91, u92, u93, u94, u95, u96, u97, u98, u99, u100, u101, u102, u103, u104, u105, u106, u107, u108, u109, u110, u111, u112, u113, u114, u115, u116, u117, u118, u119, u120, u121, u122, u123, u124, u125, u126, u127, u128, u129, u130, u131, u132, u133, u134, u135, u136, u137, u138, u139, u140, u141, u142, u143, u144, u145, u146, u147, u148, u149, u150, u151, u152, u153, u154, u155, u156, u157, u158, u159, u160, u161, u162, u163, u164, u165, u166, u167, u168, u169, u170, u171, u172, u173, u174, u175, u176, u177, u178, u179, u180, u181, u182, u183, u184, u185, u186, u187, u188, u189, u190, u191, u192, u193, u194, u195, u196, u197, u198, u199, u200, u201, u202, u203, u204, u205, u206, u207, u208, u209, u210, u211, u212, u213, u214, u215, u216, u217, u218, u219, u220, u221, u222, u223, u224, u225, u226, u227, u228, u229, x230, x231, x232, x233, x234, x235, x236, x237, x238, x239, x240, x241, x242, x243, x244, x245, x246, x247, x248, x249, x250, x251, x252, x253, x254, x255, x256], []⟩ wr := by
  have hu := And.intro hlen (And.intro hi64 (And.intro hn64 (And.intro hN16 (And.intro hN60 (And.intro hK1 (And.intro hK2 (And.intro hQp hdl)))))))
  clear hu
  have hO := hidden (o_new o wr)
  have hPl2 := hidden (hPl.out.same ((Below.refl _ _).alloc (Nat.le_refl _) (.cells #[.int .i64 o.kind, .int .i64 o.i, .int .i64 o.n, .bool o.short] 44)))
  have hob : nb < wr.heap.size := hPl.out.ex.choose_spec.choose_spec.2.1.lt
  clear hPl
  conv => arg 2; whnf
  go_upto_region 14 with fail
  generalize hob' : wr.heap.size = ob at hO hob ⊢
  generalize wr.alloc (.cells #[.int .i64 o.kind, .int .i64 o.i, .int .i64 o.n, .bool o.short] 44) = w2 at hO hPl2 ⊢
  clear q0 q1 q2 q3 hob'
  have e0 := hO.out.c0
  have e1 := hO.out.c1
  have e2 := hO.out.c2
  have e3 := hO.out.c3
  go_cut [13] from 62 to 85 (fun c wx => (∃ inB : Bool, c = .bool inB) ∧ wx = w2)
  case first =>
    rcases Classical.em (0 ≤ o.i) with h0 | h0
    · rcases Classical.em (o.i < (N : Int)) with h1 | h1
      · go_wp2_with fail
        go_meet
        case rel => exact ⟨⟨_, rfl⟩, rfl⟩
      · go_wp2_with fail
        go_meet
        case rel => exact ⟨⟨_, rfl⟩, rfl⟩
    · go_wp2_with fail
      go_meet
      case rel => exact ⟨⟨_, rfl⟩, rfl⟩
  case rest =>
    obtain ⟨⟨inB, rfl⟩, rfl⟩ := hcut
    rename_i w2
    rw [hk.out] at e0
    unfold i64 at hn64
    obtain ⟨mem, nw, hT, hNm, hS2⟩ := hPl2.out.ex
    replace hT := hidden hT
    replace hS2 := hidden hS2
    replace hNm := hidden hNm
    go_wp2_with fail
    refine (sys_fuse hS2.out o.n).mono ?_
    clear hS2
    rintro ev w4 ⟨rfl, hS4, hAp⟩
    replace hO := hidden (hO.out.keep hAp (by simp; omega))
    have P := hidden (show Play wb nb N ((K : Int) + 1) writes (max o.n (-1)) (0) w4 from ⟨⟨mem, nw, hT.out, hNm.out.keep hAp (by simp; omega), by have h := hS4; unfold fused at h; rw [if_pos rfl] at h; exact h⟩, hPl2.out.w0, by have := hPl2.out.w1; omega, by omega, by omega, by omega, by omega, fun h => (h rfl).elim⟩)
    clear e0 e1 e2 e3 hAp hS4 hNm hT hPl2
    have e2 := hO.out.c2

    obtain ⟨memE, nwE, hTE, hNE, hSE⟩ := P.out.ex
    replace hSE := hidden hSE
    clear hTE hNE
    go_wp2_with fail
    refine (sys_dead' hSE.out true hdl.out).mono ?_
    rintro ev wE ⟨rfl, rfl⟩
    go_wp2_with fail
    refine (sys_writes hSE.out).mono ?_
    rintro ev wE ⟨rfl, rfl⟩
    go_wp2_with fail
    refine (sys_blocks hSE.out).mono ?_
    rintro ev wE ⟨rfl, rfl⟩
    go_wp2
    refine hKK.out _ _ _ _ _ _ _ _ _ _ _ _ _ _ _ _ _ _ _ _ _ _ _ _ _ _ _ _ _ _ _ _ _ _ _ _ _ _ _ _ _ _ _ _ _ _ _ _ _ _ _ _ _ _ _ _ _ _ _ _ _ _ _ _ _ _ _ _ _ _ _ _ _ _ _ _ _ _ _ _ _ _ _ _ _ _ _ _ _ _ _ _ _ _ _ _ _ _ _ _ _ _ _ _ _ _ _ _ _ _ _ _ _ _ _ _ _ _ _ _ _ _ _ _ _ _ _ _ _ _ _ _ _ _ _ _ _ _ _ _ _ _ _ _ _ _ _ _ _ _ _ _ _ _ _ _ _ _ _ _ _ _ _ _ _ _ _ _ _ _ _ _ _ _ _ _ _ _ _ (0) _ _ _ rfl (hdl.out.symm) (P.out)
end Go.Proofs.YtahehgbibmmaeaaDoor
