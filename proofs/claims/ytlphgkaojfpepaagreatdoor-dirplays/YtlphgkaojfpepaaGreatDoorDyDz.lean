/- DirPlays: a round. -/
import Derived.Test.YtlphgkaojfpepaaGreatDoorDyCz
import Derived.Test.YtlphgkaojfpepaaGreatDoorDy4z
import Derived.Deep.CutBlock
namespace Go.Proofs.YtlphgkaojfpepaaGreatDoor
open Go.RowKit Go.Extern.Stop Go.Stop Go.Extern Go.Maps Go.Sort Go.Shelf
set_option maxRecDepth 1000000

set_option maxHeartbeats 8000000 in
theorem dp_round (E : TE) (db base i vb off n vcap : Nat) (kind id : Int) (s t : List UInt8) (lv : Value) (w : World) (hok : Hid (EOk E)) (hQ : Hid (QP10 E db base i lv w)) (c0 : w.cell? ⟨vb, off + i * 4, none⟩ = some (.int .i64 kind)) (c1 : w.cell? ⟨vb, off + i * 4 + 1, none⟩ = some (.int .i64 id)) (c2 : w.cell? ⟨vb, off + i * 4 + 2, none⟩ = some (.string (mkB s))) (c3 : w.cell? ⟨vb, off + i * 4 + 3, none⟩ = some (.string (mkB t))) (hi : Hid (i64 id)) (hlt : i < n) (hk : i < 50) (hA : s.length ≤ 200) (hB : t.length ≤ 200) (kGT : Hid (∀ wx, Below E.w0.heap.size E.w0 wx → GT wx))
    (x1 x2 x7 x8 x9 x10 x11 x12 x13 x14 x15 x16 x17 x18 x19 x20 x21 x22 x23 x24 x25 x26 x27 x28 x29 x30 x31 x32 x33 x34 x35 x36 x37 x38 x39 x40 x41 x42 x43 x44 x45 x46 x47 x48 x49 x50 x51 x52 x53 x54 x55 x56 x57 x58 x59 x60 x61 x62 x63 x64 x65 x66 x67 x68 x69 x70 x71 x72 x73 x74 x75 x76 x77 x78 x79 x80 x81 x82 x83 x84 x85 x86 x87 x88 x89 x90 x91 x92 x93 x94 x95 x96 x97 x98 x99 x100 x101 x102 x103 x104 x105 x106 x107 x108 x109 x110 x111 x112 x113 x114 x115 x116 x117 x118 x119 x120 x121 x122 x123 x124 x125 x126 x127 x128 x129 x130 x131 x132 x133 x134 x135 x136 x137 x138 x139 x140 x141 x142 x143 x144 x145 x146 x147 x148 x149 x150 x151 x152 x153 x154 x155 x156 x157 x158 x159 x160 x161 x162 x163 x164 x165 x166 x167 x168 x169 x170 x171 x172 x173 x174 x175 x176 x177 x178 x179 x180 x181 x182 x183 x184 x185 x186 x187 x188 x189 x190 x191 x192 x193 x194 x195 x196 x197 x198 x199 x200 x201 x202 x203 x204 x205 x206 x207 x208 x209 x210 x211 x212 x213 x214 x215 x216 x217 x218 x219 x220 x221 x222 x223 x224 x225 x226 x227 x228 x229 x230 x231 x232 x233 x234 x235 x236 x237 x238 x239 x240 x241 x242 x243 x244 x245 x246 x247 x248 x249 x250 x251 x252 x253 x254 x255 x256 x257 x258 x259 x260 x261 x262 x263 x264 x265 x266 x267 x268 x269 x270 x271 x272 x273 x274 x275 x276 x277 x278 x279 x280 x281 : Value) (KK : Act → World → Prop) (Q : Exit → Act → World → Prop)
    (hKK : Hid (∀ (v7 v8 v9 v10 v11 v12 v13 v14 v15 v16 v17 v18 v19 v20 v21 v42 v43 v44 v45 v46 v47 v48 v49 v50 v51 v52 v53 v54 v55 v56 v57 v58 v59 v60 v61 v62 v63 v64 v65 v66 v67 v68 v69 v70 v71 v72 v73 v74 v75 v76 v77 v78 v79 v80 v81 v82 v83 v84 v85 v86 v87 v88 v89 v90 v91 v92 v93 v94 v95 v96 v97 v98 v99 v100 v101 v102 v103 v104 v105 v106 v107 v108 v109 v110 v111 v112 v113 v114 v115 v116 v117 v118 v119 v120 v121 v122 v123 v124 v125 v126 v127 v128 v129 v130 v131 v132 v133 v134 v135 v136 v137 v138 v139 v140 v141 v142 v143 v144 v145 v146 v147 v148 v149 v150 v151 v152 v153 v154 v155 v156 v157 v158 v159 v160 v161 v162 v163 v164 v165 v166 v167 v168 v169 v170 v171 v172 v173 v174 v175 v176 v177 v178 v179 v180 v181 v182 v183 v184 v185 v186 v187 v188 v189 v190 v191 v192 v193 v194 v195 v196 v197 v198 v199 v200 v201 v202 v203 v204 v205 v206 v207 v208 v209 v210 v211 v212 v213 v214 v215 v216 v217 v218 v219 v220 v221 v222 v223 v224 v225 v226 v227 v228 v229 v230 v231 v232 v233 v234 v235 v236 v237 v238 v239 v240 v241 v242 v243 v244 v245 v246 v247 v248 v249 v250 v251 v252 v253 v254 v255 v256 v257 v258 v259 v260 v261 v262 v263 v264 v265 v266 v267 v268 v269 v270 v271 v272 v273 v274 v275 v276 v277 v278 v279 v280 v281 : Value) (lv2 : Value) (w' : World), QP10 E db base (i + 1) lv2 w' → KK ⟨#[.slice (some ⟨vb, off, none⟩) n vcap, x1, x2, ptr E.tb, ptr db, lv2, .int .i64 (i : Int), v7, v8, v9, v10, v11, v12, v13, v14, v15, v16, v17, v18, v19, v20, v21, x22, x23, x24, x25, x26, x27, x28, x29, x30, x31, x32, x33, x34, x35, x36, x37, x38, x39, x40, x41, v42, v43, v44, v45, v46, v47, v48, v49, v50, v51, v52, v53, v54, v55, v56, v57, v58, v59, v60, v61, v62, v63, v64, v65, v66, v67, v68, v69, v70, v71, v72, v73, v74, v75, v76, v77, v78, v79, v80, v81, v82, v83, v84, v85, v86, v87, v88, v89, v90, v91, v92, v93, v94, v95, v96, v97, v98, v99, v100, v101, v102, v103, v104, v105, v106, v107, v108, v109, v110, v111, v112, v113, v114, v115, v116, v117, v118, v119, v120, v121, v122, v123, v124, v125, v126, v127, v128, v129, v130, v131, v132, v133, v134, v135, v136, v137, v138, v139, v140, v141, v142, v143, v144, v145, v146, v147, v148, v149, v150, v151, v152, v153, v154, v155, v156, v157, v158, v159, v160, v161, v162, v163, v164, v165, v166, v167, v168, v169, v170, v171, v172, v173, v174, v175, v176, v177, v178, v179, v180, v181, v182, v183, v184, v185, v186, v187, v188, v189, v190, v191, v192, v193, v194, v195, v196, v197, v198, v199, v200, v201, v202, v203, v204, v205, v206, v207, v208, v209, v210, v211, v212, v213, v214, v215, v216, v217, v218, v219, v220, v221, v222, v223, v224, v225, v226, v227, v228, v229, v230, v231, v232, v233, v234, v235, v236, v237, v238, v239, v240, v241, v242, v243, v244, v245, v246, v247, v248, v249, v250, v251, v252, v253, v254, v255, v256, v257, v258, v259, v260, v261, v262, v263, v264, v265, v266, v267, v268, v269, v270, v271, v272, v273, v274, v275, v276, v277, v278, v279, v280, v281], []⟩ w'))
    (hQp : Hid (∀ x a a' w, Q (.panic x) a w → a.defers = a'.defers → Q (.panic x) a' w)) :
    Code.wp Tryz.prog (((Tryz.f3.body.bind (blockAt 1)).getD .skip)) (Exit.then KK Q) ⟨#[.slice (some ⟨vb, off, none⟩) n vcap, x1, x2, ptr E.tb, ptr db, lv, .int .i64 (i : Int), x7, x8, x9, x10, x11, x12, x13, x14, x15, x16, x17, x18, x19, x20, x21, x22, x23, x24, x25, x26, x27, x28, x29, x30, x31, x32, x33, x34, x35, x36, x37, x38, x39, x40, x41, x42, x43, x44, x45, x46, x47, x48, x49, x50, x51, x52, x53, x54, x55, x56, x57, x58, x59, x60, x61, x62, x63, x64, x65, x66, x67, x68, x69, x70, x71, x72, x73, x74, x75, x76, x77, x78, x79, x80, x81, x82, x83, x84, x85, x86, x87, x88, x89, x90, x91, x92, x93, x94, x95, x96, x97, x98, x99, x100, x101, x102, x103, x104, x105, x106, x107, x108, x109, x110, x111, x112, x113, x114, x115, x116, x117, x118, x119, x120, x121, x122, x123, x124, x125, x126, x127, x128, x129, x130, x131, x132, x133, x134, x135, x136, x137, x138, x139, x140, x141, x142, x143, x144, x145, x146, x147, x148, x149, x150, x151, x152, x153, x154, x155, x156, x157, x158, x159, x160, x161, x162, x163, x164, x165, x166, x167, x168, x169, x170, x171, x172, x173, x174, x175, x176, x177, x178, x179, x180, x181, x182, x183, x184, x185, x186, x187, x188, x189, x190, x191, x192, x193, x194, x195, x196, x197, x198, x199, x200, x201, x202, x203, x204, x205, x206, x207, x208, x209, x210, x211, x212, x213, x214, x215, x216, x217, x218, x219, x220, x221, x222, x223, x224, x225, x226, x227, x228, x229, x230, x231, x232, x233, x234, x235, x236, x237, x238, x239, x240, x241, x242, x243, x244, x245, x246, x247, x248, x249, x250, x251, x252, x253, x254, x255, x256, x257, x258, x259, x260, x261, x262, x263, x264, x265, x266, x267, x268, x269, x270, x271, x272, x273, x274, x275, x276, x277, x278, x279, x280, x281], []⟩ w := by
  have hu := hQp
  clear hu
  conv => arg 2; whnf
  try dsimp only
  obtain ⟨L, hP, hL⟩ := hQ.out.ex
  have hmbs : E.mb < w.heap.size := Nat.lt_of_lt_of_le hP.a.2.2.2.2.1 hP.s
  have hbs := hP.s
  obtain ⟨la, lc, rfl⟩ := hP.o.form
  replace hP := hidden hP
  have hsA : ¬ (200 : Int) < ((mkB s).size : Int) := by rw [mk_size]; omega
  have hsB : ¬ (200 : Int) < ((mkB t).size : Int) := by rw [mk_size]; omega
  clear hQ
  go_upto_region 9 with fail
  have hB5 : Below w.heap.size w (w.alloc (.cells #[.int .i64 kind, .int .i64 id, .string (mkB s), .string (mkB t)] 30)) := (Below.refl _ _).alloc (Nat.le_refl _) _
  have hO5 : O4 w.heap.size kind id s t (w.alloc (.cells #[.int .i64 kind, .int .i64 id, .string (mkB s), .string (mkB t)] 30)) := ⟨by simp, by simp, by simp, by simp⟩
  have hP5 := hidden (hP.out.more hB5)
  have hob := hidden (show w.heap.size ≠ E.mb ∧ base ≤ w.heap.size from ⟨by omega, hbs⟩)
  have o0 := hO5.o0
  have o2 := hO5.o2
  have o3 := hO5.o3
  replace hO5 := hidden hO5
  clear hP hB5 c0 c1 c2 c3 hmbs hbs
  generalize w.alloc (.cells #[.int .i64 kind, .int .i64 id, .string (mkB s), .string (mkB t)] 30) = w5 at hO5 hP5 o0 o2 o3 ⊢
  generalize w.heap.size = ob at hO5 hob o0 o2 o3 ⊢
  have kFd := hidden (lfind_calls hP5.out.o.at (by omega) s)
  go_wp2_with fail
  refine (kFd.out).mono ?_
  rintro ev wq ⟨x, rfl, hPl, hwq⟩
  subst wq
  replace hPl := hidden hPl
  dsimp only
  clear kFd hsA hsB
  go_upto_block 2 with fail
  refine dp_switch E db ob base i kind id s t x la lc L w5 hok hP5 hL (by omega) hO5 hob hi hPl kGT _ _ _ _ _ _ _ _ _ _ _ _ _ _ _ _ _ _ _ _ _ _ _ _ _ _ _ _ _ _ _ _ _ _ _ _ _ _ _ _ _ _ _ _ _ _ _ _ _ _ _ _ _ _ _ _ _ _ _ _ _ _ _ _ _ _ _ _ _ _ _ _ _ _ _ _ _ _ _ _ _ _ _ _ _ _ _ _ _ _ _ _ _ _ _ _ _ _ _ _ _ _ _ _ _ _ _ _ _ _ _ _ _ _ _ _ _ _ _ _ _ _ _ _ _ _ _ _ _ _ _ _ _ _ _ _ _ _ _ _ _ _ _ _ _ _ _ _ _ _ _ _ _ _ _ _ _ _ _ _ _ _ _ _ _ _ _ _ _ _ _ _ _ _ _ _ _ _ _ _ _ _ _ _ _ _ _ _ _ _ _ _ _ _ _ _ _ _ _ _ _ _ _ _ _ _ _ _ _ _ _ _ _ _ _ _ _ _ _ _ _ _ _ _ _ _ _ _ _ _ _ _ _ _ _ _ _ _ _ _ _ _ _ _ _ _ _ _ _ _ _ _ _ _ _ _ _ _ _ _ _ _ _ _ _ _ _ _ _ _ _ _ _ _ _ _ _ _ _ (hidden ?kks) (hidden ?qps)
  case qps =>
    intro _ a a' _ h e
    exact hQp.out _ _ _ _ h e
  case kks =>
    intro v9 v10 v11 v12 v13 v14 v15 v62 v63 v64 v65 v66 v67 v68 v69 v70 v71 v72 v73 v74 v75 v76 v77 v78 v79 v80 v81 v82 v83 v84 v85 v86 v87 v88 v89 v90 v91 v92 v93 v94 v95 v96 v97 v98 v99 v100 v101 v102 v103 v104 v105 v106 v107 v108 v109 v110 v111 v112 v113 v114 v115 v116 v117 v118 v119 v120 v121 v122 v123 v124 v125 v126 v127 v128 v129 v130 v131 v132 v133 v134 v135 v136 v137 v138 v139 v140 v141 v142 v143 v144 v145 v146 v147 v148 v149 v150 v151 v152 v153 v154 v155 v156 v157 v158 v159 v160 v161 v162 v163 v164 v165 v166 v167 v168 v169 v170 v171 v172 v173 v174 v175 v176 v177 v178 v179 v180 v181 v182 v183 v184 v185 v186 v187 v188 v189 v190 v191 v192 v193 v194 v195 v196 v197 v198 v199 v200 v201 v202 v203 v204 v205 v206 v207 v208 v209 v210 v211 v212 v213 v214 v215 v216 v217 v218 v219 v220 v221 v222 v223 v224 v225 v226 v227 v228 v229 v230 v231 v232 v233 v234 v235 v236 lv2 w8 hQ8
    obtain ⟨L2, hP8, hL2⟩ := hQ8.ex
    obtain ⟨la2, lc2, rfl⟩ := hP8.o.form
    have kLi := hidden (dList_calls hP8.d.b hok.out (parse_recs hP8.d.g) (by omega))
    replace hP8 := hidden hP8
    clear hQ8 hP5 hO5 hob o0 o2 o3 hPl
    dsimp only
    go_wp2_with fail
    refine (kLi.out).mono ?_
    rintro ev w9 ⟨xv, rfl, hX, hB9⟩
    dsimp only
    have hP9 := hidden (hP8.out.more hB9)
    have kLn := hidden (dLen_calls hP9.out.d hok.out)
    replace hX := hidden hX.at
    clear kLi hP8 hB9
    obtain ⟨LL, hLL⟩ : ∃ LL, L2.length = LL := ⟨_, rfl⟩
    rw [hLL] at kLn ⊢
    replace hLL := hidden hLL
    go_wp2_with fail
    refine (kLn.out).mono ?_
    rintro ev w10 ⟨rfl, hB10⟩
    dsimp only
    have hP10 := hidden (hP9.out.more hB10)
    have hX10 := hidden (hX.out.below hB10)
    have kRd := hidden (hP10.out.d.b.read hok.out)
    clear kLn hP9 hX hB10
    go_wp2_with fail
    refine (kRd.out).mono ?_
    rintro ev w11 ⟨bv, rfl, hV, hB11⟩
    dsimp only
    have hP11 := hidden (hP10.out.more hB11)
    have hX11 := hidden (hX10.out.below hB11)
    have hBy := hidden (ownV_at hV)
    clear kRd hP10 hX10 hB11 hV
    obtain ⟨xa, xc, hxv⟩ : ∃ xa xc, xv = .slice xa LL xc := by
      obtain ⟨a, c, e, -⟩ := hX11.out
      exact ⟨a, c, by rw [e, sortS_len, List.length_map, hLL.out]⟩
    subst hxv
    have hR11 := hidden (show RecsAt w11 (.slice la2 LL lc2) L2 from by rw [← hLL.out]; exact hP11.out.o.at)
    have hgs := hidden (fun (r : Rec) (hr : r ∈ L2) => show r.s.length ≤ 27 ∧ r.id < 2147483648 from ⟨(hP11.out.d.g.each r hr).len, by have := hP11.out.i r hr; omega⟩)
    go_upto_region 65 with fail
    refine dp_65 L2 LL la2 xa lc2 xc bv w11 hLL hR11 (by omega) hgs hX11 hBy _ _ _ _ _ _ _ _ _ _ _ _ _ _ _ _ _ _ _ _ _ _ _ _ _ _ _ _ _ _ _ _ _ _ _ _ _ _ _ _ _ _ _ _ _ _ _ _ _ _ _ _ _ _ _ _ _ _ _ _ _ _ _ _ _ _ _ _ _ _ _ _ _ _ _ _ _ _ _ _ _ _ _ _ _ _ _ _ _ _ _ _ _ _ _ _ _ _ _ _ _ _ _ _ _ _ _ _ _ _ _ _ _ _ _ _ _ _ _ _ _ _ _ _ _ _ _ _ _ _ _ _ _ _ _ _ _ _ _ _ _ _ _ _ _ _ _ _ _ _ _ _ _ _ _ _ _ _ _ _ _ _ _ _ _ _ _ _ _ _ _ _ _ _ _ _ _ _ _ _ _ _ _ _ _ _ _ _ _ _ _ _ _ _ _ _ _ _ _ _ _ _ _ _ _ _ _ _ _ _ _ _ _ _ _ _ _ _ _ _ _ _ _ _ _ _ _ _ _ _ _ _ _ _ _ _ _ _ _ _ _ _ _ _ _ _ _ _ _ _ _ _ _ _ _ _ _ _ _ _ _ _ _ _ _ _ _ _ _ _ _ _ _ _ _ _ _ (hidden ?kkt) (hidden ?qpt)
    case qpt =>
      intro _ a a' _ h e
      exact hQp.out _ _ _ _ h e
    case kkt =>
      intro v252 v253 v254 v255 v256 v257 v258 v259 v260 v261 v262 v263 v264 v265 v266 v267 v268 v269 v270 v271 v272 v273 v274 v275 v276 v277 v278 v279 v280 w12 hB12
      have hEnd := hidden (show QP10 E db base (i + 1) (.slice la2 LL lc2) w12 from ⟨L2, by have := hP11.out.more hB12; rw [hLL.out] at this; exact this, by omega⟩)
      clear hB12
      dsimp only
      go_wp2
      exact hKK.out _ _ _ _ _ _ _ _ _ _ _ _ _ _ _ _ _ _ _ _ _ _ _ _ _ _ _ _ _ _ _ _ _ _ _ _ _ _ _ _ _ _ _ _ _ _ _ _ _ _ _ _ _ _ _ _ _ _ _ _ _ _ _ _ _ _ _ _ _ _ _ _ _ _ _ _ _ _ _ _ _ _ _ _ _ _ _ _ _ _ _ _ _ _ _ _ _ _ _ _ _ _ _ _ _ _ _ _ _ _ _ _ _ _ _ _ _ _ _ _ _ _ _ _ _ _ _ _ _ _ _ _ _ _ _ _ _ _ _ _ _ _ _ _ _ _ _ _ _ _ _ _ _ _ _ _ _ _ _ _ _ _ _ _ _ _ _ _ _ _ _ _ _ _ _ _ _ _ _ _ _ _ _ _ _ _ _ _ _ _ _ _ _ _ _ _ _ _ _ _ _ _ _ _ _ _ _ _ _ _ _ _ _ _ _ _ _ _ _ _ _ _ _ _ _ _ _ _ _ _ _ _ _ _ _ _ _ _ _ _ _ _ _ _ _ _ _ _ _ _ _ _ _ _ _ _ _ hEnd.out
end Go.Proofs.YtlphgkaojfpepaaGreatDoor
