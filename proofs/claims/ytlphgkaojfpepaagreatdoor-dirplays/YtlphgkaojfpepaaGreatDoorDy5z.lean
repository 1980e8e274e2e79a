/- DirPlays: a Put. -/
import Derived.Test.YtlphgkaojfpepaaGreatDoorGDp
import Derived.Deep.CutBlock
namespace Go.Proofs.YtlphgkaojfpepaaGreatDoor
open Go.RowKit Go.Extern.Stop Go.Stop Go.Extern Go.Maps Go.Sort Go.Shelf
set_option maxRecDepth 1000000

set_option maxHeartbeats 8000000 in
theorem dp_put (E : TE) (db ob base k : Nat) (kind id : Int) (s t : List UInt8) (x : Int) (la : Option Addr) (lc : Nat) (L : List Rec) (w : World) (hok : Hid (EOk E)) (hP : Hid (DP E db base (.slice la L.length lc) L w)) (hL : L.length ≤ k) (hk : k ≤ 50) (hO : Hid (O4 ob kind id s t w)) (hob : Hid (ob ≠ E.mb ∧ base ≤ ob)) (hi : Hid (i64 id)) (hPl : Hid (Pl L s x)) (kGT : Hid (∀ wx, Below E.w0.heap.size E.w0 wx → GT wx))
    (x0 x1 x2 x3 x6 x9 x10 x11 x12 x13 x14 x15 x16 x17 x18 x19 x20 x21 x22 x23 x24 x25 x26 x27 x28 x29 x30 x31 x32 x33 x34 x35 x36 x37 x38 x39 x40 x41 x42 x43 x44 x45 x46 x47 x48 x49 x50 x51 x52 x53 x54 x55 x56 x57 x58 x59 x60 x62 x63 x64 x65 x66 x67 x68 x69 x70 x71 x72 x73 x74 x75 x76 x77 x78 x79 x80 x81 x82 x83 x84 x85 x86 x87 x88 x89 x90 x91 x92 x93 x94 x95 x96 x97 x98 x99 x100 x101 x102 x103 x104 x105 x106 x107 x108 x109 x110 x111 x112 x113 x114 x115 x116 x117 x118 x119 x120 x121 x122 x123 x124 x125 x126 x127 x128 x129 x130 x131 x132 x133 x134 x135 x136 x137 x138 x139 x140 x141 x142 x143 x144 x145 x146 x147 x148 x149 x150 x151 x152 x153 x154 x155 x156 x157 x158 x159 x160 x161 x162 x163 x164 x165 x166 x167 x168 x169 x170 x171 x172 x173 x174 x175 x176 x177 x178 x179 x180 x181 x182 x183 x184 x185 x186 x187 x188 x189 x190 x191 x192 x193 x194 x195 x196 x197 x198 x199 x200 x201 x202 x203 x204 x205 x206 x207 x208 x209 x210 x211 x212 x213 x214 x215 x216 x217 x218 x219 x220 x221 x222 x223 x224 x225 x226 x227 x228 x229 x230 x231 x232 x233 x234 x235 x236 x237 x238 x239 x240 x241 x242 x243 x244 x245 x246 x247 x248 x249 x250 x251 x252 x253 x254 x255 x256 x257 x258 x259 x260 x261 x262 x263 x264 x265 x266 x267 x268 x269 x270 x271 x272 x273 x274 x275 x276 x277 x278 x279 x280 x281 : Value) (KK : Act → World → Prop) (Q : Exit → Act → World → Prop)
    (hKK : Hid (∀ (v9 v10 v11 v12 v13 v14 v15 v62 v63 v64 v65 v66 v67 v68 v69 v70 v71 v72 v73 v74 v75 v76 v77 v78 v79 v80 v81 v82 v83 v84 v85 v86 v87 v88 v89 v90 v91 v92 v93 v94 v95 v96 v97 v98 v99 v100 v101 v102 v103 v104 v105 v106 v107 v108 v109 v110 v111 v112 v113 v114 v115 v116 v117 v118 v119 v120 v121 v122 v123 v124 v125 v126 v127 v128 v129 v130 v131 v132 v133 v134 v135 v136 v137 v138 v139 v140 v141 v142 v143 v144 v145 v146 v147 v148 v149 v150 v151 v152 v153 v154 v155 v156 v157 v158 v159 v160 v161 v162 v163 v164 v165 v166 v167 v168 v169 v170 v171 v172 v173 v174 v175 v176 v177 v178 v179 v180 v181 v182 v183 v184 v185 v186 v187 v188 v189 v190 v191 v192 v193 v194 v195 v196 v197 v198 v199 v200 v201 v202 v203 v204 v205 v206 v207 v208 v209 v210 v211 v212 v213 v214 v215 v216 v217 v218 v219 v220 v221 v222 v223 v224 v225 v226 v227 v228 v229 v230 v231 v232 v233 v234 v235 v236 : Value) (lv : Value) (w' : World), QP10 E db base (k + 1) lv w' → KK ⟨#[x0, x1, x2, x3, ptr db, lv, x6, .pointer (some ⟨ob, 0, none⟩), .int .i64 x, v9, v10, v11, v12, v13, v14, v15, x16, x17, x18, x19, x20, x21, x22, x23, x24, x25, x26, x27, x28, x29, x30, x31, x32, x33, x34, x35, x36, x37, x38, x39, x40, x41, x42, x43, x44, x45, x46, x47, x48, x49, x50, x51, x52, x53, x54, x55, x56, x57, x58, x59, x60, .int .i64 0, v62, v63, v64, v65, v66, v67, v68, v69, v70, v71, v72, v73, v74, v75, v76, v77, v78, v79, v80, v81, v82, v83, v84, v85, v86, v87, v88, v89, v90, v91, v92, v93, v94, v95, v96, v97, v98, v99, v100, v101, v102, v103, v104, v105, v106, v107, v108, v109, v110, v111, v112, v113, v114, v115, v116, v117, v118, v119, v120, v121, v122, v123, v124, v125, v126, v127, v128, v129, v130, v131, v132, v133, v134, v135, v136, v137, v138, v139, v140, v141, v142, v143, v144, v145, v146, v147, v148, v149, v150, v151, v152, v153, v154, v155, v156, v157, v158, v159, v160, v161, v162, v163, v164, v165, v166, v167, v168, v169, v170, v171, v172, v173, v174, v175, v176, v177, v178, v179, v180, v181, v182, v183, v184, v185, v186, v187, v188, v189, v190, v191, v192, v193, v194, v195, v196, v197, v198, v199, v200, v201, v202, v203, v204, v205, v206, v207, v208, v209, v210, v211, v212, v213, v214, v215, v216, v217, v218, v219, v220, v221, v222, v223, v224, v225, v226, v227, v228, v229, v230, v231, v232, v233, v234, v235, v236, x237, x238, x239, x240, x241, x242, x243, x244, x245, x246, x247, x248, x249, x250, x251, x252, x253, x254, x255, x256, x257, x258, x259, x260, x261, x262, x263, x264, x265, x266, x267, x268, x269, x270, x271, x272, x273, x274, x275, x276, x277, x278, x279, x280, x281], []⟩ w'))
    (hQp : Hid (∀ x a a' w, Q (.panic x) a w → a.defers = a'.defers → Q (.panic x) a' w)) :
    Code.wp Tryz.prog (((Tryz.f3.body.bind (blockAt 2)).getD .skip)) (Exit.then KK Q) ⟨#[x0, x1, x2, x3, ptr db, .slice la L.length lc, x6, .pointer (some ⟨ob, 0, none⟩), .int .i64 x, x9, x10, x11, x12, x13, x14, x15, x16, x17, x18, x19, x20, x21, x22, x23, x24, x25, x26, x27, x28, x29, x30, x31, x32, x33, x34, x35, x36, x37, x38, x39, x40, x41, x42, x43, x44, x45, x46, x47, x48, x49, x50, x51, x52, x53, x54, x55, x56, x57, x58, x59, x60, .int .i64 0, x62, x63, x64, x65, x66, x67, x68, x69, x70, x71, x72, x73, x74, x75, x76, x77, x78, x79, x80, x81, x82, x83, x84, x85, x86, x87, x88, x89, x90, x91, x92, x93, x94, x95, x96, x97, x98, x99, x100, x101, x102, x103, x104, x105, x106, x107, x108, x109, x110, x111, x112, x113, x114, x115, x116, x117, x118, x119, x120, x121, x122, x123, x124, x125, x126, x127, x128, x129, x130, x131, x132, x133, x134, x135, x136, x137, x138, x139, x140, x141, x142, x143, x144, x145, x146, x147, x148, x149, x150, x151, x152, x153, x154, x155, x156, x157, x158, x159, x160, x161, x162, x163, x164, x165, x166, x167, x168, x169, x170, x171, x172, x173, x174, x175, x176, x177, x178, x179, x180, x181, x182, x183, x184, x185, x186, x187, x188, x189, x190, x191, x192, x193, x194, x195, x196, x197, x198, x199, x200, x201, x202, x203, x204, x205, x206, x207, x208, x209, x210, x211, x212, x213, x214, x215, x216, x217, x218, x219, x220, x221, x222, x223, x224, x225, x226, x227, x228, x229, x230, x231, x232, x233, x234, x235, x236, x237, x238, x239, x240, x241, x242, x243, x244, x245, x246, x247, x248, x249, x250, x251, x252, x253, x254, x255, x256, x257, x258, x259, x260, x261, x262, x263, x264, x265, x266, x267, x268, x269, x270, x271, x272, x273, x274, x275, x276, x277, x278, x279, x280, x281], []⟩ w := by
  have hu := hQp
  clear hu
  conv => arg 2; whnf
  try dsimp only
  have hu := And.intro hok (And.intro hL (And.intro hk (And.intro hob (And.intro hi kGT))))
  clear hu
  by_cases hs : okB s = true
  rotate_left
  · replace hs : okB s = false := by simpa using hs
    have kO := hidden (fun (wx : World) => nameOk_calls (mkB s) wx)
    rw [mk_list, hs] at kO
    have o2 := hO.out.o2
    have o1 := hO.out.o1
    go_wp2_with fail
    refine (kO.out _).mono ?_
    rintro ev wq ⟨rfl, hwq⟩
    subst wq
    dsimp only
    have kP := hidden (dp_put_name (hP.out.d.more (below_drew1 w)) s id hs)
    go_upto_region 31 with fail
    refine dp_31 E db ob kind id s t 10 L w hO hob.out.1 kGT kP _ _ _ _ _ _ _ _ _ _ _ _ _ _ _ _ _ _ _ _ _ _ _ _ _ _ _ _ _ _ _ _ _ _ _ _ _ _ _ _ _ _ _ _ _ _ _ _ _ _ _ _ _ _ _ _ _ _ _ _ _ _ _ _ _ _ _ _ _ _ _ _ _ _ _ _ _ _ _ _ _ _ _ _ _ _ _ _ _ _ _ _ _ _ _ _ _ _ _ _ _ _ _ _ _ _ _ _ _ _ _ _ _ _ _ _ _ _ _ _ _ _ _ _ _ _ _ _ _ _ _ _ _ _ _ _ _ _ _ _ _ _ _ _ _ _ _ _ _ _ _ _ _ _ _ _ _ _ _ _ _ _ _ _ _ _ _ _ _ _ _ _ _ _ _ _ _ _ _ _ _ _ _ _ _ _ _ _ _ _ _ _ _ _ _ _ _ _ _ _ _ _ _ _ _ _ _ _ _ _ _ _ _ _ _ _ _ _ _ _ _ _ _ _ _ _ _ _ _ _ _ _ _ _ _ _ _ _ _ _ _ _ _ _ _ _ _ _ _ _ _ _ _ _ _ _ _ _ _ _ _ _ _ _ _ _ _ _ _ _ _ _ _ _ _ _ _ _ _ _ _ (hidden ?kka) (hidden ?qpa)
    case qpa =>
      intro _ a a' _ h e
      exact hQp.out _ _ _ _ h e
    case kka =>
      intro v125 v126 v127 v128 v129 v130 v131 v132 v133 v134 w4 hE4
      obtain ⟨h1, h2, h3⟩ := hP.out.turn hE4.1 hE4.2
      have hEnd := hidden (show QP10 E db base (k + 1) (.slice la L.length lc) w4 from ⟨L, ⟨h1, h2, hP.out.i, hP.out.a, hP.out.b, h3⟩, by omega⟩)
      clear hE4 h1 h2 h3
      dsimp only
      go_wp2
      exact hKK.out _ _ _ _ _ _ _ _ _ _ _ _ _ _ _ _ _ _ _ _ _ _ _ _ _ _ _ _ _ _ _ _ _ _ _ _ _ _ _ _ _ _ _ _ _ _ _ _ _ _ _ _ _ _ _ _ _ _ _ _ _ _ _ _ _ _ _ _ _ _ _ _ _ _ _ _ _ _ _ _ _ _ _ _ _ _ _ _ _ _ _ _ _ _ _ _ _ _ _ _ _ _ _ _ _ _ _ _ _ _ _ _ _ _ _ _ _ _ _ _ _ _ _ _ _ _ _ _ _ _ _ _ _ _ _ _ _ _ _ _ _ _ _ _ _ _ _ _ _ _ _ _ _ _ _ _ _ _ _ _ _ _ _ _ _ _ _ _ _ _ _ _ _ _ _ _ _ _ _ _ _ _ _ _ hEnd.out
  by_cases hid : 1 ≤ id ∧ id ≤ 200
  rotate_left
  · rcases Int.lt_or_le id 1 with hq | hq
    · have kO := hidden (fun (wx : World) => nameOk_calls (mkB s) wx)
      rw [mk_list, hs] at kO
      have o2 := hO.out.o2
      have o1 := hO.out.o1
      go_wp2_with fail
      refine (kO.out _).mono ?_
      rintro ev wq ⟨rfl, hwq⟩
      subst wq
      dsimp only
      have kP := hidden (dp_put_arg (hP.out.d.more (below_drew1 w)) s id hs hid)
      go_upto_region 31 with fail
      refine dp_31 E db ob kind id s t 1 L w hO hob.out.1 kGT kP _ _ _ _ _ _ _ _ _ _ _ _ _ _ _ _ _ _ _ _ _ _ _ _ _ _ _ _ _ _ _ _ _ _ _ _ _ _ _ _ _ _ _ _ _ _ _ _ _ _ _ _ _ _ _ _ _ _ _ _ _ _ _ _ _ _ _ _ _ _ _ _ _ _ _ _ _ _ _ _ _ _ _ _ _ _ _ _ _ _ _ _ _ _ _ _ _ _ _ _ _ _ _ _ _ _ _ _ _ _ _ _ _ _ _ _ _ _ _ _ _ _ _ _ _ _ _ _ _ _ _ _ _ _ _ _ _ _ _ _ _ _ _ _ _ _ _ _ _ _ _ _ _ _ _ _ _ _ _ _ _ _ _ _ _ _ _ _ _ _ _ _ _ _ _ _ _ _ _ _ _ _ _ _ _ _ _ _ _ _ _ _ _ _ _ _ _ _ _ _ _ _ _ _ _ _ _ _ _ _ _ _ _ _ _ _ _ _ _ _ _ _ _ _ _ _ _ _ _ _ _ _ _ _ _ _ _ _ _ _ _ _ _ _ _ _ _ _ _ _ _ _ _ _ _ _ _ _ _ _ _ _ _ _ _ _ _ _ _ _ _ _ _ _ _ _ _ _ _ _ _ (hidden ?kkb) (hidden ?qpb)
      case qpb =>
        intro _ a a' _ h e
        exact hQp.out _ _ _ _ h e
      case kkb =>
        intro v125 v126 v127 v128 v129 v130 v131 v132 v133 v134 w4 hE4
        obtain ⟨h1, h2, h3⟩ := hP.out.turn hE4.1 hE4.2
        have hEnd := hidden (show QP10 E db base (k + 1) (.slice la L.length lc) w4 from ⟨L, ⟨h1, h2, hP.out.i, hP.out.a, hP.out.b, h3⟩, by omega⟩)
        clear hE4 h1 h2 h3
        dsimp only
        go_wp2
        exact hKK.out _ _ _ _ _ _ _ _ _ _ _ _ _ _ _ _ _ _ _ _ _ _ _ _ _ _ _ _ _ _ _ _ _ _ _ _ _ _ _ _ _ _ _ _ _ _ _ _ _ _ _ _ _ _ _ _ _ _ _ _ _ _ _ _ _ _ _ _ _ _ _ _ _ _ _ _ _ _ _ _ _ _ _ _ _ _ _ _ _ _ _ _ _ _ _ _ _ _ _ _ _ _ _ _ _ _ _ _ _ _ _ _ _ _ _ _ _ _ _ _ _ _ _ _ _ _ _ _ _ _ _ _ _ _ _ _ _ _ _ _ _ _ _ _ _ _ _ _ _ _ _ _ _ _ _ _ _ _ _ _ _ _ _ _ _ _ _ _ _ _ _ _ _ _ _ _ _ _ _ _ _ _ _ _ hEnd.out
    · have hq1 : ¬ id < 1 := by omega
      have hq2 : 200 < id := by omega
      have kO := hidden (fun (wx : World) => nameOk_calls (mkB s) wx)
      rw [mk_list, hs] at kO
      have o2 := hO.out.o2
      have o1 := hO.out.o1
      go_wp2_with fail
      refine (kO.out _).mono ?_
      rintro ev wq ⟨rfl, hwq⟩
      subst wq
      dsimp only
      have kP := hidden (dp_put_arg (hP.out.d.more (below_drew1 w)) s id hs hid)
      go_upto_region 31 with fail
      refine dp_31 E db ob kind id s t 1 L w hO hob.out.1 kGT kP _ _ _ _ _ _ _ _ _ _ _ _ _ _ _ _ _ _ _ _ _ _ _ _ _ _ _ _ _ _ _ _ _ _ _ _ _ _ _ _ _ _ _ _ _ _ _ _ _ _ _ _ _ _ _ _ _ _ _ _ _ _ _ _ _ _ _ _ _ _ _ _ _ _ _ _ _ _ _ _ _ _ _ _ _ _ _ _ _ _ _ _ _ _ _ _ _ _ _ _ _ _ _ _ _ _ _ _ _ _ _ _ _ _ _ _ _ _ _ _ _ _ _ _ _ _ _ _ _ _ _ _ _ _ _ _ _ _ _ _ _ _ _ _ _ _ _ _ _ _ _ _ _ _ _ _ _ _ _ _ _ _ _ _ _ _ _ _ _ _ _ _ _ _ _ _ _ _ _ _ _ _ _ _ _ _ _ _ _ _ _ _ _ _ _ _ _ _ _ _ _ _ _ _ _ _ _ _ _ _ _ _ _ _ _ _ _ _ _ _ _ _ _ _ _ _ _ _ _ _ _ _ _ _ _ _ _ _ _ _ _ _ _ _ _ _ _ _ _ _ _ _ _ _ _ _ _ _ _ _ _ _ _ _ _ _ _ _ _ _ _ _ _ _ _ _ _ _ _ _ _ (hidden ?kkc) (hidden ?qpc)
      case qpc =>
        intro _ a a' _ h e
        exact hQp.out _ _ _ _ h e
      case kkc =>
        intro v125 v126 v127 v128 v129 v130 v131 v132 v133 v134 w4 hE4
        obtain ⟨h1, h2, h3⟩ := hP.out.turn hE4.1 hE4.2
        have hEnd := hidden (show QP10 E db base (k + 1) (.slice la L.length lc) w4 from ⟨L, ⟨h1, h2, hP.out.i, hP.out.a, hP.out.b, h3⟩, by omega⟩)
        clear hE4 h1 h2 h3
        dsimp only
        go_wp2
        exact hKK.out _ _ _ _ _ _ _ _ _ _ _ _ _ _ _ _ _ _ _ _ _ _ _ _ _ _ _ _ _ _ _ _ _ _ _ _ _ _ _ _ _ _ _ _ _ _ _ _ _ _ _ _ _ _ _ _ _ _ _ _ _ _ _ _ _ _ _ _ _ _ _ _ _ _ _ _ _ _ _ _ _ _ _ _ _ _ _ _ _ _ _ _ _ _ _ _ _ _ _ _ _ _ _ _ _ _ _ _ _ _ _ _ _ _ _ _ _ _ _ _ _ _ _ _ _ _ _ _ _ _ _ _ _ _ _ _ _ _ _ _ _ _ _ _ _ _ _ _ _ _ _ _ _ _ _ _ _ _ _ _ _ _ _ _ _ _ _ _ _ _ _ _ _ _ _ _ _ _ _ _ _ _ _ _ hEnd.out
  obtain ⟨d, rfl⟩ : ∃ d : Nat, id = (d : Int) := ⟨id.toNat, by omega⟩
  have hq1 : ¬ (d : Int) < 1 := by omega
  have hq2 : ¬ 200 < (d : Int) := by omega
  rcases hPl.out with ⟨i, q, rfl, hq, hqs⟩ | ⟨rfl, hno⟩
  · have hi0 : 0 ≤ (i : Int) := by omega
    have kO := hidden (fun (wx : World) => nameOk_calls (mkB s) wx)
    rw [mk_list, hs] at kO
    have o2 := hO.out.o2
    have o1 := hO.out.o1
    go_wp2_with fail
    refine (kO.out _).mono ?_
    rintro ev wq ⟨rfl, hwq⟩
    subst wq
    dsimp only
    have kP := hidden (dp_put_there (hP.out.d.more (below_drew1 w)) hok.out s d hs (by omega) (by omega) hq hqs)
    go_upto_region 31 with fail
    refine dp_31 E db ob kind (d : Int) s t 12 L w hO hob.out.1 kGT kP _ _ _ _ _ _ _ _ _ _ _ _ _ _ _ _ _ _ _ _ _ _ _ _ _ _ _ _ _ _ _ _ _ _ _ _ _ _ _ _ _ _ _ _ _ _ _ _ _ _ _ _ _ _ _ _ _ _ _ _ _ _ _ _ _ _ _ _ _ _ _ _ _ _ _ _ _ _ _ _ _ _ _ _ _ _ _ _ _ _ _ _ _ _ _ _ _ _ _ _ _ _ _ _ _ _ _ _ _ _ _ _ _ _ _ _ _ _ _ _ _ _ _ _ _ _ _ _ _ _ _ _ _ _ _ _ _ _ _ _ _ _ _ _ _ _ _ _ _ _ _ _ _ _ _ _ _ _ _ _ _ _ _ _ _ _ _ _ _ _ _ _ _ _ _ _ _ _ _ _ _ _ _ _ _ _ _ _ _ _ _ _ _ _ _ _ _ _ _ _ _ _ _ _ _ _ _ _ _ _ _ _ _ _ _ _ _ _ _ _ _ _ _ _ _ _ _ _ _ _ _ _ _ _ _ _ _ _ _ _ _ _ _ _ _ _ _ _ _ _ _ _ _ _ _ _ _ _ _ _ _ _ _ _ _ _ _ _ _ _ _ _ _ _ _ _ _ _ _ _ _ (hidden ?kkd) (hidden ?qpd)
    case qpd =>
      intro _ a a' _ h e
      exact hQp.out _ _ _ _ h e
    case kkd =>
      intro v125 v126 v127 v128 v129 v130 v131 v132 v133 v134 w4 hE4
      obtain ⟨h1, h2, h3⟩ := hP.out.turn hE4.1 hE4.2
      have hEnd := hidden (show QP10 E db base (k + 1) (.slice la L.length lc) w4 from ⟨L, ⟨h1, h2, hP.out.i, hP.out.a, hP.out.b, h3⟩, by omega⟩)
      clear hE4 h1 h2 h3
      dsimp only
      go_wp2
      exact hKK.out _ _ _ _ _ _ _ _ _ _ _ _ _ _ _ _ _ _ _ _ _ _ _ _ _ _ _ _ _ _ _ _ _ _ _ _ _ _ _ _ _ _ _ _ _ _ _ _ _ _ _ _ _ _ _ _ _ _ _ _ _ _ _ _ _ _ _ _ _ _ _ _ _ _ _ _ _ _ _ _ _ _ _ _ _ _ _ _ _ _ _ _ _ _ _ _ _ _ _ _ _ _ _ _ _ _ _ _ _ _ _ _ _ _ _ _ _ _ _ _ _ _ _ _ _ _ _ _ _ _ _ _ _ _ _ _ _ _ _ _ _ _ _ _ _ _ _ _ _ _ _ _ _ _ _ _ _ _ _ _ _ _ _ _ _ _ _ _ _ _ _ _ _ _ _ _ _ _ _ _ _ _ _ _ hEnd.out
  · have hL1 : ¬ 120 ≤ (L.length : Int) := by omega
    replace hno := hidden hno
    have kO := hidden (fun (wx : World) => nameOk_calls (mkB s) wx)
    rw [mk_list, hs] at kO
    have o2 := hO.out.o2
    have o1 := hO.out.o1
    go_wp2_with fail
    refine (kO.out _).mono ?_
    rintro ev wq ⟨rfl, hwq⟩
    subst wq
    dsimp only
    have kP := hidden (dp_put_ok (hP.out.d.more (below_drew1 w)) hok.out s d hs (by omega) (by omega) hno.out (by omega))
    go_upto_region 31 with fail
    refine dp_31 E db ob kind (d : Int) s t 0 (L ++ [⟨s, d⟩]) w hO hob.out.1 kGT kP _ _ _ _ _ _ _ _ _ _ _ _ _ _ _ _ _ _ _ _ _ _ _ _ _ _ _ _ _ _ _ _ _ _ _ _ _ _ _ _ _ _ _ _ _ _ _ _ _ _ _ _ _ _ _ _ _ _ _ _ _ _ _ _ _ _ _ _ _ _ _ _ _ _ _ _ _ _ _ _ _ _ _ _ _ _ _ _ _ _ _ _ _ _ _ _ _ _ _ _ _ _ _ _ _ _ _ _ _ _ _ _ _ _ _ _ _ _ _ _ _ _ _ _ _ _ _ _ _ _ _ _ _ _ _ _ _ _ _ _ _ _ _ _ _ _ _ _ _ _ _ _ _ _ _ _ _ _ _ _ _ _ _ _ _ _ _ _ _ _ _ _ _ _ _ _ _ _ _ _ _ _ _ _ _ _ _ _ _ _ _ _ _ _ _ _ _ _ _ _ _ _ _ _ _ _ _ _ _ _ _ _ _ _ _ _ _ _ _ _ _ _ _ _ _ _ _ _ _ _ _ _ _ _ _ _ _ _ _ _ _ _ _ _ _ _ _ _ _ _ _ _ _ _ _ _ _ _ _ _ _ _ _ _ _ _ _ _ _ _ _ _ _ _ _ _ _ _ _ _ _ (hidden ?kke) (hidden ?qpe)
    case qpe =>
      intro _ a a' _ h e
      exact hQp.out _ _ _ _ h e
    case kke =>
      intro v125 v126 v127 v128 v129 v130 v131 v132 v133 v134 w4 hE4
      obtain ⟨h1, h2, h3⟩ := hP.out.turn hE4.1 hE4.2
      have hO4 := hO.out.keep hE4.2 (by simpa using hob.out.1)
      have o14 := hO4.o1
      have o24 := hO4.o2
      obtain ⟨w5, hw5, hB5, hq0, hq1⟩ : ∃ w5, w4.alloc (.cells #[.string (mkB s), .int .i64 (d : Int)] 38) = w5 ∧ Below w4.heap.size w4 w5 ∧ w5.cell? ⟨w4.heap.size, 0, none⟩ = some (.string (mkB s)) ∧ w5.cell? ⟨w4.heap.size, 1, none⟩ = some (.int .i64 (d : Int)) := ⟨_, rfl, (Below.refl _ _).alloc (Nat.le_refl _) _, by simp, by simp⟩
      obtain ⟨v6, w6, hrun, hO6, hB6⟩ := (h2.below hB5).push Tryz.underlying28 Tryz.infoRecP ⟨s, d⟩ ⟨w4.heap.size, 0, none⟩ 1 hq0 hq1 (by omega) (Nat.le_trans h3 hB5.size) 28
      have hb : Below base w4 w6 := (hB5.mono h3).trans hB6
      have hEnd := hidden (show QP10 E db base (k + 1) v6 w6 from ⟨L ++ [⟨s, d⟩], ⟨h1.ov hP.out.a hP.out.b hb, hO6, fun r hr => by
        rcases List.mem_append.1 hr with hr | hr
        · exact hP.out.i r hr
        · obtain rfl := List.mem_singleton.1 hr
          show d ≤ 200
          omega, hP.out.a, hP.out.b, Nat.le_trans h3 hb.size⟩, by simp; omega⟩)
      replace hw5 := hidden hw5
      replace hrun := hidden hrun
      clear hE4 h1 h2 hB5 hB6 hq0 hq1 hO6 hb hO4
      dsimp only
      go_upto_region 34 with fail
      replace hw5 := hw5.out
      go_wp2_with (at_builtin; refine wpList_append_eq _ _ 28 rfl _ _ _ w6 rfl rfl hrun.out rfl ?_)
      exact hKK.out _ _ _ _ _ _ _ _ _ _ _ _ _ _ _ _ _ _ _ _ _ _ _ _ _ _ _ _ _ _ _ _ _ _ _ _ _ _ _ _ _ _ _ _ _ _ _ _ _ _ _ _ _ _ _ _ _ _ _ _ _ _ _ _ _ _ _ _ _ _ _ _ _ _ _ _ _ _ _ _ _ _ _ _ _ _ _ _ _ _ _ _ _ _ _ _ _ _ _ _ _ _ _ _ _ _ _ _ _ _ _ _ _ _ _ _ _ _ _ _ _ _ _ _ _ _ _ _ _ _ _ _ _ _ _ _ _ _ _ _ _ _ _ _ _ _ _ _ _ _ _ _ _ _ _ _ _ _ _ _ _ _ _ _ _ _ _ _ _ _ _ _ _ _ _ _ _ _ _ _ _ _ _ _ hEnd.out
end Go.Proofs.YtlphgkaojfpepaaGreatDoor
