/- FsKinds: each refusal by its name. -/
import Derived.Test.YtjionogjeafffaaGreatDoorGWx
import Derived.Test.YtjionogjeafffaaGreatDoorGWs
import Derived.Deep.CutBlock
namespace Go.Proofs.YtjionogjeafffaaGreatDoor
open Go.RowKit Go.Extern.Stop Go.Stop Go.Extern Go.Maps Go.Sort Go.Shelf
set_option maxRecDepth 1000000

set_option maxHeartbeats 8000000 in
theorem kd10 (w : World) (fb hb xb lim : Nat) (w0 : World) (ea eb ec ed ee : Value) (qa : Hid (KdE ⟨#[103, 101, 116]⟩ ⟨#[47, 100]⟩ 13 ea w)) (qb : Hid (KdE ⟨#[108, 105, 115, 116]⟩ ⟨#[47, 102]⟩ 14 eb w)) (qc : Hid (KdE ⟨#[103, 101, 116]⟩ ⟨#[47, 102, 47, 120]⟩ 14 ec w)) (qd : Hid (KdE ⟨#[104, 111, 108, 100]⟩ ⟨#[47, 100]⟩ 13 ed w)) (qe : Hid (KdE ⟨#[115, 116, 97, 116]⟩ ⟨#[47, 100, 47, 120]⟩ 11 ee w)) (hS : Hid (KdS fb hb xb lim w0 w))
    (x0 x1 x2 x3 x4 x7 x9 x11 x13 x15 x17 x18 x19 x20 x21 x22 x23 x24 x25 x26 x27 x28 x29 x30 x31 x32 x33 x34 x35 x36 x37 x38 x39 x40 x41 x42 x43 x44 x45 x46 x47 x48 x49 x50 x51 x52 x53 x54 x55 x56 x57 x58 x59 x60 x61 x62 x63 x64 x65 x66 x67 x68 x69 x70 x71 x72 x73 x74 x75 x76 x77 x78 x79 x80 x81 x82 x83 x84 x85 x86 x87 x88 x89 x90 x91 x92 x93 x94 x95 x96 x97 x98 x99 x100 x101 x102 x103 x104 x105 x106 x107 x108 x109 x110 x111 x112 x113 x114 x115 x116 x117 x118 x119 x120 x121 x122 x123 x124 x125 x126 x127 x128 x129 x130 x131 x132 x133 x134 x135 x136 x137 x138 x139 x140 x141 x142 x143 x144 x145 x146 x147 x148 x149 x150 x151 x152 x153 x154 x155 x156 x157 x158 x159 x160 x161 x162 x163 x164 x165 x166 x167 x168 x169 x170 x171 x172 x173 x174 x175 x176 x177 x178 x179 x180 x181 x182 x183 x184 x185 x186 x187 : Value) (KK : Act → World → Prop) (Q : Exit → Act → World → Prop)
    (hKK : Hid (∀ (v81 v82 v83 v84 v85 v86 v87 v88 v89 v90 v91 v92 v93 v94 v95 v96 v97 v98 v99 v100 v101 v102 v103 v104 v105 v106 v107 v108 v109 v110 v111 v112 v113 v114 v115 v116 v117 v118 v119 v120 v121 v122 v123 v124 v125 v126 v127 v128 v129 v130 v131 v132 v133 v134 v135 v136 v137 v138 v139 v140 v141 v142 v143 v144 v145 v146 v147 v148 v149 v150 v151 v152 v153 v154 v155 v156 v157 v158 v159 v160 v161 v162 v163 v164 v165 v166 v167 v168 v169 v170 v171 v172 v173 v174 v175 v176 v177 v178 v179 v180 v181 v182 v183 v184 v185 v186 v187 : Value)  (w' : World), Below w0.heap.size w0 w' → KK ⟨#[x0, x1, x2, x3, .bool true, ptr xb, .func (.func 11) #[] #[], x7, ea, x9, eb, x11, ec, x13, ed, x15, ee, x17, x18, x19, x20, x21, x22, x23, x24, x25, x26, x27, x28, x29, x30, x31, x32, x33, x34, x35, x36, x37, x38, x39, x40, x41, x42, x43, x44, x45, x46, x47, x48, x49, x50, x51, x52, x53, x54, x55, x56, x57, x58, x59, x60, x61, x62, x63, x64, x65, x66, x67, x68, x69, x70, x71, x72, x73, x74, x75, x76, x77, x78, x79, x80, v81, v82, v83, v84, v85, v86, v87, v88, v89, v90, v91, v92, v93, v94, v95, v96, v97, v98, v99, v100, v101, v102, v103, v104, v105, v106, v107, v108, v109, v110, v111, v112, v113, v114, v115, v116, v117, v118, v119, v120, v121, v122, v123, v124, v125, v126, v127, v128, v129, v130, v131, v132, v133, v134, v135, v136, v137, v138, v139, v140, v141, v142, v143, v144, v145, v146, v147, v148, v149, v150, v151, v152, v153, v154, v155, v156, v157, v158, v159, v160, v161, v162, v163, v164, v165, v166, v167, v168, v169, v170, v171, v172, v173, v174, v175, v176, v177, v178, v179, v180, v181, v182, v183, v184, v185, v186, v187], []⟩ w'))
    (hQp : Hid (∀ x a a' w, Q (.panic x) a w → a.defers = a'.defers → Q (.panic x) a' w)) :
    Code.wp Tryz.prog (((Tryz.f5.body.bind (regionAt 10)).getD .skip)) (Exit.then KK Q) ⟨#[x0, x1, x2, x3, x4, ptr xb, .func (.func 11) #[] #[], x7, ea, x9, eb, x11, ec, x13, ed, x15, ee, x17, x18, x19, x20, x21, x22, x23, x24, x25, x26, x27, x28, x29, x30, x31, x32, x33, x34, x35, x36, x37, x38, x39, x40, x41, x42, x43, x44, x45, x46, x47, x48, x49, x50, x51, x52, x53, x54, x55, x56, x57, x58, x59, x60, x61, x62, x63, x64, x65, x66, x67, x68, x69, x70, x71, x72, x73, x74, x75, x76, x77, x78, x79, x80, x81, x82, x83, x84, x85, x86, x87, x88, x89, x90, x91, x92, x93, x94, x95, x96, x97, x98, x99, x100, x101, x102, x103, x104, x105, x106, x107, x108, x109, x110, x111, x112, x113, x114, x115, x116, x117, x118, x119, x120, x121, x122, x123, x124, x125, x126, x127, x128, x129, x130, x131, x132, x133, x134, x135, x136, x137, x138, x139, x140, x141, x142, x143, x144, x145, x146, x147, x148, x149, x150, x151, x152, x153, x154, x155, x156, x157, x158, x159, x160, x161, x162, x163, x164, x165, x166, x167, x168, x169, x170, x171, x172, x173, x174, x175, x176, x177, x178, x179, x180, x181, x182, x183, x184, x185, x186, x187], []⟩ w := by
  have hu := hQp
  clear hu
  conv => arg 2; whnf
  try dsimp only
  have ka := hidden (kd_is hS.out qa.out (by rfl))
  go_wp2_with fail
  refine (ka.out).mono ?_
  rintro ev wa ⟨rfl, hSa, hBa⟩
  replace hSa := hidden hSa
  replace qb := hidden (qb.out.below hBa)
  replace qc := hidden (qc.out.below hBa)
  replace qd := hidden (qd.out.below hBa)
  replace qe := hidden (qe.out.below hBa)
  clear hS qa hBa ka
  have kb := hidden (kd_is hSa.out qb.out (by rfl))
  go_wp2_with fail
  refine (kb.out).mono ?_
  rintro ev wb ⟨rfl, hSb, hBb⟩
  replace hSb := hidden hSb
  replace qc := hidden (qc.out.below hBb)
  replace qd := hidden (qd.out.below hBb)
  replace qe := hidden (qe.out.below hBb)
  clear hSa qb hBb kb
  have kc := hidden (kd_is hSb.out qc.out (by rfl))
  go_wp2_with fail
  refine (kc.out).mono ?_
  rintro ev wc ⟨rfl, hSc, hBc⟩
  replace hSc := hidden hSc
  replace qd := hidden (qd.out.below hBc)
  replace qe := hidden (qe.out.below hBc)
  clear hSb qc hBc kc
  have kd := hidden (kd_is hSc.out qd.out (by rfl))
  go_wp2_with fail
  refine (kd.out).mono ?_
  rintro ev wd ⟨rfl, hSd, hBd⟩
  replace hSd := hidden hSd
  replace qe := hidden (qe.out.below hBd)
  clear hSc qd hBd kd
  have ke := hidden (kd_is hSd.out qe.out (by rfl))
  go_wp2_with fail
  refine (ke.out).mono ?_
  rintro ev we ⟨rfl, hSe, hBe⟩
  replace hSe := hidden hSe
  clear hSd qe hBe ke
  have c0 := hSe.out.x1
  have l0 := lt_of_cell (a := ⟨xb, 1, none⟩) c0
  have kc0 := hidden (kd_putd hSe.out)
  go_wp2_with fail
  refine (kc0.out).mono ?_
  rintro ev wp0 ⟨er0, rfl, hSp0, he0, -⟩
  have ki0 := hidden (kd_is hSp0 he0 (by rfl))
  clear c0 l0 kc0 hSp0 he0 hSe
  go_wp2_with fail
  refine (ki0.out).mono ?_
  rintro ev wq0 ⟨rfl, hSq0, -⟩
  replace hSq0 := hidden hSq0
  clear ki0
  have c1 := hSq0.out.x1
  have l1 := lt_of_cell (a := ⟨xb, 1, none⟩) c1
  have kc1 := hidden (kd_make hSq0.out)
  go_wp2_with fail
  refine (kc1.out).mono ?_
  rintro ev wp1 ⟨er1, rfl, hSp1, he1, -⟩
  have ki1 := hidden (kd_is hSp1 he1 (by rfl))
  clear c1 l1 kc1 hSp1 he1 hSq0
  go_wp2_with fail
  refine (ki1.out).mono ?_
  rintro ev wq1 ⟨rfl, hSq1, -⟩
  replace hSq1 := hidden hSq1
  clear ki1
  have c2 := hSq1.out.x1
  have l2 := lt_of_cell (a := ⟨xb, 1, none⟩) c2
  have kc2 := hidden (kd_mkdirf hSq1.out)
  go_wp2_with fail
  refine (kc2.out).mono ?_
  rintro ev wp2 ⟨er2, rfl, hSp2, he2, -⟩
  have ki2 := hidden (kd_is hSp2 he2 (by rfl))
  clear c2 l2 kc2 hSp2 he2 hSq1
  go_wp2_with fail
  refine (ki2.out).mono ?_
  rintro ev wq2 ⟨rfl, hSq2, -⟩
  replace hSq2 := hidden hSq2
  clear ki2
  have c3 := hSq2.out.x1
  have l3 := lt_of_cell (a := ⟨xb, 1, none⟩) c3
  have kc3 := hidden (kd_renfd hSq2.out)
  go_wp2_with fail
  refine (kc3.out).mono ?_
  rintro ev wp3 ⟨er3, rfl, hSp3, he3, -⟩
  have ki3 := hidden (kd_is hSp3 he3 (by rfl))
  clear c3 l3 kc3 hSp3 he3 hSq2
  go_wp2_with fail
  refine (ki3.out).mono ?_
  rintro ev wq3 ⟨rfl, hSq3, -⟩
  replace hSq3 := hidden hSq3
  clear ki3
  have c4 := hSq3.out.x1
  have l4 := lt_of_cell (a := ⟨xb, 1, none⟩) c4
  have kc4 := hidden (kd_rendf hSq3.out)
  go_wp2_with fail
  refine (kc4.out).mono ?_
  rintro ev wp4 ⟨er4, rfl, hSp4, he4, -⟩
  have ki4 := hidden (kd_is hSp4 he4 (by rfl))
  clear c4 l4 kc4 hSp4 he4 hSq3
  go_wp2_with fail
  refine (ki4.out).mono ?_
  rintro ev wq4 ⟨rfl, hSq4, -⟩
  replace hSq4 := hidden hSq4
  clear ki4
  have c5 := hSq4.out.x1
  have l5 := lt_of_cell (a := ⟨xb, 1, none⟩) c5
  have kc5 := hidden (kd_remove hSq4.out)
  go_wp2_with fail
  refine (kc5.out).mono ?_
  rintro ev wp5 ⟨er5, rfl, hSp5, he5, -⟩
  have ki5 := hidden (kd_is hSp5 he5 (by rfl))
  clear c5 l5 kc5 hSp5 he5 hSq4
  go_wp2_with fail
  refine (ki5.out).mono ?_
  rintro ev wq5 ⟨rfl, hSq5, -⟩
  replace hSq5 := hidden hSq5
  clear ki5
  have c6 := hSq5.out.x1
  have l6 := lt_of_cell (a := ⟨xb, 1, none⟩) c6
  have kc6 := hidden (kd_renroot hSq5.out)
  go_wp2_with fail
  refine (kc6.out).mono ?_
  rintro ev wp6 ⟨er6, rfl, hSp6, he6, -⟩
  have ki6 := hidden (kd_is hSp6 he6 (by rfl))
  clear c6 l6 kc6 hSp6 he6 hSq5
  go_wp2_with fail
  refine (ki6.out).mono ?_
  rintro ev wq6 ⟨rfl, hSq6, -⟩
  replace hSq6 := hidden hSq6
  clear ki6
  have c7 := hSq6.out.x1
  have l7 := lt_of_cell (a := ⟨xb, 1, none⟩) c7
  have kc7 := hidden (kd_makeroot hSq6.out)
  go_wp2_with fail
  refine (kc7.out).mono ?_
  rintro ev wp7 ⟨er7, rfl, hSp7, he7, -⟩
  have ki7 := hidden (kd_is hSp7 he7 (by rfl))
  clear c7 l7 kc7 hSp7 he7 hSq6
  go_wp2_with fail
  refine (ki7.out).mono ?_
  rintro ev wq7 ⟨rfl, hSq7, -⟩
  replace hSq7 := hidden hSq7
  clear ki7
  have c8 := hSq7.out.x1
  have l8 := lt_of_cell (a := ⟨xb, 1, none⟩) c8
  have kc8 := hidden (kd_putroot hSq7.out)
  go_wp2_with fail
  refine (kc8.out).mono ?_
  rintro ev wp8 ⟨er8, rfl, hSp8, he8, -⟩
  have ki8 := hidden (kd_is hSp8 he8 (by rfl))
  clear c8 l8 kc8 hSp8 he8 hSq7
  go_wp2_with fail
  refine (ki8.out).mono ?_
  rintro ev wq8 ⟨rfl, hSq8, -⟩
  replace hSq8 := hidden hSq8
  clear ki8
  have kw := hidden (awake11_calls wq8 hSq8.out.ground hSq8.out.gt)
  go_wp2_with fail
  refine (kw.out).mono ?_
  rintro ev wr ⟨rfl, hBr⟩
  replace hSq8 := hidden (hSq8.out.below hBr).bel
  clear hBr kw
  go_wp2
  exact hKK.out _ _ _ _ _ _ _ _ _ _ _ _ _ _ _ _ _ _ _ _ _ _ _ _ _ _ _ _ _ _ _ _ _ _ _ _ _ _ _ _ _ _ _ _ _ _ _ _ _ _ _ _ _ _ _ _ _ _ _ _ _ _ _ _ _ _ _ _ _ _ _ _ _ _ _ _ _ _ _ _ _ _ _ _ _ _ _ _ _ _ _ _ _ _ _ _ _ _ _ _ _ _ _ _ _ _ _ _ hSq8.out
end Go.Proofs.YtjionogjeafffaaGreatDoor
