/- FsKinds answers true, whatever it is given, and changes nothing that was there. -/
import Derived.Test.YtjionogjeafffaaGreatDoorGWx
import Derived.Test.YtjionogjeafffaaGreatDoorWpKz
import Derived.Deep.CutBlock
namespace Go.Proofs.YtjionogjeafffaaGreatDoor
open Go.RowKit Go.Extern.Stop Go.Stop Go.Extern Go.Maps Go.Sort Go.Shelf
set_option maxRecDepth 1000000

set_option maxHeartbeats 8000000 in
theorem fsKinds_calls (za zb : Int) (w : World) (hG : Ground w) (hGT : GT w) :
    Calls Tryz.prog 5 #[.int .i64 za, .int .i64 zb] w fun e w' => e = .returned (.bool true) ∧ Below w.heap.size w w' := by
  have kM := hidden (New11_calls fmt220k w hG)
  obtain ⟨nl, hand, hnl⟩ : ∃ nl : Nat, bits .and .i64 zb 2047 = (nl : Int) ∧ nl ≤ 2047 := by
    have hal : 0 ≤ bits .and .i64 zb 2047 ∧ bits .and .i64 zb 2047 ≤ 2047 := and_low zb 2047 (by decide)
    exact ⟨(bits .and .i64 zb 2047).toNat, by omega, by omega⟩
  obtain ⟨xs, hxs⟩ : ∃ xs, text11 za nl = xs := ⟨_, rfl⟩
  have kT := fun (wx : World) => Text11_calls za nl (by omega) wx
  have hxr := text11_range za nl
  have hxl : xs.length = nl := by rw [← hxs]; exact text11_len _ _
  rw [hxs] at kT hxr
  replace kT := hidden kT
  replace hxr := hidden hxr
  replace hxl := hidden (show xs.length ≤ 3000 by omega)
  replace hGT := hidden hGT
  replace hand := hidden hand
  clear hG hxs hnl
  go_enter Tryz.func5, Tryz.ntmps5
  go_wp2_with fail
  refine (kM.out).mono ?_
  rintro ev w1 ⟨E, fb, hb, xb, rfl, hN⟩
  have hw0 := hidden hN.w0
  have hX1 := hidden (show KdX fb xb E w1 from ⟨hN.x1, hN.xn, hN.tn, by rw [hN.w0]; exact hGT.out⟩)
  have hz1 := hidden hN.z
  clear hN kM
  go_upto_region 2 with fail
  refine kd2 w1 fb hb xb E 6000 za zb nl xs hand.out (hidden (by omega)) kT hxr hxl hX1 hz1 _ _ _ _ _ _ _ _ _ _ _ _ _ _ _ _ _ _ _ _ _ _ _ _ _ _ _ _ _ _ _ _ _ _ _ _ _ _ _ _ _ _ _ _ _ _ _ _ _ _ _ _ _ _ _ _ _ _ _ _ _ _ _ _ _ _ _ _ _ _ _ _ _ _ _ _ _ _ _ _ _ _ _ _ _ _ _ _ _ _ _ _ _ _ _ _ _ _ _ _ _ _ _ _ _ _ _ _ _ _ _ _ _ _ _ _ _ _ _ _ _ _ _ _ _ _ _ _ _ _ _ _ _ _ _ _ _ _ _ _ _ _ _ _ _ _ _ _ _ _ _ _ _ _ _ _ _ _ _ _ _ _ _ _ _ _ _ _ _ _ _ _ _ _ _ _ _ _ _ _ _ _ _ _ _ _ _ (hidden ?kk2) (hidden ?qp2)
  case qp2 => exact fun _ a a' _ h e => by cases a; cases a'; cases e; exact h
  case kk2 =>
  intro v18 v19 v20 v21 v22 v23 v24 v25 v26 v27 v28 v29 v30 v31 v32 v33 v34 v35 v36 v37 v38 v39 w2 hS2
  rw [hw0.out] at hS2
  replace hS2 := hidden hS2
  clear hX1 hz1 hw0 kT hxr hxl
  dsimp only
  have c2 := hS2.out.x1
  have l2 := lt_of_cell (a := ⟨xb, 1, none⟩) c2
  have ka := hidden (kd_get hS2.out)
  go_upto_region 5 with fail
  go_wp2_with fail
  refine (ka.out).mono ?_
  rintro ev w3 ⟨ea, rfl, hS3, ha, hk3⟩
  replace hS3 := hidden hS3
  replace ha := hidden ha
  clear hS2 c2 l2 ka hk3
  have c3 := hS3.out.x1
  have l3 := lt_of_cell (a := ⟨xb, 1, none⟩) c3
  have kb := hidden (kd_list hS3.out)
  go_upto_region 6 with fail
  go_wp2_with fail
  refine (kb.out).mono ?_
  rintro ev w4 ⟨eb, rfl, hS4, hbe, hk4⟩
  replace hS4 := hidden hS4
  replace hbe := hidden hbe
  replace ha := hidden (hk4 _ _ _ _ ha.out)
  clear hS3 c3 l3 kb hk4
  have c4 := hS4.out.x1
  have l4 := lt_of_cell (a := ⟨xb, 1, none⟩) c4
  have kc := hidden (kd_getx hS4.out)
  go_upto_region 7 with fail
  go_wp2_with fail
  refine (kc.out).mono ?_
  rintro ev w5 ⟨ec, rfl, hS5, hc, hk5⟩
  replace hS5 := hidden hS5
  replace hc := hidden hc
  replace ha := hidden (hk5 _ _ _ _ ha.out)
  replace hbe := hidden (hk5 _ _ _ _ hbe.out)
  clear hS4 c4 l4 kc hk5
  have c5 := hS5.out.x1
  have l5 := lt_of_cell (a := ⟨xb, 1, none⟩) c5
  have kd := hidden (kd_hold hS5.out)
  go_upto_region 8 with fail
  go_wp2_with fail
  refine (kd.out).mono ?_
  rintro ev w6 ⟨ed, rfl, hS6, hd, hk6⟩
  replace hS6 := hidden hS6
  replace hd := hidden hd
  replace ha := hidden (hk6 _ _ _ _ ha.out)
  replace hbe := hidden (hk6 _ _ _ _ hbe.out)
  replace hc := hidden (hk6 _ _ _ _ hc.out)
  clear hS5 c5 l5 kd hk6
  have c6 := hS6.out.x1
  have l6 := lt_of_cell (a := ⟨xb, 1, none⟩) c6
  have ke := hidden (kd_stat hS6.out)
  go_upto_region 9 with fail
  go_wp2_with fail
  refine (ke.out).mono ?_
  rintro ev w7 ⟨ee, rfl, hS7, he, hk7⟩
  replace hS7 := hidden hS7
  replace he := hidden he
  replace ha := hidden (hk7 _ _ _ _ ha.out)
  replace hbe := hidden (hk7 _ _ _ _ hbe.out)
  replace hc := hidden (hk7 _ _ _ _ hc.out)
  replace hd := hidden (hk7 _ _ _ _ hd.out)
  clear hS6 c6 l6 ke hk7
  obtain ⟨w8, hw8, hB8⟩ : ∃ w8, w7.alloc (Obj.cells #[.bool false, .int .i64 0, .int .i64 0] 60) = w8 ∧ Below w7.heap.size w7 w8 := ⟨_, rfl, (Below.refl _ _).alloc (Nat.le_refl _) _⟩
  have hS8 := hidden (hS7.out.below hB8)
  replace ha := hidden (ha.out.below hB8)
  replace hbe := hidden (hbe.out.below hB8)
  replace hc := hidden (hc.out.below hB8)
  replace hd := hidden (hd.out.below hB8)
  replace he := hidden (he.out.below hB8)
  replace hw8 := hidden hw8
  clear hS7 hB8
  unfold inV
  go_upto_region 10 with fail
  rw [hw8.out]
  clear hw8
  generalize w7.heap.size = sb at *
  refine kd10 w8 fb hb xb _ w ea eb ec ed ee ha hbe hc hd he hS8 _ _ _ _ _ _ _ _ _ _ _ _ _ _ _ _ _ _ _ _ _ _ _ _ _ _ _ _ _ _ _ _ _ _ _ _ _ _ _ _ _ _ _ _ _ _ _ _ _ _ _ _ _ _ _ _ _ _ _ _ _ _ _ _ _ _ _ _ _ _ _ _ _ _ _ _ _ _ _ _ _ _ _ _ _ _ _ _ _ _ _ _ _ _ _ _ _ _ _ _ _ _ _ _ _ _ _ _ _ _ _ _ _ _ _ _ _ _ _ _ _ _ _ _ _ _ _ _ _ _ _ _ _ _ _ _ _ _ _ _ _ _ _ _ _ _ _ _ _ _ _ _ _ _ _ _ _ _ _ _ _ _ _ _ _ _ _ _ _ _ _ _ _ _ _ _ _ _ _ _ _ _ _ (hidden ?kk10) (hidden ?qp10)
  case qp10 => exact fun _ a a' _ h e => by cases a; cases a'; cases e; exact h
  case kk10 =>
    intro v81 v82 v83 v84 v85 v86 v87 v88 v89 v90 v91 v92 v93 v94 v95 v96 v97 v98 v99 v100 v101 v102 v103 v104 v105 v106 v107 v108 v109 v110 v111 v112 v113 v114 v115 v116 v117 v118 v119 v120 v121 v122 v123 v124 v125 v126 v127 v128 v129 v130 v131 v132 v133 v134 v135 v136 v137 v138 v139 v140 v141 v142 v143 v144 v145 v146 v147 v148 v149 v150 v151 v152 v153 v154 v155 v156 v157 v158 v159 v160 v161 v162 v163 v164 v165 v166 v167 v168 v169 v170 v171 v172 v173 v174 v175 v176 v177 v178 v179 v180 v181 v182 v183 v184 v185 v186 v187 w9 hB9
    replace hB9 := hidden hB9
    dsimp only
    go_wp2
    go_ret
    exact ⟨rfl, hB9.out⟩
end Go.Proofs.YtjionogjeafffaaGreatDoor
