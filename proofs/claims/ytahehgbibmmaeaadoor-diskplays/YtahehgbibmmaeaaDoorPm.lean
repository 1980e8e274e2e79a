/- DiskPlays over a script: from its head to its end. -/
import Derived.Test.YtahehgbibmmaeaaDoorPj
namespace Go.Proofs.YtahehgbibmmaeaaDoor
open Go.RowKit Go.Extern.Stop Go.Stop Go.Extern
set_option maxRecDepth 1000000

set_option maxHeartbeats 8000000 in
theorem plays_good (blocks : Int) (hb16 : 16 ≤ blocks) (hb2 : blocks ≤ 2048) (v : Value) (ops : List OpT) (w : World) (hG : Ground w) (hv : OpsAt w v ops) :
    Calls Tryd.prog 6 #[.int .i64 blocks, v] w fun e w' => e = .returned (.bool true) ∧ Below w.heap.size w w' := by
  obtain ⟨va, vcap, rfl, hm, hr, hc⟩ := hv
  have hm' : ops.length ≤ 9223372036854775807 := by unfold maxLen at hm; omega
  replace hc := hidden hc
  replace hr := hidden hr
  clear hm
  go_enter Tryd.func6, Tryd.ntmps6
  go_upto_region 1 with fail
  go_cut [28] (fun c wx => c = .bool (decide (60 < blocks)) ∧ wx = w)
  case first =>
    by_cases h60 : 60 < blocks
    · go_wp2_with fail
      go_meet
      case rel => exact ⟨by rw [decide_eq_true (by omega)], rfl⟩
    · go_wp2_with fail
      go_meet
      case rel => exact ⟨by rw [decide_eq_false (by omega)], rfl⟩
  case rest =>
  obtain ⟨rfl, rfl⟩ := hcut
  go_upto_if 28 with fail
  go_cut [0] (fun v wx => (∃ N : Nat, v = .int .i64 N ∧ 16 ≤ N ∧ N ≤ 60) ∧ wx = wc)
  case first =>
    by_cases h60 : 60 < blocks
    · have h1 := Int.tmod_lt_of_pos blocks (b := 45) (by decide)
      have h2 : 0 ≤ blocks.tmod 45 := Int.tmod_nonneg _ (by omega)
      obtain ⟨R, hR⟩ : ∃ R, blocks.tmod 45 = R := ⟨_, rfl⟩
      rw [hR] at h1 h2
      go_wp2_with fail
      go_meet
      case rel => exact ⟨⟨(R + 16).toNat, by rw [Int.toNat_of_nonneg (by omega)], by omega, by omega⟩, rfl⟩
    · go_wp2_with fail
      go_meet
      case rel => exact ⟨⟨blocks.toNat, by rw [Int.toNat_of_nonneg (by omega)], by omega, by omega⟩, rfl⟩
  case rest =>
    obtain ⟨⟨N, rfl, hN16, hN60⟩, rfl⟩ := hcut
    clear hb16 hb2
    rename World => wb
    have hNi16 : ¬ (N : Int) < 16 := by omega
    have hNi48 : ¬ (2048 : Int) < (N : Int) := by omega
    go_wp2_with fail
    refine (sys_new N hN16 (by omega) _ hG).mono ?_
    rintro ev w1 ⟨rfl, hS⟩
    have hmk := make_ints N (by omega) w1
    have hPl : Play wb w1.heap.size N 0 0 (-1) (-1) (w1.alloc (.cells (Array.replicate N (.int .i64 0)) 3)) :=
      ⟨⟨fun _ => 0, fun _ => 0, fun j _ => ⟨blockL_zero j, Int.le_refl 0, show (0 : Int) ≤ 2048 by decide⟩, nums_new N (by omega) w1, hS.more ((Below.refl _ _).alloc (Nat.le_refl _) _)⟩, by decide, by decide, by decide, by decide, by decide, by decide, fun _ => rfl⟩
    have hlt1 := hS.disk.lt
    replace hPl := hidden hPl
    clear hS
    go_wp2_with fail
    clear hmk
    refine play_loop wb w1.heap.size N hN16 hN60 hlt1.1 ops ops.length vcap rfl hm' va hr.out hc.out _ _ _ _ _ _ _ _ _ _ _ _ _ _ _ _ _ _ _ _ _ _ _ _ _ _ _ _ _ _ _ _ _ _ _ _ _ _ _ _ _ _ _ _ _ _ _ _ _ _ _ _ _ _ _ _ _ _ _ _ _ _ _ _ _ _ _ _ _ _ _ _ _ _ _ _ _ _ _ _ _ _ _ _ _ _ _ _ _ _ _ _ _ _ _ _ _ _ _ _ _ _ _ _ _ _ _ _ _ _ _ _ _ _ _ _ _ _ _ _ _ _ _ _ _ _ _ _ _ _ _ _ _ _ _ _ _ _ _ _ _ _ _ _ _ _ _ _ _ _ _ _ _ _ _ _ _ _ _ _ _ _ _ _ _ _ _ _ _ _ _ _ _ _ _ _ _ _ _ _ _ _ _ _ _ _ _ _ _ _ _ _ _ _ _ _ _ _ _ _ _ _ _ _ _ _ _ _ _ _ _ _ _ _ _ _ _ _ _ _ _ _ _ _ _ _ _ _ _ _ _ _ _ _ _ _ _ _ _ _ _ _ _ _ _ _ _ _ _ _ hPl.out _ ?_ ?_
    · intro _ a a' _ h e
      cases a
      cases a'
      cases e
      exact h
    · intro v4 v12 v13 v14 v15 v16 v17 v18 v19 v62 v63 v64 v65 v66 v67 v68 v69 v70 v71 v72 v73 v74 v75 v76 v77 v78 v79 v80 v81 v82 v83 v84 v85 v86 v87 v88 v89 v90 v91 v92 v93 v94 v95 v96 v97 v98 v99 v100 v101 v102 v103 v104 v105 v106 v107 v108 v109 v110 v111 v112 v113 v114 v115 v116 v117 v118 v119 v120 v121 v122 v123 v124 v125 v126 v127 v128 v129 v130 v131 v132 v133 v134 v135 v136 v137 v138 v139 v140 v141 v142 v143 v144 v145 v146 v147 v148 v149 v150 v151 v152 v153 v154 v155 v156 v157 v158 v159 v160 v161 v162 v163 v164 v165 v166 v167 v168 v169 v170 v171 v172 v173 v174 v175 v176 v177 v178 v179 v180 v181 v182 v183 v184 v185 v186 v187 v188 v189 v190 v191 v192 v193 v194 v195 v196 v197 v198 v199 v200 v201 v202 v203 v204 v205 v206 v207 v208 v209 v210 v211 v212 v213 v214 v215 v216 v217 v218 v219 v220 v221 v222 v223 v224 v225 v226 v227 v228 v229 k writes fuse left w2 hP
      clear hPl hc hr
      obtain ⟨mem, nw, hT, hNm, hS⟩ := hP.ex
      clear hP
      replace hT := hidden hT
      replace hNm := hidden hNm
      replace hS := hidden hS
      go_wp2_with fail
      refine (sys_power hS.out).mono ?_
      clear hS
      rintro ev w4 ⟨rfl, hS, hAp⟩
      replace hNm := hidden (hNm.out.keep hAp (by simp; omega))
      replace hS := hidden hS
      clear hAp
      go_wp2_with fail
      go_loopg [20] N (fun gk i wx => ∃ m : Int, i = .int .i64 m ∧ 0 ≤ m ∧ m ≤ (N : Int) ∧ gk = N - m.toNat ∧ NumsAt w1.heap.size N nw wx ∧ Sys wb (wb.heap.size + 1) wb.heap.size N mem writes (-1) wx)
      case atStart => exact ⟨0, rfl, by omega, by omega, rfl, hNm.out, hS.out⟩
      case round =>
        clear hS hNm
        obtain ⟨m, rfl, hm0, hm1, hgk, hNm, hS⟩ := hrel
        replace hS := hidden hS
        replace hNm := hidden hNm
        replace hgk := hidden hgk
        by_cases hlt : m < (N : Int)
        · obtain ⟨K, hK⟩ : ∃ K : Nat, m = (K : Int) := ⟨m.toNat, by omega⟩
          subst hK
          obtain ⟨hbl, hn0, hn1⟩ := hT.out K (by omega)
          go_wp2_with fail
          refine (sys_read_op hS.out K (by omega) (by decide)).mono ?_
          clear hS
          rintro ev w5 ⟨v5, rfl, hb5, hS, hB5⟩
          rw [hbl] at hb5
          have hc5 := (hNm.out.keep (Apart.of_below (bs := []) hB5) (by simp)).cells K (by omega)
          replace hNm := hidden (hNm.out.keep (Apart.of_below (bs := []) hB5) (by simp))
          clear hB5 hbl
          generalize nw K = x at hb5 hc5 hn0 hn1
          have kC : ∀ w1, Below w5.heap.size w5 w1 → (convert 27 9 v5).run Tryd.prog w1 = .ok (.string (ofBytes (isL x))) w1 := fun w1 h1 => conv_bytes w1 _ _ (hb5.below h1)
          have kI : ∀ w1, Below w5.heap.size w5 w1 → Calls Tryd.prog 18 #[.int .i64 x] w1 fun ev w' => ∃ v, ev = .returned v ∧ Below w5.heap.size w5 w' ∧ (convert 27 9 v).run Tryd.prog w' = .ok (.string (ofBytes (isL x))) w' := fun w1 h1 =>
            (is_calls x hn0 (by omega) w1).mono fun _ w' ⟨v, h2, h3, h4⟩ => ⟨v, h2, h1.trans (h4.mono h1.size), conv_bytes w' _ _ h3⟩
          generalize ofBytes (isL x) = s at kC kI
          have hS0 : Below w5.heap.size w5 w5.drew := (Below.refl _ _).drew
          have hc0 := kC w5.drew hS0
          replace kC := hidden kC
          replace kI := hidden kI
          replace hS := hidden hS
          clear hb5
          go_upto_region 63 with fail
          go_cut [255] from 232 to 255 (fun c wx => c = .bool false ∧ Below w5.heap.size w5 wx)
          case first =>
            refine wp_region_any (by kernel_rfl) ?_
            try (change wpAny _ _ _ _ _ _ _ (World.drew _))
            refine wpAny_ready (rs := [0]) (by kernel_rfl) (by simp) ?_
            refine AllReady.cons rfl (fun K hK => ?_) AllReady.nil
            go_simp
            try (refine hK _ _ ?_; clear hK K)
            refine wpAny_ready (rs := [1]) (by kernel_rfl) (by simp) ?_
            refine AllReady.cons rfl (fun K hK => ?_) AllReady.nil
            go_simp
            try (refine hK _ _ ?_; clear hK K)
            refine wpAny_ready (rs := [2]) (by kernel_rfl) (by simp) ?_
            refine AllReady.cons rfl (fun K hK => ?_) AllReady.nil
            go_simp
            try (refine hK _ _ ?_; clear hK K)
            refine wpAny_take (i := 3) (v := ?_) rfl (by kernel_rfl) (by kernel_rfl) (by kernel_rfl) (fun _ _ _ h => h) (Or.inl ⟨by rfl, ?_⟩) ?_
            rotate_left
            · intro w; go_simp; try (with_reducible rfl)
            refine wpAny_take (i := 5) (v := ?_) rfl (by kernel_rfl) (by kernel_rfl) (by kernel_rfl) (fun _ _ _ h => h) (Or.inl ⟨by rfl, ?_⟩) ?_
            rotate_left
            · intro w; go_simp; try (with_reducible rfl)
            refine wpAny_take (i := 6) (v := ?_) rfl (by kernel_rfl) (by kernel_rfl) (by kernel_rfl) (fun _ _ _ h => h) (Or.inl ⟨by rfl, ?_⟩) ?_
            rotate_left
            · intro w; go_simp; try (with_reducible rfl)
            refine wpAny_take (i := 7) (v := ?_) rfl (by kernel_rfl) (by kernel_rfl) (by kernel_rfl) (fun _ _ _ h => h) (Or.inl ⟨by rfl, ?_⟩) ?_
            rotate_left
            · intro w; go_simp; try (with_reducible rfl)
            refine wpAny_ready (rs := [4, 8]) (by kernel_rfl) (by simp) ?_
            refine AllReady.cons rfl (fun K hK => ?_) ?_
            · go_simp
              try (refine hK _ _ ?_; clear hK K)
              refine wpAny_ready (rs := [8]) (by kernel_rfl) (by simp) ?_
              refine AllReady.cons rfl (fun K hK => ?_) AllReady.nil
              go_simp
              try (refine hK _ _ ?_; clear hK K)
              refine wpAny_ready (rs := [9]) (by kernel_rfl) (by simp) ?_
              refine AllReady.cons rfl (fun K hK => ?_) AllReady.nil
              go_simp
              go_wp2_with (go_at_call 18; refine (kI.out _ hS0).mono ?_; rintro ev w6 ⟨v6, rfl, hB6, hc6⟩; have hc5 := kC.out w6 hB6)
              try (refine hK _ _ ?_; clear hK K)
              refine wpAny_ready (rs := [10]) (by kernel_rfl) (by simp) ?_
              refine AllReady.cons rfl (fun K hK => ?_) AllReady.nil
              go_simp
              try (refine hK _ _ ?_; clear hK K)
              refine wpAny_ready (rs := [11]) (by kernel_rfl) (by simp) ?_
              refine AllReady.cons rfl (fun K hK => ?_) AllReady.nil
              go_simp
              try (refine hK _ _ ?_; clear hK K)
              refine wpAny_ready (rs := [12]) (by kernel_rfl) (by simp) ?_
              refine AllReady.cons rfl (fun K hK => ?_) AllReady.nil
              go_simp
              try (refine hK _ _ ?_; clear hK K)
              refine wpAny_done (by kernel_rfl) ?_ _
              go_wp2_with fail
              go_meet
              case rel => exact ⟨rfl, hB6⟩
            refine AllReady.cons rfl (fun K hK => ?_) ?_
            · go_simp
              try (refine hK _ _ ?_; clear hK K)
              refine wpAny_ready (rs := [4, 9]) (by kernel_rfl) (by simp) ?_
              refine AllReady.cons rfl (fun K hK => ?_) ?_
              · go_simp
                try (refine hK _ _ ?_; clear hK K)
                refine wpAny_ready (rs := [9]) (by kernel_rfl) (by simp) ?_
                refine AllReady.cons rfl (fun K hK => ?_) AllReady.nil
                go_simp
                go_wp2_with (go_at_call 18; refine (kI.out _ hS0).mono ?_; rintro ev w6 ⟨v6, rfl, hB6, hc6⟩; have hc5 := kC.out w6 hB6)
                try (refine hK _ _ ?_; clear hK K)
                refine wpAny_ready (rs := [10]) (by kernel_rfl) (by simp) ?_
                refine AllReady.cons rfl (fun K hK => ?_) AllReady.nil
                go_simp
                try (refine hK _ _ ?_; clear hK K)
                refine wpAny_ready (rs := [11]) (by kernel_rfl) (by simp) ?_
                refine AllReady.cons rfl (fun K hK => ?_) AllReady.nil
                go_simp
                try (refine hK _ _ ?_; clear hK K)
                refine wpAny_ready (rs := [12]) (by kernel_rfl) (by simp) ?_
                refine AllReady.cons rfl (fun K hK => ?_) AllReady.nil
                go_simp
                try (refine hK _ _ ?_; clear hK K)
                refine wpAny_done (by kernel_rfl) ?_ _
                go_wp2_with fail
                go_meet
                case rel => exact ⟨rfl, hB6⟩
              refine AllReady.cons rfl (fun K hK => ?_) ?_
              · go_simp
                go_wp2_with (go_at_call 18; refine (kI.out _ hS0).mono ?_; rintro ev w6 ⟨v6, rfl, hB6, hc6⟩; have hc5 := kC.out w6 hB6)
                try (refine hK _ _ ?_; clear hK K)
                refine wpAny_ready (rs := [4, 10]) (by kernel_rfl) (by simp) ?_
                refine AllReady.cons rfl (fun K hK => ?_) ?_
                · go_simp
                  try (refine hK _ _ ?_; clear hK K)
                  refine wpAny_ready (rs := [10]) (by kernel_rfl) (by simp) ?_
                  refine AllReady.cons rfl (fun K hK => ?_) AllReady.nil
                  go_simp
                  try (refine hK _ _ ?_; clear hK K)
                  refine wpAny_ready (rs := [11]) (by kernel_rfl) (by simp) ?_
                  refine AllReady.cons rfl (fun K hK => ?_) AllReady.nil
                  go_simp
                  try (refine hK _ _ ?_; clear hK K)
                  refine wpAny_ready (rs := [12]) (by kernel_rfl) (by simp) ?_
                  refine AllReady.cons rfl (fun K hK => ?_) AllReady.nil
                  go_simp
                  try (refine hK _ _ ?_; clear hK K)
                  refine wpAny_done (by kernel_rfl) ?_ _
                  go_wp2_with fail
                  go_meet
                  case rel => exact ⟨rfl, hB6⟩
                refine AllReady.cons rfl (fun K hK => ?_) ?_
                · go_simp
                  try (refine hK _ _ ?_; clear hK K)
                  refine wpAny_ready (rs := [4]) (by kernel_rfl) (by simp) ?_
                  refine AllReady.cons rfl (fun K hK => ?_) AllReady.nil
                  go_simp
                  try (refine hK _ _ ?_; clear hK K)
                  refine wpAny_ready (rs := [11]) (by kernel_rfl) (by simp) ?_
                  refine AllReady.cons rfl (fun K hK => ?_) AllReady.nil
                  go_simp
                  try (refine hK _ _ ?_; clear hK K)
                  refine wpAny_ready (rs := [12]) (by kernel_rfl) (by simp) ?_
                  refine AllReady.cons rfl (fun K hK => ?_) AllReady.nil
                  go_simp
                  try (refine hK _ _ ?_; clear hK K)
                  refine wpAny_done (by kernel_rfl) ?_ _
                  go_wp2_with fail
                  go_meet
                  case rel => exact ⟨rfl, hB6⟩
                exact AllReady.nil
              exact AllReady.nil
            exact AllReady.nil
          case rest =>
            obtain ⟨rfl, hBc⟩ := hcut
            replace hS := hidden (hS.out.more hBc)
            replace hNm := hidden (hNm.out.keep (Apart.of_below (bs := []) hBc) (by simp))
            clear hBc kC kI hc0 hS0
            go_wp2
            go_roundg (N - ((K : Int) + 1).toNat)
            case measure => rw [hgk.out]; omega
            case rel => exact ⟨(K : Int) + 1, rfl, by omega, by omega, rfl, hNm.out, hS.out⟩
        · go_wp2_with fail
          refine (awake_calls _ hS.out.ground).mono ?_
          rintro ev w8 ⟨rfl, hB8⟩
          have hE := hidden (hS.out.below.trans (hB8.mono hS.out.below.size))
          clear hB8
          go_wp2
          go_ret
          exact ⟨rfl, hE.out⟩
theorem diskPlays_calls (blocks : Int) (hb : i64 blocks) (v : Value) (ops : List OpT) (w : World) (hG : Ground w) (hv : OpsAt w v ops) :
    Calls Tryd.prog 6 #[.int .i64 blocks, v] w fun e w' => e = .returned (.bool true) ∧ Below w.heap.size w w' := by
  by_cases h : blocks < 16 ∨ 2048 < blocks
  · exact plays_bad blocks hb h v w hG
  · exact plays_good blocks (by omega) (by omega) v ops w hG hv
end Go.Proofs.YtahehgbibmmaeaaDoor
