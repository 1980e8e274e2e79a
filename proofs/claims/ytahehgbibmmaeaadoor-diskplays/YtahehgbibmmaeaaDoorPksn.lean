/- DiskPlays' loop: a case of a round. -/
import Derived.Test.YtahehgbibmmaeaaDoorPb
namespace Go.Proofs.YtahehgbibmmaeaaDoor
open Go.RowKit Go.Extern.Stop Go.Stop Go.Extern
set_option maxRecDepth 1000000

set_option maxHeartbeats 8000000 in
theorem play_short_n (wb : World) (nb N : Nat) (hN16 : 16 ≤ N) (hN60 : N ≤ 60) (b off len vcap K : Nat) (hlen : len ≤ 9223372036854775807) (hK1 : (K : Int) < (len : Int)) (hK2 : (K : Int) < 60)
    (o : OpT) (hi64 : i64 o.i) (hn64 : i64 o.n) (writes fuse : Int) (left : Int) (dead : Bool) (wr : World) (hdl : Hid ((left == 0) = dead)) (hPl : Hid (Play wb nb N (K : Int) writes fuse left wr))
    (q0 : wr.cell? ⟨b, off + K * 4, none⟩ = some (.int .i64 o.kind)) (q1 : wr.cell? ⟨b, off + K * 4 + 1, none⟩ = some (.int .i64 o.i)) (q2 : wr.cell? ⟨b, off + K * 4 + 2, none⟩ = some (.int .i64 o.n)) (q3 : wr.cell? ⟨b, off + K * 4 + 3, none⟩ = some (.bool o.short))
    (x2 x3 x6 x20 x21 x22 x23 x24 x25 x26 x27 x28 x29 x30 x31 x32 x33 x34 x35 x36 x37 x38 x39 x40 x41 x42 x43 x44 x45 x46 x47 x48 x49 x50 x51 x52 x53 x54 x55 x56 x57 x58 x59 x60 x61 x230 x231 x232 x233 x234 x235 x236 x237 x238 x239 x240 x241 x242 x243 x244 x245 x246 x247 x248 x249 x250 x251 x252 x253 x254 x255 x256 u4 u12 u13 u14 u15 u16 u17 u18 u19 u62 u63 u64 u65 u66 u67 u68 u69 u70 u71 u72 u73 u74 u75 u76 u77 u78 u79 u80 u81 u82 u83 u84 u85 u86 u87 u88 u89 u90 u91 u92 u93 u94 u95 u96 u97 u98 u99 u100 u101 u102 u103 u104 u105 u106 u107 u108 u109 u110 u111 u112 u113 u114 u115 u116 u117 u118 u119 u120 u121 u122 u123 u124 u125 u126 u127 u128 u129 u130 u131 u132 u133 u134 u135 u136 u137 u138 u139 u140 u141 u142 u143 u144 u145 u146 u147 u148 u149 u150 u151 u152 u153 u154 u155 u156 u157 u158 u159 u160 u161 u162 u163 u164 u165 u166 u167 u168 u169 u170 u171 u172 u173 u174 u175 u176 u177 u178 u179 u180 u181 u182 u183 u184 u185 u186 u187 u188 u189 u190 u191 u192 u193 u194 u195 u196 u197 u198 u199 u200 u201 u202 u203 u204 u205 u206 u207 u208 u209 u210 u211 u212 u213 u214 u215 u216 u217 u218 u219 u220 u221 u222 u223 u224 u225 u226 u227 u228 u229 : Value) (KK : Act → World → Prop)
    (hKK : Hid (∀ (v4 v12 v13 v14 v15 v16 v17 v18 v19 v62 v63 v64 v65 v66 v67 v68 v69 v70 v71 v72 v73 v74 v75 v76 v77 v78 v79 v80 v81 v82 v83 v84 v85 v86 v87 v88 v89 v90 v91 v92 v93 v94 v95 v96 v97 v98 v99 v100 v101 v102 v103 v104 v105 v106 v107 v108 v109 v110 v111 v112 v113 v114 v115 v116 v117 v118 v119 v120 v121 v122 v123 v124 v125 v126 v127 v128 v129 v130 v131 v132 v133 v134 v135 v136 v137 v138 v139 v140 v141 v142 v143 v144 v145 v146 v147 v148 v149 v150 v151 v152 v153 v154 v155 v156 v157 v158 v159 v160 v161 v162 v163 v164 v165 v166 v167 v168 v169 v170 v171 v172 v173 v174 v175 v176 v177 v178 v179 v180 v181 v182 v183 v184 v185 v186 v187 v188 v189 v190 v191 v192 v193 v194 v195 v196 v197 v198 v199 v200 v201 v202 v203 v204 v205 v206 v207 v208 v209 v210 v211 v212 v213 v214 v215 v216 v217 v218 v219 v220 v221 v222 v223 v224 v225 v226 v227 v228 v229 : Value) (writes' fuse' left' : Int) (dead' : Bool) (k' : Int) (w' : World), k' = (K : Int) + 1 → dead' = (left' == 0) → Play wb nb N ((K : Int) + 1) writes' fuse' left' w' → KK ⟨#[.int .i64 (N : Int), .slice (some ⟨b, off, none⟩) len vcap, x2, x3, v4, ptr (wb.heap.size + 1), x6, .slice (some ⟨nb, 0, none⟩) N N, .int .i64 (writes'), .int .i64 (fuse'), .bool (dead'), .int .i64 (k'), v12, v13, v14, v15, v16, v17, v18, v19, x20, x21, x22, x23, x24, x25, x26, x27, x28, x29, x30, x31, x32, x33, x34, x35, x36, x37, x38, x39, x40, x41, x42, x43, x44, x45, x46, x47, x48, x49, x50, x51, x52, x53, x54, x55, x56, x57, x58, x59, x60, x61, v62, v63, v64, v65, v66, v67, v68, v69, v70, v71, v72, v73, v74, v75, v76, v77, v78, v79, v80, v81, v82, v83, v84, v85, v86, v87, v88, v89, v90, v91, v92, v93, v94, v95, v96, v97, v98, v99, v100, v101, v102, v103, v104, v105, v106, v107, v108, v109, v110, v111, v112, v113, v114, v115, v116, v117, v118, v119, v120, v121, v122, v123, v124, v125, v126, v127, v128, v129, v130, v131, v132, v133, v134, v135, v136, v137, v138, v139, v140, v141, v142, v143, v144, v145, v146, v147, v148, v149, v150, v151, v152, v153, v154, v155, v156, v157, v158, v159, v160, v161, v162, v163, v164, v165, v166, v167, v168, v169, v170, v171, v172, v173, v174, v175, v176, v177, v178, v179, v180, v181, v182, v183, v184, v185, v186, v187, v188, v189, v190, v191, v192, v193, v194, v195, v196, v197, v198, v199, v200, v201, v202, v203, v204, v205, v206, v207, v208, v209, v210, v211, v212, v213, v214, v215, v216, v217, v218, v219, v220, v221, v222, v223, v224, v225, v226, v227, v228, v229, x230, x231, x232, x233, x234, x235, x236, x237, x238, x239, x240, x241, x242, x243, x244, x245, x246, x247, x248, x249, x250, x251, x252, x253, x254, x255, x256], []⟩ w'))
    (Q : Exit → Act → World → Prop) (hQp : Hid (∀ x a a' w, Q (.panic x) a w → a.defers = a'.defers → Q (.panic x) a' w))
    (hk : Hid (o.kind = 0)) (hsh : Hid (o.short = true)) (hi0 : ¬ 0 ≤ o.i) :
    Code.wp Tryd.prog (((Tryd.f6.body.bind firstLoop).getD .skip)) (Exit.then KK Q) ⟨#[.int .i64 (N : Int), .slice (some ⟨b, off, none⟩) len vcap, x2, x3, u4, ptr (wb.heap.size + 1), x6, .slice (some ⟨nb, 0, none⟩) N N, .int .i64 (writes), .int .i64 (fuse), .bool (dead), .int .i64 ((K : Int)), u12, u13, u14, u15, u16, u17, u18, u19, x20, x21, x22, x23, x24, x25, x26, x27, x28, x29, x30, x31, x32, x33, x34, x35, x36, x37, x38, x39, x40, x41, x42, x43, x44, x45, x46, x47, x48, x49, x50, x51, x52, x53, x54, x55, x56, x57, x58, x59, x60, x61, u62, u63, u64, u65, u66, u67, u68, u69, u70, u71, u72, u73, u74, u75, u76, u77, u78, u79, u80, u81, u82, u83, u84, u85, u86, u87, u88, u89, u90, u91, u92, u93, u94, u95, u96, u97, u98, u99, u100, u101, u102, u103, u104, u105, u106, u107, u108, u109, u110, u111, u112, u113, u114, u115, u116, u117, u118, u119, u120, u121, u122, u123, u124, u125, u126, u127, u128, u129, u130, u131, u132, u133, u134, u135, u136, u137, u138, u139, u140, u141, u142, u143, u144, u145, u146, u147, u148, u149, u150, u151, u152, u153, u154, u155, u156, u157, u158, u159, u160, u161, u162, u163, u164, u165, u166, u167, u168, u169, u170, u171, u172, u173, u174, u175, u176, u177, u178, u179, u180, u181, u182, u183, u184, u185, u186, u187, u188, u189, u190, u191, u192, u193, u194, u195, u196, u197, u198, u199, u200, u201, u202, u203, u204, u205, u206, u207, u208, u209, u210, u211, u212, u213, u214, u215, u216, u217, u218, u219, u220, u221, u222, u223, u224, u225, u226, u227, u228, u229, x230, x231, x232, x233, x234, x235, x236, x237, x238, x239, x240, x241, x242, x243, x244, x245, x246, x247, x248, x249, x250, x251, x252, x253, x254, x255, x256], []⟩ wr := by
  have hu := And.intro hlen (And.intro hi64 (And.intro hn64 (And.intro hN16 (And.intro hN60 (And.intro hK1 (And.intro hK2 (And.intro hQp hdl)))))))
  clear hu
  have hO := hidden (o_new o wr)
  have hPl2 := hidden (hPl.out.same ((Below.refl _ _).alloc (Nat.le_refl _) (.cells #[.int .i64 o.kind, .int .i64 o.i, .int .i64 o.n, .bool o.short] 44)))
  have hob : nb < wr.heap.size := hPl.out.ex.choose_spec.choose_spec.2.1.lt
  clear hPl
  conv => arg 2; whnf
  go_upto_region 14 with fail
  generalize hob' : wr.heap.size = ob at hO hob ⊢
  generalize wr.alloc (.cells #[.int .i64 o.kind, .int .i64 o.i, .int .i64 o.n, .bool o.short] 44) = w2 at hO hPl2 ⊢
  clear q0 q1 q2 q3 hob'
  have e0 := hO.out.c0
  have e1 := hO.out.c1
  have e2 := hO.out.c2
  have e3 := hO.out.c3
  obtain ⟨n', hn'⟩ : ∃ n', bits .and .i64 o.n 2047 = n' := ⟨_, rfl⟩
  have hn0 : 0 ≤ n' := hn' ▸ (and_low o.n 2047 (by decide)).1
  have hn1 : n' ≤ 2047 := hn' ▸ (and_low o.n 2047 (by decide)).2
  rw [hk.out] at e0
  rw [hsh.out] at e3
  go_wp2_with fail
  refine (fill_row n' _).mono ?_
  rintro ev w3 ⟨bb, rfl, hRow, hbb, hB3⟩
  have hPl3 := hidden (hPl2.out.same hB3)
  replace hO := hidden (hO.out.below hB3)
  replace hRow := hidden hRow
  clear hPl2 hB3 e0 e1 e2 e3
  have e1 := hO.out.c1
  have e3 := hO.out.c3
  rw [hsh.out] at e3
  have hS3 := hPl3.out.ex.choose_spec.choose_spec.2.2
  have kW : ∀ wx, Below w3.heap.size w3 wx → Calls Tryd.prog 10 #[ptr (wb.heap.size + 1), .int .i64 o.i, (.slice (some ⟨bb, 1, none⟩) 127 127)] wx fun e w' => ∃ b, e = .returned (flt b) ∧ Chain w' [(sDisk, itoaB o.i)] (num 1) (flt b) ∧ Below w3.heap.size w3 w' := fun wx h1 =>
    (sys_write_bad (hS3.more h1) o.i 1 hi64 _ _ (BytesAt.below hRow.out.tail h1) (Or.inl ⟨by simp [fillL_len], rfl⟩)).mono fun _ _ ⟨b, h2, h3, _, _, h6⟩ => ⟨b, h2, h3, h1.trans (h6.mono h1.size)⟩
  have kO : ∀ wx, Below w3.heap.size w3 wx → wx.cell? ⟨ob, 1, none⟩ = some (.int .i64 o.i) := fun wx h1 => (hO.out.below h1).c1
  have kN : ∀ wx, Calls Tryd.prog 21 #[.int .i64 o.i] wx fun e w' => e = .returned (.string (itoaB o.i)) ∧ w' = wx := num_calls o.i hi64
  have kI : ∀ wx b, Chain wx [(sDisk, itoaB o.i)] (num 1) (flt b) → Below w3.heap.size w3 wx → Calls Tryd.prog 20 #[flt b, .string sDisk, .string (itoaB o.i), .int .i64 1] wx fun ev w' => ev = .returned (.bool true) ∧ Below w3.heap.size w3 w' := fun wx b h1 h2 =>
    (law_is 1 (by decide) wx sDisk (itoaB o.i) [] _ h1 (hS3.more h2).ground.g).mono fun _ _ h => ⟨h.1, h2.trans (h.2.mono h2.size)⟩
  generalize itoaB o.i = sN at kW kN kI
  have hS0 : Below w3.heap.size w3 w3.drew := (Below.refl _ _).drew
  replace kW := hidden kW
  replace kO := hidden kO
  replace kN := hidden kN
  replace kI := hidden kI
  clear hS3
  go_upto_region 30 with fail
  go_cut [135] from 62 to 229 (fun c wx => c = .bool false ∧ Below w3.heap.size w3 wx)
  case first =>
    refine wp_region_any (by kernel_rfl) ?_
    try (change wpAny _ _ _ _ _ _ _ (World.drew _))
    refine wpAny_take (i := 0) (v := ?_) rfl (by kernel_rfl) (by kernel_rfl) (by kernel_rfl) (fun _ _ _ h => hQp.out _ _ _ _ h rfl) (Or.inl ⟨by rfl, ?_⟩) ?_
    rotate_left
    · intro w; go_simp; try (with_reducible rfl)
    refine wpAny_take (i := 1) (v := ?_) rfl (by kernel_rfl) (by kernel_rfl) (by kernel_rfl) (fun _ _ _ h => hQp.out _ _ _ _ h rfl) (Or.inl ⟨by rfl, ?_⟩) ?_
    rotate_left
    · intro w; go_simp; try (with_reducible rfl)
    refine wpAny_take (i := 3) (v := ?_) rfl (by kernel_rfl) (by kernel_rfl) (by kernel_rfl) (fun _ _ _ h => hQp.out _ _ _ _ h rfl) (Or.inl ⟨by rfl, ?_⟩) ?_
    rotate_left
    · intro w; go_simp; try (with_reducible rfl)
    refine wpAny_take (i := 5) (v := ?_) rfl (by kernel_rfl) (by kernel_rfl) (by kernel_rfl) (fun _ _ _ h => hQp.out _ _ _ _ h rfl) (Or.inl ⟨by rfl, ?_⟩) ?_
    rotate_left
    · intro w; go_simp; try (with_reducible rfl)
    refine wpAny_take (i := 8) (v := ?_) rfl (by kernel_rfl) (by kernel_rfl) (by kernel_rfl) (fun _ _ _ h => hQp.out _ _ _ _ h rfl) (Or.inl ⟨by rfl, ?_⟩) ?_
    rotate_left
    · intro w; go_simp; try (with_reducible rfl)
    refine wpAny_ready (rs := [2, 6]) (by kernel_rfl) (by simp) ?_
    refine AllReady.cons rfl (fun K hK => ?_) ?_
    · go_simp
      try (refine hK _ _ ?_; clear hK K)
      refine wpAny_ready (rs := [4, 6]) (by kernel_rfl) (by simp) ?_
      refine AllReady.cons rfl (fun K hK => ?_) ?_
      · go_simp
        go_wp2_with (go_at_call 10; refine (kW.out _ hS0).mono ?_; rintro ev w4 ⟨b4, rfl, hC4, hB4⟩; have ho4 := kO.out w4 hB4)
        try (refine hK _ _ ?_; clear hK K)
        refine wpAny_ready (rs := [6]) (by kernel_rfl) (by simp) ?_
        refine AllReady.cons rfl (fun K hK => ?_) AllReady.nil
        go_simp
        try (refine hK _ _ ?_; clear hK K)
        refine wpAny_ready (rs := [7]) (by kernel_rfl) (by simp) ?_
        refine AllReady.cons rfl (fun K hK => ?_) AllReady.nil
        go_simp
        go_wp2_with (go_at_call 21; refine (kN.out w4).mono ?_; rintro ev w4 ⟨rfl, rfl⟩)
        try (refine hK _ _ ?_; clear hK K)
        refine wpAny_ready (rs := [9]) (by kernel_rfl) (by simp) ?_
        refine AllReady.cons rfl (fun K hK => ?_) AllReady.nil
        go_simp
        go_wp2_with (go_at_call 20; refine (kI.out w4 b4 hC4 hB4).mono ?_; rintro ev w6 ⟨rfl, hB6⟩)
        try (refine hK _ _ ?_; clear hK K)
        refine wpAny_ready (rs := [10]) (by kernel_rfl) (by simp) ?_
        refine AllReady.cons rfl (fun K hK => ?_) AllReady.nil
        go_simp
        try (refine hK _ _ ?_; clear hK K)
        refine wpAny_done (by kernel_rfl) ?_ _
        go_wp2_with fail
        go_meet
        case rel => exact ⟨rfl, hB6⟩
      refine AllReady.cons rfl (fun K hK => ?_) ?_
      · go_simp
        try (refine hK _ _ ?_; clear hK K)
        refine wpAny_ready (rs := [4]) (by kernel_rfl) (by simp) ?_
        refine AllReady.cons rfl (fun K hK => ?_) AllReady.nil
        go_simp
        go_wp2_with (go_at_call 10; refine (kW.out _ hS0).mono ?_; rintro ev w4 ⟨b4, rfl, hC4, hB4⟩; have ho4 := kO.out w4 hB4)
        try (refine hK _ _ ?_; clear hK K)
        refine wpAny_ready (rs := [7]) (by kernel_rfl) (by simp) ?_
        refine AllReady.cons rfl (fun K hK => ?_) AllReady.nil
        go_simp
        go_wp2_with (go_at_call 21; refine (kN.out w4).mono ?_; rintro ev w4 ⟨rfl, rfl⟩)
        try (refine hK _ _ ?_; clear hK K)
        refine wpAny_ready (rs := [9]) (by kernel_rfl) (by simp) ?_
        refine AllReady.cons rfl (fun K hK => ?_) AllReady.nil
        go_simp
        go_wp2_with (go_at_call 20; refine (kI.out w4 b4 hC4 hB4).mono ?_; rintro ev w6 ⟨rfl, hB6⟩)
        try (refine hK _ _ ?_; clear hK K)
        refine wpAny_ready (rs := [10]) (by kernel_rfl) (by simp) ?_
        refine AllReady.cons rfl (fun K hK => ?_) AllReady.nil
        go_simp
        try (refine hK _ _ ?_; clear hK K)
        refine wpAny_done (by kernel_rfl) ?_ _
        go_wp2_with fail
        go_meet
        case rel => exact ⟨rfl, hB6⟩
      exact AllReady.nil
    refine AllReady.cons rfl (fun K hK => ?_) ?_
    · go_simp
      try (refine hK _ _ ?_; clear hK K)
      refine wpAny_ready (rs := [2]) (by kernel_rfl) (by simp) ?_
      refine AllReady.cons rfl (fun K hK => ?_) AllReady.nil
      go_simp
      try (refine hK _ _ ?_; clear hK K)
      refine wpAny_ready (rs := [4]) (by kernel_rfl) (by simp) ?_
      refine AllReady.cons rfl (fun K hK => ?_) AllReady.nil
      go_simp
      go_wp2_with (go_at_call 10; refine (kW.out _ hS0).mono ?_; rintro ev w4 ⟨b4, rfl, hC4, hB4⟩; have ho4 := kO.out w4 hB4)
      try (refine hK _ _ ?_; clear hK K)
      refine wpAny_ready (rs := [7]) (by kernel_rfl) (by simp) ?_
      refine AllReady.cons rfl (fun K hK => ?_) AllReady.nil
      go_simp
      go_wp2_with (go_at_call 21; refine (kN.out w4).mono ?_; rintro ev w4 ⟨rfl, rfl⟩)
      try (refine hK _ _ ?_; clear hK K)
      refine wpAny_ready (rs := [9]) (by kernel_rfl) (by simp) ?_
      refine AllReady.cons rfl (fun K hK => ?_) AllReady.nil
      go_simp
      go_wp2_with (go_at_call 20; refine (kI.out w4 b4 hC4 hB4).mono ?_; rintro ev w6 ⟨rfl, hB6⟩)
      try (refine hK _ _ ?_; clear hK K)
      refine wpAny_ready (rs := [10]) (by kernel_rfl) (by simp) ?_
      refine AllReady.cons rfl (fun K hK => ?_) AllReady.nil
      go_simp
      try (refine hK _ _ ?_; clear hK K)
      refine wpAny_done (by kernel_rfl) ?_ _
      go_wp2_with fail
      go_meet
      case rel => exact ⟨rfl, hB6⟩
    exact AllReady.nil
  case rest =>
    obtain ⟨rfl, hBc⟩ := hcut
    have P := hidden (hPl3.out.below hBc)
    clear hBc kW kO kN kI hS0 hRow
    obtain ⟨memE, nwE, hTE, hNE, hSE⟩ := P.out.ex
    replace hSE := hidden hSE
    clear hTE hNE
    go_wp2_with fail
    refine (sys_dead' hSE.out dead hdl.out).mono ?_
    rintro ev wE ⟨rfl, rfl⟩
    go_wp2_with fail
    refine (sys_writes hSE.out).mono ?_
    rintro ev wE ⟨rfl, rfl⟩
    go_wp2_with fail
    refine (sys_blocks hSE.out).mono ?_
    rintro ev wE ⟨rfl, rfl⟩
    go_wp2
    refine hKK.out _ _ _ _ _ _ _ _ _ _ _ _ _ _ _ _ _ _ _ _ _ _ _ _ _ _ _ _ _ _ _ _ _ _ _ _ _ _ _ _ _ _ _ _ _ _ _ _ _ _ _ _ _ _ _ _ _ _ _ _ _ _ _ _ _ _ _ _ _ _ _ _ _ _ _ _ _ _ _ _ _ _ _ _ _ _ _ _ _ _ _ _ _ _ _ _ _ _ _ _ _ _ _ _ _ _ _ _ _ _ _ _ _ _ _ _ _ _ _ _ _ _ _ _ _ _ _ _ _ _ _ _ _ _ _ _ _ _ _ _ _ _ _ _ _ _ _ _ _ _ _ _ _ _ _ _ _ _ _ _ _ _ _ _ _ _ _ _ _ _ _ _ _ _ _ _ _ _ _ (left) _ _ _ rfl (hdl.out.symm) (P.out)
end Go.Proofs.YtahehgbibmmaeaaDoor
