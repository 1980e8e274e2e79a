/- FsSwaps answers true, whatever it is given, and changes nothing that was there. -/
import Derived.Test.YtjionogjeafffaaGreatDoorWn4z
import Derived.Test.YtjionogjeafffaaGreatDoorGWv
import Derived.Deep.CutBlock
namespace Go.Proofs.YtjionogjeafffaaGreatDoor
open Go.RowKit Go.Extern.Stop Go.Stop Go.Extern Go.Maps Go.Sort Go.Shelf
set_option maxRecDepth 1000000

theorem sw_rem (z : Int) : ∃ n : Nat, (bits .and .i64 z 65535).tmod 3000 = (n : Int) ∧ n < 3000 := by
  have hal : 0 ≤ bits .and .i64 z 65535 ∧ bits .and .i64 z 65535 ≤ 65535 := and_low z 65535 (by decide)
  have e : (bits .and .i64 z 65535).tmod 3000 = bits .and .i64 z 65535 % 3000 := Int.tmod_eq_emod_of_nonneg hal.1
  refine ⟨((bits .and .i64 z 65535) % 3000).toNat, ?_, by omega⟩
  rw [e]
  omega
theorem rest_d (E : TE) : E.rest.d = E.d := rfl
theorem rest_g (E : TE) : E.rest.g = E.g := rfl
theorem rest_mb (E : TE) : E.rest.mb = E.mb := rfl
theorem rest_w0 (E : TE) : E.rest.w0 = E.w0 := rfl
theorem rest_turns (E : TE) (fb : Nat) (w w' : World) : E.rest.Turns fb w w' = E.Turns fb w w' := rfl
theorem low_of {fb hb : Nat} {E : TE} {lim : Nat} {w : World} {q : SwQ} (h : SwSt fb hb E lim w q) : ∀ k ∈ [E.d, E.g, E.mb, fb], k < w.heap.size := by
  obtain ⟨⟨h1, h2, -, -, h3, -⟩, h4, -⟩ := h.lts
  intro k hk
  simp at hk
  rcases hk with rfl | rfl | rfl | rfl
  · exact h1
  · exact h2
  · exact h3
  · exact h4
set_option maxHeartbeats 8000000 in
theorem fsSwaps_calls (za zb : Int) (w : World) (hG : Ground w) (hGT : GT w) :
    Calls Tryz.prog 4 #[.int .i64 za, .int .i64 zb] w fun e w' => e = .returned (.bool true) ∧ Below w.heap.size w w' := by
  have kM := hidden (New11_calls fmt240 w hG)
  obtain ⟨n1, hn1, hb1⟩ := sw_rem za
  obtain ⟨n2, hn2, hb2⟩ := sw_rem zb
  obtain ⟨xs, hxs⟩ : ∃ xs, text11 1 n1 = xs := ⟨_, rfl⟩
  obtain ⟨ys, hys⟩ : ∃ ys, text11 2 n2 = ys := ⟨_, rfl⟩
  obtain ⟨TX, hTX⟩ : ∃ TX, ofBytes xs = TX := ⟨_, rfl⟩
  obtain ⟨TY, hTY⟩ : ∃ TY, ofBytes ys = TY := ⟨_, rfl⟩
  have hxl : xs.length = n1 := by rw [← hxs]; exact text11_len _ _
  have hyl : ys.length = n2 := by rw [← hys]; exact text11_len _ _
  have kT1 := fun (wx : World) => Text11_calls 1 n1 (by omega) wx
  have kT2 := fun (wx : World) => Text11_calls 2 n2 (by omega) wx
  have hxr := text11_range 1 n1
  have hyr := text11_range 2 n2
  rw [hxs] at kT1 hxr
  rw [hys] at kT2 hyr
  rw [hTX] at kT1
  rw [hTY] at kT2
  have hSY : TY.size = n2 := by rw [← hTY, ofB_size]; exact hyl
  replace kT1 := hidden kT1
  replace kT2 := hidden kT2
  replace hxr := hidden hxr
  replace hyr := hidden hyr
  replace hTX := hidden hTX
  replace hTY := hidden hTY
  replace hGT := hidden hGT
  replace hxl := hidden hxl
  replace hyl := hidden hyl
  replace hSY := hidden hSY
  clear hG hxs hys
  go_enter Tryz.func4, Tryz.ntmps4
  go_wp2_with fail
  refine (kM.out).mono ?_
  rintro ev w1 ⟨E, fb, hb, xb, rfl, hN⟩
  have hw0 := hidden hN.w0
  have hR1 := hidden (show SwR fb hb xb E 6000 .new w1 from ⟨hN.z, hN.no, hN.x1, hN.xn, hN.tn, hN.k⟩)
  clear hN kM
  go_wp2_with fail
  refine (kT1.out _).mono ?_
  rintro ev w2 ⟨rfl, hB2⟩
  have hR2 := hidden (hR1.out.below hB2)
  clear kT1 hB2 hR1
  go_wp2_with fail
  refine (kT2.out _).mono ?_
  rintro ev w3 ⟨rfl, hB3⟩
  have hR3 := hidden (hR2.out.below hB3)
  clear kT2 hB3 hR2
  go_upto_region 5 with fail
  refine sw5 w3 fb hb xb E 6000 xs ys (hidden (by omega)) TX TY hTX hTY hxr hyr (hidden (by have := hxl.out; omega)) (hidden (by have := hyl.out; omega)) hR3 _ _ _ _ _ _ _ _ _ _ _ _ _ _ _ _ _ _ _ _ _ _ _ _ _ _ _ _ _ _ _ _ _ _ _ _ _ _ _ _ _ _ _ _ _ _ _ _ _ _ _ _ _ _ _ _ _ _ _ _ _ _ _ _ _ _ _ _ _ _ _ _ _ _ _ _ _ _ _ _ _ _ _ _ _ _ _ _ _ _ _ _ _ _ _ _ _ _ _ _ _ _ _ _ _ _ _ _ _ _ _ _ _ _ _ _ _ _ _ _ _ _ _ _ _ _ _ _ _ _ _ _ _ _ _ _ _ _ _ _ _ _ _ _ _ _ _ _ _ _ _ _ _ _ _ _ _ _ _ _ _ _ _ _ (hidden ?kk5) (hidden ?qp5)
  case qp5 => exact fun _ a a' _ h e => by cases a; cases a'; cases e; exact h
  case kk5 =>
  intro v27 v28 v29 v30 v31 v32 v33 v34 v35 v36 v37 v38 v39 v40 v41 v42 v43 w7 hR7
  replace hR7 := hidden hR7
  clear hR3
  dsimp only
  go_upto_region 7 with fail
  refine sw7 w7 fb hb xb E.rest.rest (6000 + 1000 + 1000) xs ys (hidden (by omega)) hR7 _ _ _ _ _ _ _ _ _ _ _ _ _ _ _ _ _ _ _ _ _ _ _ _ _ _ _ _ _ _ _ _ _ _ _ _ _ _ _ _ _ _ _ _ _ _ _ _ _ _ _ _ _ _ _ _ _ _ _ _ _ _ _ _ _ _ _ _ _ _ _ _ _ _ _ _ _ _ _ _ _ _ _ _ _ _ _ _ _ _ _ _ _ _ _ _ _ _ _ _ _ _ _ _ _ _ _ _ _ _ _ _ _ _ _ _ _ _ _ _ _ _ _ _ _ _ _ _ _ _ _ _ _ _ _ _ _ _ _ _ _ _ _ _ _ _ _ _ _ _ _ _ _ _ _ _ _ _ _ _ _ _ _ _ _ _ (hidden ?kk7) (hidden ?qp7)
  case qp7 => exact fun _ a a' _ h e => by cases a; cases a'; cases e; exact h
  case kk7 =>
  intro v45 v46 v47 v48 v49 v50 v51 v52 v53 v54 v55 v56 v57 v58 v59 v60 v61 v62 v63 v64 v65 wA hRA
  have hlow := hidden (show ∀ k ∈ [E.d, E.g, E.mb, fb], k < wA.heap.size from by have h := low_of hRA.st; simp only [rest_d, rest_g, rest_mb] at h; exact h)
  have hxn := hidden (show xb ∉ [E.d, E.g, E.mb, fb] from by have := hRA.xn; simp only [rest_d, rest_g, rest_mb] at this; simp; exact ⟨this.1, this.2.1, this.2.2.1, this.2.2.2⟩)
  replace hRA := hidden hRA
  clear hR7
  dsimp only
  go_upto_region 9 with fail
  refine sw9 wA fb hb xb E.rest.rest.rest.rest.rest (6000 + 1000 + 1000 + 1000 + 1000 + 1000) xs ys (hidden (by omega)) n2 hyl hRA _ _ _ _ _ _ _ _ _ _ _ _ _ _ _ _ _ _ _ _ _ _ _ _ _ _ _ _ _ _ _ _ _ _ _ _ _ _ _ _ _ _ _ _ _ _ _ _ _ _ _ _ _ _ _ _ _ _ _ _ _ _ _ _ _ _ _ _ _ _ _ _ _ _ _ _ _ _ _ _ _ _ _ _ _ _ _ _ _ _ _ _ _ _ _ _ _ _ _ _ _ _ _ _ _ _ _ _ _ _ _ _ _ _ _ _ _ _ _ _ _ _ _ _ _ _ _ _ _ _ _ _ _ _ _ _ _ _ _ _ _ _ _ _ _ _ _ _ _ _ _ _ _ _ _ _ _ _ _ _ _ _ _ _ _ _ (hidden ?kk9) (hidden ?qp9)
  case qp9 => exact fun _ a a' _ h e => by cases a; cases a'; cases e; exact h
  case kk9 =>
  intro v67 v68 v69 v70 v71 v72 v73 v74 aa ac wB hQB
  replace hQB := hidden hQB
  dsimp only
  go_upto_region 10 with fail
  refine sw10 wB fb hb xb E.rest.rest.rest.rest.rest.rest (6000 + 1000 + 1000 + 1000 + 1000 + 1000 + 1000) xs ys (hidden (by omega)) n1 hxl (hidden hQB.out.2.1) _ _ _ _ _ _ _ _ _ _ _ _ _ _ _ _ _ _ _ _ _ _ _ _ _ _ _ _ _ _ _ _ _ _ _ _ _ _ _ _ _ _ _ _ _ _ _ _ _ _ _ _ _ _ _ _ _ _ _ _ _ _ _ _ _ _ _ _ _ _ _ _ _ _ _ _ _ _ _ _ _ _ _ _ _ _ _ _ _ _ _ _ _ _ _ _ _ _ _ _ _ _ _ _ _ _ _ _ _ _ _ _ _ _ _ _ _ _ _ _ _ _ _ _ _ _ _ _ _ _ _ _ _ _ _ _ _ _ _ _ _ _ _ _ _ _ _ _ _ _ _ _ _ _ _ _ _ _ _ _ _ _ _ _ _ _ (hidden ?kk10) (hidden ?qp10)
  case qp10 => exact fun _ a a' _ h e => by cases a; cases a'; cases e; exact h
  case kk10 =>
  intro v75 v76 v77 v78 v79 v80 v81 v82 ba bc wC hQC
  replace hQC := hidden hQC
  have hTC := hQC.out.2.2
  simp only [rest_turns] at hTC
  have hOC := hQB.out.1.keep (show Apart [E.d, E.g, E.mb, fb] wB wC from hTC) hlow.out
  clear hTC
  have d1 := conv_bytes _ _ _ (ownV_at hOC)
  have d2 := conv_bytes _ _ _ (ownV_at hQC.out.1)
  rw [hTY.out] at d1
  rw [hTX.out] at d2
  replace d1 := hidden d1
  replace d2 := hidden d2
  clear hOC hQB hRA
  dsimp only
  go_upto_region 11 with fail
  refine sw11 wC fb hb xb E.rest.rest.rest.rest.rest.rest.rest (6000 + 1000 + 1000 + 1000 + 1000 + 1000 + 1000 + 1000) xs ys (hidden (by omega)) TX TY n1 n2 aa ba ac bc d1 d2 (hidden hQC.out.2.1) _ _ _ _ _ _ _ _ _ _ _ _ _ _ _ _ _ _ _ _ _ _ _ _ _ _ _ _ _ _ _ _ _ _ _ _ _ _ _ _ _ _ _ _ _ _ _ _ _ _ _ _ _ _ _ _ _ _ _ _ _ _ _ _ _ _ _ _ _ _ _ _ _ _ _ _ _ _ _ _ _ _ _ _ _ _ _ _ _ _ _ _ _ _ _ _ _ _ _ _ _ _ _ _ _ _ _ _ _ _ _ _ _ _ _ _ _ _ _ _ _ _ _ _ _ _ _ _ _ _ _ _ _ _ _ _ _ _ _ _ _ _ _ _ _ _ _ _ _ _ _ _ _ _ _ _ _ _ _ _ (hidden ?kk11) (hidden ?qp11)
  case qp11 => exact fun _ a a' _ h e => by cases a; cases a'; cases e; exact h
  case kk11 =>
  intro v83 v84 v85 v86 v87 v88 v89 v90 v91 v92 v93 v94 v95 v96 v97 v98 v99 v100 v101 v102 v103 v104 v105 v106 v107 wD hQD
  have hlow2 := hidden (show ∀ k ∈ [E.d, E.g, E.mb, fb], k < wD.heap.size from by have h := low_of hQD.1.st; simp only [rest_d, rest_g, rest_mb] at h; exact h)
  replace hQD := hidden hQD
  clear hQC d1 d2
  dsimp only
  go_upto_region 13 with fail
  refine sw13 wD fb hb xb E.rest.rest.rest.rest.rest.rest.rest.rest (6000 + 1000 + 1000 + 1000 + 1000 + 1000 + 1000 + 1000 + 1000) ys (hidden (by omega)) n2 hyl (hidden hQD.out.1) _ _ _ _ _ _ _ _ _ _ _ _ _ _ _ _ _ _ _ _ _ _ _ _ _ _ _ _ _ _ _ _ _ _ _ _ _ _ _ _ _ _ _ _ _ _ _ _ _ _ _ _ _ _ _ _ _ _ _ _ _ _ _ _ _ _ _ _ _ _ _ _ _ _ _ _ _ _ _ _ _ _ _ _ _ _ _ _ _ _ _ _ _ _ _ _ _ _ _ _ _ _ _ _ _ _ _ _ _ _ _ _ _ _ _ _ _ _ _ _ _ _ _ _ _ _ _ _ _ _ _ _ _ _ _ _ _ _ _ _ _ _ _ _ _ _ _ _ _ _ _ _ _ _ _ _ _ _ _ _ _ _ _ _ _ _ (hidden ?kk13) (hidden ?qp13)
  case qp13 => exact fun _ a a' _ h e => by cases a; cases a'; cases e; exact h
  case kk13 =>
  intro v109 v110 v111 v112 v113 v114 v115 v116 ea ec wE hQE
  replace hQE := hidden hQE
  dsimp only
  go_upto_region 14 with fail
  refine sw14 wE fb hb xb E.rest.rest.rest.rest.rest.rest.rest.rest.rest (6000 + 1000 + 1000 + 1000 + 1000 + 1000 + 1000 + 1000 + 1000 + 1000) ys (hidden (by omega)) (hidden hQE.out.2.1) _ _ _ _ _ _ _ _ _ _ _ _ _ _ _ _ _ _ _ _ _ _ _ _ _ _ _ _ _ _ _ _ _ _ _ _ _ _ _ _ _ _ _ _ _ _ _ _ _ _ _ _ _ _ _ _ _ _ _ _ _ _ _ _ _ _ _ _ _ _ _ _ _ _ _ _ _ _ _ _ _ _ _ _ _ _ _ _ _ _ _ _ _ _ _ _ _ _ _ _ _ _ _ _ _ _ _ _ _ _ _ _ _ _ _ _ _ _ _ _ _ _ _ _ _ _ _ _ _ _ _ _ _ _ _ _ _ _ _ _ _ _ _ _ _ _ _ _ _ _ _ _ _ _ _ _ _ _ _ _ _ _ _ _ _ _ (hidden ?kk14) (hidden ?qp14)
  case qp14 => exact fun _ a a' _ h e => by cases a; cases a'; cases e; exact h
  case kk14 =>
  intro v117 v118 v119 v120 v121 v122 v123 v124 rb FI wH hQH
  obtain ⟨B2, hBe⟩ : ∃ B, wD.heap.size = B := ⟨_, rfl⟩
  rw [hBe] at hlow2 hQE
  have hRH := hidden hQH.2.2.1
  have hTH := hQH.2.2.2.1
  simp only [rest_turns] at hTH
  have hSH := hidden (show SwV xb fb rb B2 (.slice ea n2 ec) ys FI wH from ⟨hRH.out.x1, hQH.2.1, hQE.out.1.keep (show Apart [E.d, E.g, E.mb, fb] wE wH from hTH) hlow2.out, Nat.le_trans (by rw [← hBe]; exact hQE.out.2.2.size) hQH.2.2.2.2⟩)
  have hGT' : Hid (GT E.rest.rest.rest.rest.rest.rest.rest.rest.rest.rest.w0) := hidden (by simp only [rest_w0]; rw [hw0.out]; exact hGT.out)
  have hlow3 : Hid (∀ k ∈ [E.rest.rest.rest.rest.rest.rest.rest.rest.rest.rest.d, E.rest.rest.rest.rest.rest.rest.rest.rest.rest.rest.g, E.rest.rest.rest.rest.rest.rest.rest.rest.rest.rest.mb, fb], k < B2) := hidden (by simp only [rest_d, rest_g, rest_mb]; exact hlow2.out)
  clear hTH
  have hf := hidden hQH.1
  clear hQH hQE hlow2 hBe
  dsimp only
  go_upto_region 15 with fail
  refine sw15 wH fb hb xb rb B2 _ _ ys TY ea n2 ec FI (blk (n2 : Int)) n2 hTY hSY.out hyl (hidden rfl) (hidden (by have := hf.out; rw [hyl.out] at this; omega)) (hidden (by omega)) hGT' hRH hlow3 hSH _ _ _ _ _ _ _ _ _ _ _ _ _ _ _ _ _ _ _ _ _ _ _ _ _ _ _ _ _ _ _ _ _ _ _ _ _ _ _ _ _ _ _ _ _ _ _ _ _ _ _ _ _ _ _ _ _ _ _ _ _ _ _ _ _ _ _ _ _ _ _ _ _ _ _ _ _ _ _ _ _ _ _ _ _ _ _ _ _ _ _ _ _ _ _ _ _ _ _ _ _ _ _ _ _ _ _ _ _ _ _ _ _ _ _ _ _ _ _ _ _ _ _ _ _ _ _ _ _ _ _ _ _ _ _ _ _ _ _ _ _ _ _ _ _ _ _ _ _ _ _ _ _ _ _ _ _ _ _ _ _ (hidden ?kk15) (hidden ?qp15)
  case qp15 => exact fun _ a a' _ h e => by cases a; cases a'; cases e; exact h
  case kk15 =>
    intro v125 v126 v127 v128 v129 v130 v131 v132 v133 v134 v135 v136 v137 v138 v139 v140 v141 v142 v143 v144 v145 v146 v147 v148 v149 v150 v151 v152 v153 v154 v155 v156 v157 v158 v159 v160 v161 v162 v163 v164 w8 hB8
    have hB8' : Below w.heap.size w w8 := by have h := hB8; simp only [rest_w0] at h; rw [hw0.out] at h; exact h
    replace hB8' := hidden hB8'
    clear hB8
    dsimp only
    go_wp2
    go_ret
    exact ⟨rfl, hB8'.out⟩
end Go.Proofs.YtjionogjeafffaaGreatDoor
