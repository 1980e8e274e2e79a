/- CachePlays answers true, whatever it is given, and changes nothing that was there. -/
import Derived.Test.YtkaippiblpedhaaGreatDoorCqE
import Derived.Deep.CutBlock
namespace Go.Proofs.YtkaippiblpedhaaGreatDoor
open Go.RowKit Go.Extern.Stop Go.Stop Go.Extern
set_option maxRecDepth 1000000

/-- A script of calls, as it lies in memory. -/
def OpsC (w : World) (v : Value) (ss : List OpV) : Prop :=
  ∃ a cap, v = .slice a ss.length cap ∧ ss.length ≤ maxLen ∧ (∀ s ∈ ss, i64 s.no ∧ i64 s.at1 ∧ i64 s.long ∧ i64 s.n) ∧
    (ss ≠ [] → ∃ b off, a = some ⟨b, off, none⟩ ∧ b < w.heap.size ∧ ∀ k s, ss[k]? = some s → w.cell? ⟨b, off + k * 5, none⟩ = some (.int .i64 s.kind) ∧ w.cell? ⟨b, off + k * 5 + 1, none⟩ = some (.int .i64 s.no) ∧ w.cell? ⟨b, off + k * 5 + 2, none⟩ = some (.int .i64 s.at1) ∧ w.cell? ⟨b, off + k * 5 + 3, none⟩ = some (.int .i64 s.long) ∧ w.cell? ⟨b, off + k * 5 + 4, none⟩ = some (.int .i64 s.n))
/-- What holds at a round's head. -/
structure PlayC (w0 : World) (d g jb cb mb nb lb base most : Nat) (v : Value) (lim : Int) (w : World) : Prop where
  ex : ∃ M f fl mem wr, CSt w0 d g 60 jb cb mb 20 most 12 mem wr (-1) M w ∧ Txt nb f w ∧ Txt lb fl w ∧ (∀ j, j < 12 → f j = ofBytes (nowM mem M j)) ∧ (∀ j, j < 12 → fl j = ofBytes (blockL mem j)) ∧ Kept base w v (keysM M) ∧ Ok most M mem ∧ 0 ≤ wr ∧ wr ≤ lim
theorem PlayC.base {w0 : World} {d g jb cb mb nb lb base most : Nat} {v : Value} {lim : Int} {w : World} (h : PlayC w0 d g jb cb mb nb lb base most v lim w) : Below w0.heap.size w0 w := by
  obtain ⟨_, _, _, _, _, h1, -⟩ := h.ex
  exact h1.sys.below
abbrev none12 : Array Value := #[.string ⟨#[]⟩, .string ⟨#[]⟩, .string ⟨#[]⟩, .string ⟨#[]⟩, .string ⟨#[]⟩, .string ⟨#[]⟩, .string ⟨#[]⟩, .string ⟨#[]⟩, .string ⟨#[]⟩, .string ⟨#[]⟩, .string ⟨#[]⟩, .string ⟨#[]⟩]
theorem text_none : textC (fun _ => ⟨#[]⟩) = none12 := rfl
theorem txt_new (w : World) (n : Nat) (hn : w.heap.size = n) : Txt n (fun _ => ⟨#[]⟩) (w.alloc (.cells none12 28)) := by
  subst hn
  unfold Txt
  rw [text_none]
  exact heap_alloc_new _ _
set_option maxHeartbeats 8000000 in
theorem cachePlays_calls (mx : Int) (ss : List OpV) (vs : Value) (w : World) (hG0 : Ground w) (hGT0 : GT w) (hz : OpsC w vs ss) :
    Calls Tryz.prog 3 #[.int .i64 mx, vs] w fun e w' => e = .returned (.bool true) ∧ Below w.heap.size w w' := by
  have hGT := hidden hGT0
  obtain ⟨sa, scap, rfl, hsl, hsr, hsc⟩ := hz
  have hsl' : ss.length ≤ 9223372036854775807 := by unfold maxLen at hsl; omega
  replace hsr := hidden hsr
  replace hsc := hidden hsc
  obtain ⟨m, hm, hm7⟩ : ∃ m : Nat, bits .and .i64 mx 7 = (m : Int) ∧ m ≤ 7 := by
    have h := and_low mx 7 (by decide)
    have e : bits .and .i64 mx ((7 : Nat) : Int) = bits .and .i64 mx 7 := rfl
    rw [e] at h
    exact ⟨(bits .and .i64 mx 7).toNat, by omega, by omega⟩
  obtain ⟨most, hmost⟩ : ∃ most : Nat, (m : Int) + 1 = (most : Int) := ⟨m + 1, by omega⟩
  have hm18 : 1 ≤ most ∧ most ≤ 8 := by omega
  have hMd := hidden (made_calls most hm18.1 hm18.2 w hG0)
  clear hsl hm7 hG0
  go_enter Tryz.func3, Tryz.ntmps3
  go_wp2_with fail
  refine (hMd.out).mono ?_
  rintro ev w1 ⟨jb, cb, mb, rfl, hst1⟩
  clear hm hmost
  have hAw := hidden (cawake_calls w1 hst1.sys.ground (hGT0.below hst1.sys.below))
  generalize hdd : w.heap.size + 1 = d at hst1 ⊢
  have hlt1 := hst1.lts
  replace hst1 := hidden hst1
  clear hMd hGT0
  go_wp2_with fail
  refine (hAw.out).mono ?_
  rintro ev w2 ⟨rfl, hB2⟩
  have hst2 := hidden (hst1.out.more hB2)
  have hs12 := hB2.size
  clear hAw hst1 hB2
  go_upto_block 0 with fail
  have hBa : Below w2.heap.size w2 ((w2.alloc (.cells none12 28)).alloc (.cells none12 28)) := ((Below.refl _ _).alloc (Nat.le_refl _) _).alloc (by simp) _
  have hT3 := hidden ((txt_new w2 w2.heap.size rfl).below (((Below.refl _ _).alloc (Nat.le_refl _) (.cells none12 28))))
  have hL3 := hidden (txt_new (w2.alloc (.cells none12 28)) (w2.heap.size + 1) (by simp))
  have hst3 := hidden (hst2.out.more hBa)
  have hs3 : w2.heap.size + 2 = ((w2.alloc (.cells none12 28)).alloc (.cells none12 28)).heap.size := by simp
  generalize (w2.alloc (.cells none12 28)).alloc (.cells none12 28) = w3 at hT3 hL3 hst3 hs3 ⊢
  obtain ⟨nb, hnb⟩ : ∃ nb, w2.heap.size = nb := ⟨_, rfl⟩
  obtain ⟨lb, hlb⟩ : ∃ lb, nb + 1 = lb := ⟨_, rfl⟩
  rw [hnb] at hT3 hL3 ⊢
  rw [hlb] at hL3 ⊢
  have hfacts : Hid (nb ∉ [d, w.heap.size, jb, cb, mb] ∧ lb ∉ [d, w.heap.size, jb, cb, mb, nb] ∧ w.heap.size ≤ nb ∧ w.heap.size ≤ lb ∧ nb < w3.heap.size ∧ lb < w3.heap.size ∧ d < w3.heap.size ∧ w.heap.size < w3.heap.size ∧ mb < w3.heap.size) := hidden (by
    refine ⟨by simp; omega, by simp; omega, ?_⟩
    omega)
  clear hBa hst2 hs12 hlt1 hs3 hnb hlb hdd
  refine cp_zeros nb w3 hT3 _ _ _ _ _ _ _ _ _ _ _ _ _ _ _ _ _ _ _ _ _ _ _ _ _ _ _ _ _ _ _ _ _ _ _ _ _ _ _ _ _ _ _ _ _ _ _ _ _ _ _ _ _ _ _ _ _ _ _ _ _ _ _ _ _ _ _ _ _ _ _ _ _ _ _ _ _ _ _ _ _ _ _ _ _ _ _ _ _ _ _ _ _ _ _ _ _ _ _ _ _ _ _ _ _ _ _ _ _ _ _ _ _ _ _ _ _ _ _ _ _ _ _ _ _ _ _ _ _ _ _ _ _ _ _ _ _ _ _ _ _ _ _ _ _ _ _ _ _ _ _ _ _ _ _ _ _ _ _ _ _ _ _ _ _ _ _ _ _ _ _ _ _ _ _ _ _ _ _ _ _ _ _ _ _ _ _ _ _ _ _ _ _ _ _ _ _ _ _ _ _ _ _ _ _ _ _ _ _ _ _ _ _ _ _ _ _ _ _ _ _ _ _ _ _ _ _ _ _ _ _ _ _ _ _ _ _ _ _ _ _ _ _ _ _ _ _ _ _ _ _ _ _ _ _ _ _ _ _ _ _ _ _ _ _ _ _ _ _ _ _ _ _ _ _ _ _ _ _ _ (hidden ?kk) (hidden ?qp)
  case qp =>
    intro _ a a' _ h e
    cases a
    cases a'
    cases e
    exact h
  case kk =>
  intro v9 v40 v41 v42 v43 v44 v45 v46 v47 w4 hT4 hA4
  have hL4 := hidden (hL3.out.keep hA4 (by have := hfacts.out.2.1; simp at this ⊢; omega))
  have hst4 := hidden (hst3.out.apartB hA4 (by simpa using hfacts.out.1) (by simpa using hfacts.out.2.2.1))
  have hs34 := hA4.size
  have hld := hidden (hT4.load)
  have hrow := hidden (show w4.heap[lb]? = some (.cells (textC (fun _ => ⟨#[]⟩)) 28 (0, 0)) from hL4.out)
  have hone := hidden (textC_one (fun _ => ofBytes zeroRow))
  have hsz := hidden (textC_size (fun _ => ofBytes zeroRow))
  have hsz2 := hidden (textC_size (fun _ => ⟨#[]⟩))
  have hA5 : Apart [lb] w4 (w4.setRow lb (textC (fun _ => ofBytes zeroRow))) := apart_setRow (Apart.refl [lb] w4) (by simp) _
  have hbsz0 := hA5.size
  have hPl : Hid (PlayC w d w.heap.size jb cb mb nb lb w3.heap.size most (.slice none 0 0) 0 (w4.setRow lb (textC (fun _ => ofBytes zeroRow)))) := hidden ⟨⟨[], fun _ => ofBytes zeroRow, fun _ => ofBytes zeroRow, fun _ => 0, 0,
    hst4.out.apartB hA5 (fun k hk => by simp at hk; subst hk; have := hfacts.out.2.1; intro hm; exact this (by simp at hm ⊢; omega)) (by simpa using hfacts.out.2.2.2.1),
    hT4.keep hA5 (by have := hfacts.out.2.1; simp at this ⊢; omega), hL4.out.row _, fun j _ => by show _ = ofBytes (blockL (fun _ => 0) j); rw [blockL_zero], fun j _ => by rw [blockL_zero], Kept.nil _ _, Ok.flushed (idle_zero 20), by omega, by omega⟩⟩
  clear hL3 hL4 hst3 hst4 hA4 hA5 hT4 hT3
  generalize textC (fun _ => ofBytes zeroRow) = cs at hld hone hsz hPl hbsz0
  generalize textC (fun _ => (⟨#[]⟩ : ByteArray)) = cs2 at hrow hsz2
  go_upto_block 2 with (first
    | (refine wpList_load_at rfl 28 _ rfl ⟨nb, 0, none⟩ rfl (.agg cs) hld.out ?_)
    | (refine wpList_store_row rfl 28 _ _ rfl lb cs rfl rfl 28 cs2 hrow.out (by rw [hsz.out]; exact Tryz.sizeTexts) (by rw [hsz.out, hsz2.out]) hone.out ?_))
  have hbsz : Hid (w3.heap.size ≤ (w4.setRow lb cs).heap.size) := hidden (by omega)
  clear hbsz0
  generalize w4.setRow lb cs = w5 at hPl hbsz ⊢
  obtain ⟨base, hbase⟩ : ∃ base, w3.heap.size = base := ⟨_, rfl⟩
  rw [hbase] at hPl hfacts hbsz
  clear hld hrow hone hsz hsz2 hs34 hbase
  go_wp2_with fail
  go_loopg [10, 11] 51 (fun gk v q wr => ∃ i : Nat, i ≤ 50 ∧ gk = 51 - i ∧ q = .int .i64 i ∧ Hid (PlayC w d w.heap.size jb cb mb nb lb base most v (2000 * (i : Int)) wr ∧ base ≤ wr.heap.size))
  case atStart => exact ⟨0, by omega, rfl, rfl, hidden ⟨hPl.out, hbsz.out⟩⟩
  case round =>
    obtain ⟨i, hi, hgi, rfl, hI⟩ := hrel
    replace hgi := hidden hgi
    clear hPl
    by_cases hlt : i < ss.length ∧ i < 50
    · have hlt1 : (i : Int) < (ss.length : Int) := by omega
      have hlt2 : (i : Int) < 50 := by omega
      obtain ⟨sb, soff, rfl, hsb, hscell⟩ := hsc.out (by intro e; rw [e] at hlt; simp at hlt)
      obtain ⟨o, ho⟩ : ∃ o, ss[i]? = some o := ⟨_, List.getElem?_eq_getElem hlt.1⟩
      obtain ⟨c0, c1, c2, c3, c4⟩ := hscell i o ho
      have hoi := hsr.out o (List.mem_of_getElem? ho)
      obtain ⟨M, f, fl, mem, wrr, hst, hnw, hls, hN, hF, hK, hO, hw0, hw1⟩ := hI.out.1.ex
      have hbsz := hI.out.2
      have hBw := hst.sys.below
      have d0 := (hBw.cell (p := ⟨sb, soff + i * 5, none⟩) hsb).trans c0
      have d1 := (hBw.cell (p := ⟨sb, soff + i * 5 + 1, none⟩) hsb).trans c1
      have d2 := (hBw.cell (p := ⟨sb, soff + i * 5 + 2, none⟩) hsb).trans c2
      have d3 := (hBw.cell (p := ⟨sb, soff + i * 5 + 3, none⟩) hsb).trans c3
      have d4 := (hBw.cell (p := ⟨sb, soff + i * 5 + 4, none⟩) hsb).trans c4
      have hB6 : Below wr.heap.size wr (wr.alloc (.cells #[.int .i64 o.kind, .int .i64 o.no, .int .i64 o.at1, .int .i64 o.long, .int .i64 o.n] 32)) := (Below.refl _ _).alloc (Nat.le_refl _) _
      have hlts := hst.lts
      have hnl := hnw.lt
      have hll := hls.lt
      have hR6 : Hid (Rc w d w.heap.size jb cb mb nb lb wr.heap.size most o M f fl mem wrr (wr.alloc (.cells #[.int .i64 o.kind, .int .i64 o.no, .int .i64 o.at1, .int .i64 o.long, .int .i64 o.n] 32))) :=
        hidden ⟨hst.more hB6, hnw.below hB6, hls.below hB6, by simp, by simp, by simp, by simp, by simp, hfacts.out.1, hfacts.out.2.1, by simp; omega, hfacts.out.2.2.1, hfacts.out.2.2.2.1⟩
      have hK6 := hidden (hK.below hB6)
      have hGT6 := hidden ((hGT.out.below hBw).below hB6)
      have hs6 := hB6.size
      replace hN := hidden hN
      replace hF := hidden hF
      replace hO := hidden hO
      clear c0 c1 c2 c3 c4 hscell ho hst hnw hls hK hBw hB6 hlts hnl hll hI
      go_upto_region 17 with fail
      generalize wr.alloc (.cells #[.int .i64 o.kind, .int .i64 o.no, .int .i64 o.at1, .int .i64 o.long, .int .i64 o.n] 32) = w6 at hR6 hK6 hGT6 hs6 ⊢
      generalize wr.heap.size = ob at hR6 hbsz hs6 ⊢
      clear d0 d1 d2 d3 d4
      refine cp_in w d w.heap.size jb cb mb nb lb ob most o M f fl mem wrr w6 hR6 _ _ _ _ _ _ _ _ _ _ _ _ _ _ _ _ _ _ _ _ _ _ _ _ _ _ _ _ _ _ _ _ _ _ _ _ _ _ _ _ _ _ _ _ _ _ _ _ _ _ _ _ _ _ _ _ _ _ _ _ _ _ _ _ _ _ _ _ _ _ _ _ _ _ _ _ _ _ _ _ _ _ _ _ _ _ _ _ _ _ _ _ _ _ _ _ _ _ _ _ _ _ _ _ _ _ _ _ _ _ _ _ _ _ _ _ _ _ _ _ _ _ _ _ _ _ _ _ _ _ _ _ _ _ _ _ _ _ _ _ _ _ _ _ _ _ _ _ _ _ _ _ _ _ _ _ _ _ _ _ _ _ _ _ _ _ _ _ _ _ _ _ _ _ _ _ _ _ _ _ _ _ _ _ _ _ _ _ _ _ _ _ _ _ _ _ _ _ _ _ _ _ _ _ _ _ _ _ _ _ _ _ _ _ _ _ _ _ _ _ _ _ _ _ _ _ _ _ _ _ _ _ _ _ _ _ _ _ _ _ _ _ _ _ _ _ _ _ _ _ _ _ _ _ _ _ _ _ _ _ _ _ _ _ _ _ _ _ _ _ _ _ _ _ _ _ _ _ _ _ _ (hidden ?kk) (hidden ?qp)
      case qp =>
        intro _ a a' _ h e
        cases a
        cases a'
        cases e
        exact h
      case kk =>
      intro v63 v64 v65 v66 v67 v68 v69 v70 inn hinn
      replace hinn := hidden hinn
      have o0 := hR6.out.o0
      have o1 := hR6.out.o1
      obtain ⟨sN, hsN⟩ : ∃ sN, itoaB o.no = sN := ⟨_, rfl⟩
      have hNm := hidden (num_calls o.no hoi.1 w6)
      rw [hsN] at hNm
      replace hsN := hidden hsN.symm
      go_wp2_with fail
      refine (hNm.out).mono ?_
      rintro ev w7 ⟨rfl, rfl⟩
      go_upto_block 4 with fail
      clear o0 o1 hNm
      refine cp_switch w d w.heap.size jb cb mb nb lb ob most o M f fl mem wrr w7 hR6 base _ hK6 ⟨⟨hfacts.out.2.2.2.2.2.2.1, hfacts.out.2.2.2.2.2.2.2.1, hfacts.out.2.2.2.2.2.2.2.2⟩, hfacts.out.2.2.2.2.1, hfacts.out.2.2.2.2.2.1⟩ hO hm18 ⟨by omega, by omega⟩ hN hF hoi hGT6 o.kind inn hinn sN hsN (by omega) _ _ _ _ _ _ _ _ _ _ _ _ _ _ _ _ _ _ _ _ _ _ _ _ _ _ _ _ _ _ _ _ _ _ _ _ _ _ _ _ _ _ _ _ _ _ _ _ _ _ _ _ _ _ _ _ _ _ _ _ _ _ _ _ _ _ _ _ _ _ _ _ _ _ _ _ _ _ _ _ _ _ _ _ _ _ _ _ _ _ _ _ _ _ _ _ _ _ _ _ _ _ _ _ _ _ _ _ _ _ _ _ _ _ _ _ _ _ _ _ _ _ _ _ _ _ _ _ _ _ _ _ _ _ _ _ _ _ _ _ _ _ _ _ _ _ _ _ _ _ _ _ _ _ _ _ _ _ _ _ _ _ _ _ _ _ _ _ _ _ _ _ _ _ _ _ _ _ _ _ _ _ _ _ _ _ _ _ _ _ _ _ _ _ _ _ _ _ _ _ _ _ _ _ _ _ _ _ _ _ _ _ _ _ _ _ _ _ _ _ _ _ _ _ _ _ _ _ _ _ _ _ _ _ _ _ _ _ _ _ _ _ _ _ _ _ _ _ _ _ _ _ _ _ _ _ _ _ _ _ _ _ _ _ _ _ _ _ _ _ _ _ _ (hidden ?kk) (hidden ?qp)
      case qp =>
        intro _ a a' _ h e
        cases a
        cases a'
        cases e
        exact h
      case kk =>
      intro v4 v15 v16 v17 v18 v19 v20 v76 v77 v78 v79 v80 v81 v82 v83 v84 v85 v86 v87 v88 v89 v90 v91 v92 v93 v94 v95 v96 v97 v98 v99 v100 v101 v102 v103 v104 v105 v106 v107 v108 v109 v110 v111 v112 v113 v114 v115 v116 v117 v118 v119 v120 v121 v122 v123 v124 v125 v126 v127 v128 v129 v130 v131 v132 v133 v134 v135 v136 v137 v138 v139 v140 v141 v142 v143 v144 v145 v146 v147 v148 v149 v150 v151 v152 v153 v154 v155 v156 v157 v158 v159 v160 v161 v162 v163 v164 v165 v166 v167 v168 v169 v170 v171 v172 v173 v174 v175 v176 v177 v178 v179 v180 v181 v182 v183 v184 v185 v186 v187 v188 v189 v190 v191 v192 v193 v194 v195 v196 v197 v198 v199 v200 v201 v202 v203 v204 v205 v206 v207 v208 v209 v210 v211 v212 v213 v214 v215 v216 v217 v218 v219 v220 v221 v222 v223 v224 v225 v226 v227 v228 v229 v230 v231 v232 v233 v234 v235 v236 v8 M8 f8 fl8 mem8 wr8 w8 hR8 hN8 hF8 hK8 hO8 hw8
      have hCh := hidden (changed_calls hR8.st.cat hR8.st.map (by have := hO8.len; omega))
      have hkl : (keysM M8).length ≤ 1000 := by have := hO8.len; simp [keysM]; omega
      replace hR8 := hidden hR8
      replace hN8 := hidden hN8
      replace hF8 := hidden hF8
      replace hK8 := hidden hK8
      replace hO8 := hidden hO8
      clear hR6 hK6 hGT6 hN hF hO
      go_wp2_with fail
      refine (hCh.out).mono ?_
      rintro ev w9 ⟨v9, rfl, hT9, hB9⟩
      have hSm := hidden (same_calls hT9.kept (hK8.out.below hB9) hkl)
      have hR9 := hidden (hR8.out.below hB9)
      have hK9 := hidden (hK8.out.below hB9)
      have hs9 := hB9.size
      clear hCh hT9 hB9 hR8 hK8
      go_wp2_with fail
      refine (hSm.out).mono ?_
      rintro ev w10 ⟨rfl, hB10⟩
      have hR10 := hidden (hR9.out.below hB10)
      have hK10 := hidden (hK9.out.below hB10)
      have hs10 := hB10.size
      have hbk : Hid (base ≤ w10.heap.size) := hidden (by have := hR10.out.olt; omega)
      clear hSm hB10 hR9 hK9
      go_upto_block 8 with fail
      refine wp_last (cp_twelve w d w.heap.size jb cb mb nb lb ob most o M8 f8 fl8 mem8 wr8 w10 hR10 hN8 hF8 _ _ _ _ _ _ _ _ _ _ _ _ _ _ _ _ _ _ _ _ _ _ _ _ _ _ _ _ _ _ _ _ _ _ _ _ _ _ _ _ _ _ _ _ _ _ _ _ _ _ _ _ _ _ _ _ _ _ _ _ _ _ _ _ _ _ _ _ _ _ _ _ _ _ _ _ _ _ _ _ _ _ _ _ _ _ _ _ _ _ _ _ _ _ _ _ _ _ _ _ _ _ _ _ _ _ _ _ _ _ _ _ _ _ _ _ _ _ _ _ _ _ _ _ _ _ _ _ _ _ _ _ _ _ _ _ _ _ _ _ _ _ _ _ _ _ _ _ _ _ _ _ _ _ _ _ _ _ _ _ _ _ _ _ _ _ _ _ _ _ _ _ _ _ _ _ _ _ _ _ _ _ _ _ _ _ _ _ _ _ _ _ _ _ _ _ _ _ _ _ _ _ _ _ _ _ _ _ _ _ _ _ _ _ _ _ _ _ _ _ _ _ _ _ _ _ _ _ _ _ _ _ _ _ _ _ _ _ _ _ _ _ _ _ _ _ _ _ _ _ _ _ _ _ _ _ _ _ _ _ _ _ _ _ _ _ _ _ _ _ _ _ _ _ _ _ _ (hidden ?kk) (hidden ?qp))
      case qp =>
        intro _ a a' _ h e
        cases a
        cases a'
        cases e
        exact h
      case kk =>
      intro v4 v21 v22 v23 v24 v25 v242 v243 v244 v245 v246 v247 v248 v249 v250 v251 v252 v253 v254 v255 v256 v257 v258 v259 v260 v261 v262 v263 v264 v265 v266 v267 v268 v269 v270 v271 v272 v273 v274 v275 v276 v277 v278 v279 w11 hB11
      have hR11 := hR10.out.below hB11
      have hPn : Hid (PlayC w d w.heap.size jb cb mb nb lb base most v8 (2000 * (((i + 1 : Nat)) : Int)) w11 ∧ base ≤ w11.heap.size) := hidden ⟨⟨⟨M8, f8, fl8, mem8, wr8, hR11.st, hR11.now, hR11.last, hN8.out, hF8.out, hK10.out.below hB11, hO8.out, by omega, by omega⟩⟩, by have := hB11.size; have := hbk.out; omega⟩
      clear hR11 hR10 hK10 hB11
      go_wp2_with fail
      go_roundg (51 - (i + 1))
      case measure => rw [hgi.out]; omega
      case rel => exact ⟨i + 1, by omega, rfl, by go_num, hPn⟩
    · have hstop : ¬ ((i : Int) < (ss.length : Int) ∧ (i : Int) < 50) := by omega
      have hE := hidden (hI.out.1.base)
      go_wp2_with fail
      all_goals (go_ret; exact ⟨rfl, hE.out⟩)
end Go.Proofs.YtkaippiblpedhaaGreatDoor
