/- JournalPlays: which of the two it was, by the first block that tells them apart. -/
import Derived.Test.YtbagncolhckhjaaDoorJm0
import Derived.Deep.CutBlock
namespace Go.Proofs.YtbagncolhckhjaaDoor
open Go.RowKit Go.Extern.Stop Go.Stop Go.Extern
set_option maxRecDepth 1000000

set_option maxHeartbeats 8000000 in
theorem jp_which (w : World) (d g nb jb ob : Nat) (ra : Option Addr) (rcap : Nat) (rs : List RawT) (fuse op : Int) (nw mem : Nat → Int) (wrr : Int) (w7 : World) (hn : w.heap.size ≤ nb) (L : Nat) (hL10 : L ≤ 10) (la : Option Addr) (lcap : Nat) (ps : List Piece) (base : Nat) (hRd : Hid (Rd w d g nb jb ob ra rcap rs fuse op nw mem wrr (-1) w7)) (hGo : Hid (GOwn base w7 (.slice la L lcap) ps)) (hpl : Hid (plain ps = rawG rs L)) (hf : Hid (∀ j, j < L → Fine rs j ∧ 22 ≤ rno rs j)) (dead : Bool) (hs : Hid (Seen rs L dead nw mem)) (hnr : Hid (∀ j, j < 18 → 0 ≤ nw j ∧ nw j ≤ 2048))
    (x0 x1 x2 x3 x4 x7 x8 x10 x11 x12 x13 x14 x15 x19 x20 x21 x22 x23 x24 x25 x26 x27 x28 x29 x30 x31 x32 x33 x34 x35 x36 x37 x38 x39 x40 x41 x42 x43 x44 x45 x46 x47 x48 x49 x50 x51 x52 x53 x54 x55 x56 x57 x58 x59 x60 x61 x62 x63 x64 x65 x66 x67 x68 x69 x70 x71 x72 x73 x74 x75 x76 x77 x78 x79 x80 x81 x82 x83 x84 x85 x86 x87 x88 x89 x90 x91 x92 x93 x94 x95 x96 x97 x98 x99 x100 x101 x102 x103 x104 x105 x106 x107 x108 x109 x110 x111 x112 x113 x114 x115 x116 x117 x118 x119 x120 x121 x122 x123 x124 x125 x126 x127 x128 x129 x130 x131 x132 x133 x134 x135 x136 x137 x138 x139 x140 x141 x142 x143 x144 x145 x146 x147 x148 x149 x150 x151 x152 x153 x154 x155 x156 x157 x158 x159 x160 x161 x162 x163 x164 x165 x166 x167 x168 x169 x170 x171 x172 x173 x174 x175 x176 x177 x178 x179 x180 x181 x182 x183 x184 x185 x186 x187 x188 x189 x190 x191 x192 x193 x194 x195 x196 x197 x198 x199 x200 x201 x202 x203 x204 x205 x206 x207 x208 x209 x210 x211 x212 x213 x214 x215 x216 x217 x218 x219 x220 x221 x222 x223 x224 x225 x226 x227 x228 x229 x230 x231 x232 x233 x234 x235 x236 x237 x238 x239 x240 x241 x242 x243 x244 x245 x246 x247 x248 x249 x250 x251 x252 x253 x254 x255 x256 x257 x258 x259 x260 x261 x262 x263 x264 x265 x266 x267 x268 x269 x270 x271 x272 x273 x274 x275 x276 x277 x278 x279 x280 x281 x282 x283 x284 x285 : Value) (KK : Act → World → Prop) (Q : Exit → Act → World → Prop)
    (hKK : Hid (∀ (v2 v18 v19 v20 v196 v197 v198 v199 v200 v201 v202 v203 v204 v205 v206 v207 v208 v209 v210 v211 v212 v213 v214 v215 v216 v217 v218 v219 v220 v221 v222 v223 v224 v225 v226 v227 v228 v229 v230 v231 v232 v233 v234 v235 v236 v237 v238 v239 v240 v241 : Value) (dn : Bool) (w' : World), (dn = true → Told18 (nwK rs L nw) mem) → (dn = false → Told18 nw mem) → Below w7.heap.size w7 w' → KK ⟨#[x0, x1, v2, x3, x4, ptr jb, ptr nb, x7, x8, .slice la L lcap, x10, x11, x12, x13, x14, x15, .bool dead, .bool dn, v18, v19, v20, x21, x22, x23, x24, x25, x26, x27, x28, x29, x30, x31, x32, x33, x34, x35, x36, x37, x38, x39, x40, x41, x42, x43, x44, x45, x46, x47, x48, x49, x50, x51, x52, x53, x54, x55, x56, x57, x58, x59, x60, x61, x62, x63, x64, x65, x66, x67, x68, x69, x70, x71, x72, x73, x74, x75, x76, x77, x78, x79, x80, x81, x82, x83, x84, x85, x86, x87, x88, x89, x90, x91, x92, x93, x94, x95, x96, x97, x98, x99, x100, x101, x102, x103, x104, x105, x106, x107, x108, x109, x110, x111, x112, x113, x114, x115, x116, x117, x118, x119, x120, x121, x122, x123, x124, x125, x126, x127, x128, x129, x130, x131, x132, x133, x134, x135, x136, x137, x138, x139, x140, x141, x142, x143, x144, x145, x146, x147, x148, x149, x150, x151, x152, x153, x154, x155, x156, x157, x158, x159, x160, x161, x162, x163, x164, x165, x166, x167, x168, x169, x170, x171, x172, x173, x174, x175, x176, x177, x178, x179, x180, x181, x182, x183, x184, x185, x186, x187, x188, x189, x190, x191, x192, x193, x194, x195, v196, v197, v198, v199, v200, v201, v202, v203, v204, v205, v206, v207, v208, v209, v210, v211, v212, v213, v214, v215, v216, v217, v218, v219, v220, v221, v222, v223, v224, v225, v226, v227, v228, v229, v230, v231, v232, v233, v234, v235, v236, v237, v238, v239, v240, v241, x242, x243, x244, x245, x246, x247, x248, x249, x250, x251, x252, x253, x254, x255, x256, x257, x258, x259, x260, x261, x262, x263, x264, x265, x266, x267, x268, x269, x270, x271, x272, x273, x274, x275, x276, x277, x278, x279, x280, x281, x282, x283, x284, x285], []⟩ w'))
    (hQp : Hid (∀ x a a' w, Q (.panic x) a w → a.defers = a'.defers → Q (.panic x) a' w)) :
    Code.wp Tryd.prog (((Tryd.f5.body.bind (blockAt 8)).getD .skip)) (Exit.then KK Q) ⟨#[x0, x1, x2, x3, x4, ptr jb, ptr nb, x7, x8, .slice la L lcap, x10, x11, x12, x13, x14, x15, .bool dead, .bool (!dead), .int .i64 0, x19, x20, x21, x22, x23, x24, x25, x26, x27, x28, x29, x30, x31, x32, x33, x34, x35, x36, x37, x38, x39, x40, x41, x42, x43, x44, x45, x46, x47, x48, x49, x50, x51, x52, x53, x54, x55, x56, x57, x58, x59, x60, x61, x62, x63, x64, x65, x66, x67, x68, x69, x70, x71, x72, x73, x74, x75, x76, x77, x78, x79, x80, x81, x82, x83, x84, x85, x86, x87, x88, x89, x90, x91, x92, x93, x94, x95, x96, x97, x98, x99, x100, x101, x102, x103, x104, x105, x106, x107, x108, x109, x110, x111, x112, x113, x114, x115, x116, x117, x118, x119, x120, x121, x122, x123, x124, x125, x126, x127, x128, x129, x130, x131, x132, x133, x134, x135, x136, x137, x138, x139, x140, x141, x142, x143, x144, x145, x146, x147, x148, x149, x150, x151, x152, x153, x154, x155, x156, x157, x158, x159, x160, x161, x162, x163, x164, x165, x166, x167, x168, x169, x170, x171, x172, x173, x174, x175, x176, x177, x178, x179, x180, x181, x182, x183, x184, x185, x186, x187, x188, x189, x190, x191, x192, x193, x194, x195, x196, x197, x198, x199, x200, x201, x202, x203, x204, x205, x206, x207, x208, x209, x210, x211, x212, x213, x214, x215, x216, x217, x218, x219, x220, x221, x222, x223, x224, x225, x226, x227, x228, x229, x230, x231, x232, x233, x234, x235, x236, x237, x238, x239, x240, x241, x242, x243, x244, x245, x246, x247, x248, x249, x250, x251, x252, x253, x254, x255, x256, x257, x258, x259, x260, x261, x262, x263, x264, x265, x266, x267, x268, x269, x270, x271, x272, x273, x274, x275, x276, x277, x278, x279, x280, x281, x282, x283, x284, x285], []⟩ w7 := by
  have hu := hQp
  clear hu
  conv => arg 2; whnf
  try dsimp only
  have hu2 := hn
  clear hu2
  cases dead with
  | false =>
    have hT : Hid (Told18 (nwK rs L nw) mem) := hidden (by
      rcases hs.out with ⟨-, h⟩ | ⟨h, -⟩
      · exact h
      · cases h)
    clear hRd hGo hpl hf hs hnr
    by_cases h0 : (0 : Int) < (L : Int)
    · go_wp2_with fail
      go_loopg [17, 18] 1 (fun gk q p wr => gk = 1 ∧ q = .bool true ∧ p = .int .i64 0 ∧ Hid (wr = w7))
      case atStart => exact ⟨rfl, rfl, rfl, hidden rfl⟩
      case round =>
        obtain ⟨-, rfl, rfl, hw⟩ := hrel
        go_wp2_with fail
        exact hKK.out _ _ _ _ _ _ _ _ _ _ _ _ _ _ _ _ _ _ _ _ _ _ _ _ _ _ _ _ _ _ _ _ _ _ _ _ _ _ _ _ _ _ _ _ _ _ _ _ _ _ true _ (fun _ => hT.out) (fun h => by cases h) (by rw [hw.out]; exact Below.refl _ _)
    · go_wp2_with fail
      go_loopg [17, 18] 1 (fun gk q p wr => gk = 1 ∧ q = .bool true ∧ p = .int .i64 0 ∧ Hid (wr = w7))
      case atStart => exact ⟨rfl, rfl, rfl, hidden rfl⟩
      case round =>
        obtain ⟨-, rfl, rfl, hw⟩ := hrel
        go_wp2_with fail
        exact hKK.out _ _ _ _ _ _ _ _ _ _ _ _ _ _ _ _ _ _ _ _ _ _ _ _ _ _ _ _ _ _ _ _ _ _ _ _ _ _ _ _ _ _ _ _ _ _ _ _ _ _ true _ (fun _ => hT.out) (fun h => by cases h) (by rw [hw.out]; exact Below.refl _ _)
  | true =>
    have hS : Hid (Told18 nw mem ∨ Told18 (nwK rs L nw) mem ∧ ∀ j, j < L → blockL mem (rno rs j).toNat = fillL (rn rs j)) := hidden (by
      rcases hs.out with ⟨h, -⟩ | ⟨-, h⟩
      · cases h
      · exact h)
    clear hs
    go_wp2_with fail
    go_loopg [17, 18] L (fun gk q p wr => ∃ k : Nat, k ≤ L ∧ gk = L - k ∧ p = .int .i64 k ∧ q = .bool false ∧ Hid ((∀ j, j < k → fillL (rn rs j) = isL (nw ((rno rs j).toNat - 22))) ∧ Below w7.heap.size w7 wr))
    case atStart => exact ⟨0, by omega, rfl, rfl, rfl, hidden ⟨fun j hj => by omega, Below.refl _ _⟩⟩
    case round =>
      obtain ⟨k, hk, hgk, rfl, rfl, hI⟩ := hrel
      replace hgk := hidden hgk
      by_cases hlt : k < L
      · have hlt2 : (k : Int) < (L : Int) := by omega
        obtain ⟨no, hno⟩ : ∃ no, rno rs k = no := ⟨_, rfl⟩
        have hfk := hf.out k hlt
        have hf1 := hfk.1.hi
        have hf2 := hfk.2
        rw [hno] at hf1 hf2
        obtain ⟨M, hM⟩ : ∃ M : Nat, no - 22 = (M : Int) := ⟨(no - 22).toNat, by omega⟩
        have hM18 : M < 18 := by omega
        have hMi : (M : Int) < 18 := by omega
        have hwM : IntKind.i64.wrap (no - 22) = (M : Int) := by rw [hM]; exact wrap_pos _ (by omega) (by omega)
        obtain ⟨X, hX⟩ : ∃ X : Nat, no = (X : Int) := ⟨no.toNat, by omega⟩
        have hX40 : X < 40 := by omega
        have hXM : X = 22 + M := by omega
        have hR := hidden (jread_calls (hRd.out.sys.more hI.out.2) (by decide) jb 4 6 (hRd.out.jat.below hI.out.2) X hX40)
        obtain ⟨gb, rfl, -, -, hcl0⟩ := (hGo.out.below hI.out.2).pieceAt hpl.out (by omega)
        obtain ⟨c0, db, -⟩ := hcl0 k hlt
        rw [hno, hX] at c0
        subst hX
        replace hno := hidden hno
        obtain ⟨Nw, hNw⟩ : ∃ Nw, nw M = Nw := ⟨_, rfl⟩
        have hNr := hnr.out M hM18
        rw [hNw] at hNr
        have hMt : Hid ((rno rs k).toNat - 22 = M) := hidden (by rw [hno.out]; omega)
        have hXt : Hid ((rno rs k).toNat = X) := hidden (by rw [hno.out]; omega)
        replace hNw := hidden hNw
        replace hXM := hidden hXM
        clear hfk hcl0 hM
        go_wp2_with fail
        refine (hR.out).mono ?_
        rintro ev w11 ⟨v11, rfl, hb11, hB11⟩
        have hB11' := hidden (hI.out.2.trans (hB11.mono hI.out.2.size))
        obtain ⟨gb', e', -, -, hcl⟩ := (hGo.out.below hB11'.out).pieceAt hpl.out (by omega)
        obtain ⟨rfl, -, -⟩ := Addr.mk.inj (Option.some.inj e')
        obtain ⟨c1, db, c2, hbd⟩ := hcl k hlt
        rw [hno.out] at c1
        have n0 := (hRd.out.below hB11'.out).now.cell M hM18
        rw [hNw.out] at n0
        have hd0 : Below w11.heap.size w11 w11.drew := (Below.refl _ _).drew
        have hS0 : Below w11.heap.size w11 w11.drew := (Below.refl _ _).drew
        have kC := hidden (fun wx (hx : Below w11.heap.size w11 wx) => conv_bytes wx _ _ (hbd.below hx))
        have kB := hidden (fun wx (hx : Below w11.heap.size w11 wx) => conv_bytes wx _ _ (hb11.below hx))
        have hgl : gb < w11.heap.size := lt_of_cell (a := ⟨gb, k * 2, none⟩) c1
        have kG := hidden (fun wx (hx : Below w11.heap.size w11 wx) => (hx.cell (p := ⟨gb, k * 2 + 1, none⟩) hgl).trans c2)
        have kI := hidden (fun wx (hx : Below w11.heap.size w11 wx) => (is_calls Nw hNr.1 (by omega) wx).mono fun _ _ h => And.intro h.1 (hx.trans (h.2.mono hx.size)))
        have g1 : w11.drew.cell? ⟨gb, k * 2, none⟩ = some (.int .i64 (X : Int)) := by simpa using c1
        have g2 := kG.out _ hS0
        have g3 : w11.drew.cell? ⟨nb, M, none⟩ = some (.int .i64 Nw) := by simpa using n0
        have g4 := kC.out _ hS0
        have hfr := fillL_range (rn rs k)
        have hir := isL_range Nw
        by_cases heq : fillL (rn rs k) = isL Nw
        · have hI2 : Hid ((∀ j, j < k + 1 → fillL (rn rs j) = isL (nw ((rno rs j).toNat - 22)))) := hidden (fun j hj => by
            by_cases hjk : j < k
            · exact hI.out.1 j hjk
            · have : j = k := by omega
              subst this
              rw [hMt.out, hNw.out]
              exact heq)
          rw [heq] at kC g4
          generalize ofBytes (isL Nw) = Z at kC kI g4
          clear hR hb11 hB11 e' hcl c1 c2 hbd n0 hfr hir heq kB hI c0 hgl
          go_upto_region 54 with fail
          go_cut [232] from 203 to 241 (fun c wx => c = .bool false ∧ Below w11.heap.size w11 wx)
          case first =>
            refine wp_region_any (by kernel_rfl) ?_
            try (change wpAny _ _ _ _ _ _ _ (World.drew _))
            refine wpAny_take (i := 0) (v := ?_) rfl (by kernel_rfl) (by kernel_rfl) (by kernel_rfl) (fun _ _ _ h => hQp.out _ _ _ _ h rfl) (Or.inl ⟨by rfl, ?_⟩) ?_
            rotate_left
            · intro w; go_simp; try (with_reducible rfl)
            refine wpAny_take (i := 1) (v := ?_) rfl (by kernel_rfl) (by kernel_rfl) (by kernel_rfl) (fun _ _ _ h => hQp.out _ _ _ _ h rfl) (Or.inl ⟨by rfl, ?_⟩) ?_
            rotate_left
            · intro w; go_simp; try (with_reducible rfl)
            refine wpAny_take (i := 2) (v := ?_) rfl (by kernel_rfl) (by kernel_rfl) (by kernel_rfl) (fun _ _ _ h => hQp.out _ _ _ _ h rfl) (Or.inl ⟨by rfl, ?_⟩) ?_
            rotate_left
            · intro w; go_simp; try (with_reducible rfl)
            refine wpAny_take (i := 3) (v := ?_) rfl (by kernel_rfl) (by kernel_rfl) (by kernel_rfl) (fun _ _ _ h => hQp.out _ _ _ _ h rfl) (Or.inl ⟨by rfl, ?_⟩) ?_
            rotate_left
            · intro w; go_simp; try (with_reducible rfl)
            refine wpAny_take (i := 6) (v := ?_) rfl (by kernel_rfl) (by kernel_rfl) (by kernel_rfl) (fun _ _ _ h => hQp.out _ _ _ _ h rfl) (Or.inl ⟨by rfl, ?_⟩) ?_
            rotate_left
            · intro w; go_simp; try (with_reducible rfl)
            refine wpAny_take (i := 7) (v := ?_) rfl (by kernel_rfl) (by kernel_rfl) (by kernel_rfl) (fun _ _ _ h => hQp.out _ _ _ _ h rfl) (Or.inl ⟨by rfl, ?_⟩) ?_
            rotate_left
            · intro w; go_simp; try (with_reducible rfl)
            refine wpAny_take (i := 8) (v := ?_) rfl (by kernel_rfl) (by kernel_rfl) (by kernel_rfl) (fun _ _ _ h => hQp.out _ _ _ _ h rfl) (Or.inl ⟨by rfl, ?_⟩) ?_
            rotate_left
            · intro w; go_simp; try (with_reducible rfl)
            refine wpAny_take (i := 9) (v := ?_) rfl (by kernel_rfl) (by kernel_rfl) (by kernel_rfl) (fun _ _ _ h => hQp.out _ _ _ _ h rfl) (Or.inl ⟨by rfl, ?_⟩) ?_
            rotate_left
            · intro w; go_simp; try (with_reducible rfl)
            refine wpAny_ready (rs := [4, 10]) (by kernel_rfl) (by simp) ?_
            refine AllReady.cons rfl (fun K hK => ?_) ?_
            · go_simp
              try (refine hK _ _ ?_; clear hK K)
              refine wpAny_ready (rs := [5, 10]) (by kernel_rfl) (by simp) ?_
              refine AllReady.cons rfl (fun K hK => ?_) ?_
              · go_simp
                try (refine hK _ _ ?_; clear hK K)
                refine wpAny_ready (rs := [10]) (by kernel_rfl) (by simp) ?_
                refine AllReady.cons rfl (fun K hK => ?_) AllReady.nil
                go_simp
                try (refine hK _ _ ?_; clear hK K)
                refine wpAny_ready (rs := [11]) (by kernel_rfl) (by simp) ?_
                refine AllReady.cons rfl (fun K hK => ?_) AllReady.nil
                go_simp
                try (refine hK _ _ ?_; clear hK K)
                refine wpAny_ready (rs := [12]) (by kernel_rfl) (by simp) ?_
                refine AllReady.cons rfl (fun K hK => ?_) AllReady.nil
                go_simp
                try (refine hK _ _ ?_; clear hK K)
                refine wpAny_ready (rs := [13]) (by kernel_rfl) (by simp) ?_
                refine AllReady.cons rfl (fun K hK => ?_) AllReady.nil
                go_simp
                try (refine hK _ _ ?_; clear hK K)
                refine wpAny_ready (rs := [14]) (by kernel_rfl) (by simp) ?_
                refine AllReady.cons rfl (fun K hK => ?_) AllReady.nil
                go_simp
                go_wp2_with (go_at_call 23; refine (kI.out _ hS0).mono ?_; rintro ev w12 ⟨rfl, hB12⟩; have hx2 := kC.out w12 hB12; have hg2 := kG.out w12 hB12)
                try (refine hK _ _ ?_; clear hK K)
                refine wpAny_ready (rs := [15]) (by kernel_rfl) (by simp) ?_
                refine AllReady.cons rfl (fun K hK => ?_) AllReady.nil
                go_simp
                try (refine hK _ _ ?_; clear hK K)
                refine wpAny_done (by kernel_rfl) ?_ _
                go_wp2_with fail
                go_meet
                case rel => exact ⟨rfl, hB12⟩
              refine AllReady.cons rfl (fun K hK => ?_) ?_
              · go_simp
                try (refine hK _ _ ?_; clear hK K)
                refine wpAny_take (i := 11) (v := ?_) rfl (by kernel_rfl) (by kernel_rfl) (by kernel_rfl) (fun _ _ _ h => hQp.out _ _ _ _ h rfl) (Or.inl ⟨by rfl, ?_⟩) ?_
                rotate_left
                · intro w; go_simp; try (with_reducible rfl)
                refine wpAny_take (i := 12) (v := ?_) rfl (by kernel_rfl) (by kernel_rfl) (by kernel_rfl) (fun _ _ _ h => hQp.out _ _ _ _ h rfl) (Or.inl ⟨by rfl, ?_⟩) ?_
                rotate_left
                · intro w; go_simp; try (with_reducible rfl)
                refine wpAny_ready (rs := [5, 13]) (by kernel_rfl) (by simp) ?_
                refine AllReady.cons rfl (fun K hK => ?_) ?_
                · go_simp
                  try (refine hK _ _ ?_; clear hK K)
                  refine wpAny_ready (rs := [13]) (by kernel_rfl) (by simp) ?_
                  refine AllReady.cons rfl (fun K hK => ?_) AllReady.nil
                  go_simp
                  try (refine hK _ _ ?_; clear hK K)
                  refine wpAny_ready (rs := [14]) (by kernel_rfl) (by simp) ?_
                  refine AllReady.cons rfl (fun K hK => ?_) AllReady.nil
                  go_simp
                  go_wp2_with (go_at_call 23; refine (kI.out _ hS0).mono ?_; rintro ev w12 ⟨rfl, hB12⟩; have hx2 := kC.out w12 hB12; have hg2 := kG.out w12 hB12)
                  try (refine hK _ _ ?_; clear hK K)
                  refine wpAny_ready (rs := [15]) (by kernel_rfl) (by simp) ?_
                  refine AllReady.cons rfl (fun K hK => ?_) AllReady.nil
                  go_simp
                  try (refine hK _ _ ?_; clear hK K)
                  refine wpAny_done (by kernel_rfl) ?_ _
                  go_wp2_with fail
                  go_meet
                  case rel => exact ⟨rfl, hB12⟩
                refine AllReady.cons rfl (fun K hK => ?_) ?_
                · go_simp
                  try (refine hK _ _ ?_; clear hK K)
                  refine wpAny_ready (rs := [5, 14]) (by kernel_rfl) (by simp) ?_
                  refine AllReady.cons rfl (fun K hK => ?_) ?_
                  · go_simp
                    try (refine hK _ _ ?_; clear hK K)
                    refine wpAny_ready (rs := [14]) (by kernel_rfl) (by simp) ?_
                    refine AllReady.cons rfl (fun K hK => ?_) AllReady.nil
                    go_simp
                    go_wp2_with (go_at_call 23; refine (kI.out _ hS0).mono ?_; rintro ev w12 ⟨rfl, hB12⟩; have hx2 := kC.out w12 hB12; have hg2 := kG.out w12 hB12)
                    try (refine hK _ _ ?_; clear hK K)
                    refine wpAny_ready (rs := [15]) (by kernel_rfl) (by simp) ?_
                    refine AllReady.cons rfl (fun K hK => ?_) AllReady.nil
                    go_simp
                    try (refine hK _ _ ?_; clear hK K)
                    refine wpAny_done (by kernel_rfl) ?_ _
                    go_wp2_with fail
                    go_meet
                    case rel => exact ⟨rfl, hB12⟩
                  refine AllReady.cons rfl (fun K hK => ?_) ?_
                  · go_simp
                    go_wp2_with (go_at_call 23; refine (kI.out _ hS0).mono ?_; rintro ev w12 ⟨rfl, hB12⟩; have hx2 := kC.out w12 hB12; have hg2 := kG.out w12 hB12)
                    try (refine hK _ _ ?_; clear hK K)
                    refine wpAny_ready (rs := [5]) (by kernel_rfl) (by simp) ?_
                    refine AllReady.cons rfl (fun K hK => ?_) AllReady.nil
                    go_simp
                    try (refine hK _ _ ?_; clear hK K)
                    refine wpAny_ready (rs := [15]) (by kernel_rfl) (by simp) ?_
                    refine AllReady.cons rfl (fun K hK => ?_) AllReady.nil
                    go_simp
                    try (refine hK _ _ ?_; clear hK K)
                    refine wpAny_done (by kernel_rfl) ?_ _
                    go_wp2_with fail
                    go_meet
                    case rel => exact ⟨rfl, hB12⟩
                  exact AllReady.nil
                exact AllReady.nil
              exact AllReady.nil
            refine AllReady.cons rfl (fun K hK => ?_) ?_
            · go_simp
              try (refine hK _ _ ?_; clear hK K)
              refine wpAny_take (i := 11) (v := ?_) rfl (by kernel_rfl) (by kernel_rfl) (by kernel_rfl) (fun _ _ _ h => hQp.out _ _ _ _ h rfl) (Or.inl ⟨by rfl, ?_⟩) ?_
              rotate_left
              · intro w; go_simp; try (with_reducible rfl)
              refine wpAny_take (i := 12) (v := ?_) rfl (by kernel_rfl) (by kernel_rfl) (by kernel_rfl) (fun _ _ _ h => hQp.out _ _ _ _ h rfl) (Or.inl ⟨by rfl, ?_⟩) ?_
              rotate_left
              · intro w; go_simp; try (with_reducible rfl)
              refine wpAny_ready (rs := [4, 13]) (by kernel_rfl) (by simp) ?_
              refine AllReady.cons rfl (fun K hK => ?_) ?_
              · go_simp
                try (refine hK _ _ ?_; clear hK K)
                refine wpAny_ready (rs := [5, 13]) (by kernel_rfl) (by simp) ?_
                refine AllReady.cons rfl (fun K hK => ?_) ?_
                · go_simp
                  try (refine hK _ _ ?_; clear hK K)
                  refine wpAny_ready (rs := [13]) (by kernel_rfl) (by simp) ?_
                  refine AllReady.cons rfl (fun K hK => ?_) AllReady.nil
                  go_simp
                  try (refine hK _ _ ?_; clear hK K)
                  refine wpAny_ready (rs := [14]) (by kernel_rfl) (by simp) ?_
                  refine AllReady.cons rfl (fun K hK => ?_) AllReady.nil
                  go_simp
                  go_wp2_with (go_at_call 23; refine (kI.out _ hS0).mono ?_; rintro ev w12 ⟨rfl, hB12⟩; have hx2 := kC.out w12 hB12; have hg2 := kG.out w12 hB12)
                  try (refine hK _ _ ?_; clear hK K)
                  refine wpAny_ready (rs := [15]) (by kernel_rfl) (by simp) ?_
                  refine AllReady.cons rfl (fun K hK => ?_) AllReady.nil
                  go_simp
                  try (refine hK _ _ ?_; clear hK K)
                  refine wpAny_done (by kernel_rfl) ?_ _
                  go_wp2_with fail
                  go_meet
                  case rel => exact ⟨rfl, hB12⟩
                refine AllReady.cons rfl (fun K hK => ?_) ?_
                · go_simp
                  try (refine hK _ _ ?_; clear hK K)
                  refine wpAny_ready (rs := [5, 14]) (by kernel_rfl) (by simp) ?_
                  refine AllReady.cons rfl (fun K hK => ?_) ?_
                  · go_simp
                    try (refine hK _ _ ?_; clear hK K)
                    refine wpAny_ready (rs := [14]) (by kernel_rfl) (by simp) ?_
                    refine AllReady.cons rfl (fun K hK => ?_) AllReady.nil
                    go_simp
                    go_wp2_with (go_at_call 23; refine (kI.out _ hS0).mono ?_; rintro ev w12 ⟨rfl, hB12⟩; have hx2 := kC.out w12 hB12; have hg2 := kG.out w12 hB12)
                    try (refine hK _ _ ?_; clear hK K)
                    refine wpAny_ready (rs := [15]) (by kernel_rfl) (by simp) ?_
                    refine AllReady.cons rfl (fun K hK => ?_) AllReady.nil
                    go_simp
                    try (refine hK _ _ ?_; clear hK K)
                    refine wpAny_done (by kernel_rfl) ?_ _
                    go_wp2_with fail
                    go_meet
                    case rel => exact ⟨rfl, hB12⟩
                  refine AllReady.cons rfl (fun K hK => ?_) ?_
                  · go_simp
                    go_wp2_with (go_at_call 23; refine (kI.out _ hS0).mono ?_; rintro ev w12 ⟨rfl, hB12⟩; have hx2 := kC.out w12 hB12; have hg2 := kG.out w12 hB12)
                    try (refine hK _ _ ?_; clear hK K)
                    refine wpAny_ready (rs := [5]) (by kernel_rfl) (by simp) ?_
                    refine AllReady.cons rfl (fun K hK => ?_) AllReady.nil
                    go_simp
                    try (refine hK _ _ ?_; clear hK K)
                    refine wpAny_ready (rs := [15]) (by kernel_rfl) (by simp) ?_
                    refine AllReady.cons rfl (fun K hK => ?_) AllReady.nil
                    go_simp
                    try (refine hK _ _ ?_; clear hK K)
                    refine wpAny_done (by kernel_rfl) ?_ _
                    go_wp2_with fail
                    go_meet
                    case rel => exact ⟨rfl, hB12⟩
                  exact AllReady.nil
                exact AllReady.nil
              refine AllReady.cons rfl (fun K hK => ?_) ?_
              · go_simp
                try (refine hK _ _ ?_; clear hK K)
                refine wpAny_ready (rs := [4, 14]) (by kernel_rfl) (by simp) ?_
                refine AllReady.cons rfl (fun K hK => ?_) ?_
                · go_simp
                  try (refine hK _ _ ?_; clear hK K)
                  refine wpAny_ready (rs := [5, 14]) (by kernel_rfl) (by simp) ?_
                  refine AllReady.cons rfl (fun K hK => ?_) ?_
                  · go_simp
                    try (refine hK _ _ ?_; clear hK K)
                    refine wpAny_ready (rs := [14]) (by kernel_rfl) (by simp) ?_
                    refine AllReady.cons rfl (fun K hK => ?_) AllReady.nil
                    go_simp
                    go_wp2_with (go_at_call 23; refine (kI.out _ hS0).mono ?_; rintro ev w12 ⟨rfl, hB12⟩; have hx2 := kC.out w12 hB12; have hg2 := kG.out w12 hB12)
                    try (refine hK _ _ ?_; clear hK K)
                    refine wpAny_ready (rs := [15]) (by kernel_rfl) (by simp) ?_
                    refine AllReady.cons rfl (fun K hK => ?_) AllReady.nil
                    go_simp
                    try (refine hK _ _ ?_; clear hK K)
                    refine wpAny_done (by kernel_rfl) ?_ _
                    go_wp2_with fail
                    go_meet
                    case rel => exact ⟨rfl, hB12⟩
                  refine AllReady.cons rfl (fun K hK => ?_) ?_
                  · go_simp
                    go_wp2_with (go_at_call 23; refine (kI.out _ hS0).mono ?_; rintro ev w12 ⟨rfl, hB12⟩; have hx2 := kC.out w12 hB12; have hg2 := kG.out w12 hB12)
                    try (refine hK _ _ ?_; clear hK K)
                    refine wpAny_ready (rs := [5]) (by kernel_rfl) (by simp) ?_
                    refine AllReady.cons rfl (fun K hK => ?_) AllReady.nil
                    go_simp
                    try (refine hK _ _ ?_; clear hK K)
                    refine wpAny_ready (rs := [15]) (by kernel_rfl) (by simp) ?_
                    refine AllReady.cons rfl (fun K hK => ?_) AllReady.nil
                    go_simp
                    try (refine hK _ _ ?_; clear hK K)
                    refine wpAny_done (by kernel_rfl) ?_ _
                    go_wp2_with fail
                    go_meet
                    case rel => exact ⟨rfl, hB12⟩
                  exact AllReady.nil
                refine AllReady.cons rfl (fun K hK => ?_) ?_
                · go_simp
                  go_wp2_with (go_at_call 23; refine (kI.out _ hS0).mono ?_; rintro ev w12 ⟨rfl, hB12⟩; have hx2 := kC.out w12 hB12; have hg2 := kG.out w12 hB12)
                  try (refine hK _ _ ?_; clear hK K)
                  refine wpAny_ready (rs := [4]) (by kernel_rfl) (by simp) ?_
                  refine AllReady.cons rfl (fun K hK => ?_) AllReady.nil
                  go_simp
                  try (refine hK _ _ ?_; clear hK K)
                  refine wpAny_ready (rs := [5]) (by kernel_rfl) (by simp) ?_
                  refine AllReady.cons rfl (fun K hK => ?_) AllReady.nil
                  go_simp
                  try (refine hK _ _ ?_; clear hK K)
                  refine wpAny_ready (rs := [15]) (by kernel_rfl) (by simp) ?_
                  refine AllReady.cons rfl (fun K hK => ?_) AllReady.nil
                  go_simp
                  try (refine hK _ _ ?_; clear hK K)
                  refine wpAny_done (by kernel_rfl) ?_ _
                  go_wp2_with fail
                  go_meet
                  case rel => exact ⟨rfl, hB12⟩
                exact AllReady.nil
              exact AllReady.nil
            exact AllReady.nil
          case rest =>
            obtain ⟨rfl, hBc⟩ := hcut
            replace hBc := hidden (hB11'.out.trans (hBc.mono hB11'.out.size))
            clear hS0 hd0 kC kI kG g1 g2 g3 g4 hB11'
            go_wp2_with fail
            go_roundg (L - (k + 1))
            case measure => rw [hgk.out]; omega
            case rel => exact ⟨k + 1, by omega, rfl, by go_num, rfl, hidden ⟨hI2.out, hBc.out⟩⟩
        · have hneq : ofBytes (fillL (rn rs k)) ≠ ofBytes (isL Nw) := fun e => heq (ofBytes_inj _ _ hfr hir e)
          have hne1 := text_apart hneq
          have hne2 := text_apart (fun e => hneq e.symm)
          have hall : Hid (∀ j, j < 18 → blockL mem (22 + j) = isL (nw j) → j = M → blockL mem X = isL Nw) := hidden (fun j _ h e => by subst e; rw [hXM.out, h, hNw.out])
          rcases hS.out with hb | ⟨hb, hb2⟩
          · have hbk : blockL mem X = isL Nw := hall.out M hM18 (hb M hM18).1 rfl
            rw [hbk] at kB
            have hE : Hid (Told18 nw mem) := hidden hb
            generalize ofBytes (fillL (rn rs k)) = ZA at kC g4 hne1 hne2
            generalize ofBytes (isL Nw) = ZB at kI kB hne1 hne2
            clear hR hb11 hB11 e' hcl c1 c2 hbd n0 hfr hir heq hI c0 hgl hneq hS hb hbk hall
            go_upto_region 54 with fail
            go_cut [232] from 203 to 241 (fun c wx => c = .bool true ∧ Below w11.heap.size w11 wx)
            case first =>
              refine wp_region_any (by kernel_rfl) ?_
              try (change wpAny _ _ _ _ _ _ _ (World.drew _))
              refine wpAny_take (i := 0) (v := ?_) rfl (by kernel_rfl) (by kernel_rfl) (by kernel_rfl) (fun _ _ _ h => hQp.out _ _ _ _ h rfl) (Or.inl ⟨by rfl, ?_⟩) ?_
              rotate_left
              · intro w; go_simp; try (with_reducible rfl)
              refine wpAny_take (i := 1) (v := ?_) rfl (by kernel_rfl) (by kernel_rfl) (by kernel_rfl) (fun _ _ _ h => hQp.out _ _ _ _ h rfl) (Or.inl ⟨by rfl, ?_⟩) ?_
              rotate_left
              · intro w; go_simp; try (with_reducible rfl)
              refine wpAny_take (i := 2) (v := ?_) rfl (by kernel_rfl) (by kernel_rfl) (by kernel_rfl) (fun _ _ _ h => hQp.out _ _ _ _ h rfl) (Or.inl ⟨by rfl, ?_⟩) ?_
              rotate_left
              · intro w; go_simp; try (with_reducible rfl)
              refine wpAny_take (i := 3) (v := ?_) rfl (by kernel_rfl) (by kernel_rfl) (by kernel_rfl) (fun _ _ _ h => hQp.out _ _ _ _ h rfl) (Or.inl ⟨by rfl, ?_⟩) ?_
              rotate_left
              · intro w; go_simp; try (with_reducible rfl)
              refine wpAny_take (i := 6) (v := ?_) rfl (by kernel_rfl) (by kernel_rfl) (by kernel_rfl) (fun _ _ _ h => hQp.out _ _ _ _ h rfl) (Or.inl ⟨by rfl, ?_⟩) ?_
              rotate_left
              · intro w; go_simp; try (with_reducible rfl)
              refine wpAny_take (i := 7) (v := ?_) rfl (by kernel_rfl) (by kernel_rfl) (by kernel_rfl) (fun _ _ _ h => hQp.out _ _ _ _ h rfl) (Or.inl ⟨by rfl, ?_⟩) ?_
              rotate_left
              · intro w; go_simp; try (with_reducible rfl)
              refine wpAny_take (i := 8) (v := ?_) rfl (by kernel_rfl) (by kernel_rfl) (by kernel_rfl) (fun _ _ _ h => hQp.out _ _ _ _ h rfl) (Or.inl ⟨by rfl, ?_⟩) ?_
              rotate_left
              · intro w; go_simp; try (with_reducible rfl)
              refine wpAny_take (i := 9) (v := ?_) rfl (by kernel_rfl) (by kernel_rfl) (by kernel_rfl) (fun _ _ _ h => hQp.out _ _ _ _ h rfl) (Or.inl ⟨by rfl, ?_⟩) ?_
              rotate_left
              · intro w; go_simp; try (with_reducible rfl)
              refine wpAny_ready (rs := [4, 10]) (by kernel_rfl) (by simp) ?_
              refine AllReady.cons rfl (fun K hK => ?_) ?_
              · go_simp
                try (refine hK _ _ ?_; clear hK K)
                refine wpAny_ready (rs := [5, 10]) (by kernel_rfl) (by simp) ?_
                refine AllReady.cons rfl (fun K hK => ?_) ?_
                · go_simp
                  try (refine hK _ _ ?_; clear hK K)
                  refine wpAny_ready (rs := [10]) (by kernel_rfl) (by simp) ?_
                  refine AllReady.cons rfl (fun K hK => ?_) AllReady.nil
                  go_simp
                  try (refine hK _ _ ?_; clear hK K)
                  refine wpAny_ready (rs := [11]) (by kernel_rfl) (by simp) ?_
                  refine AllReady.cons rfl (fun K hK => ?_) AllReady.nil
                  go_simp
                  try (refine hK _ _ ?_; clear hK K)
                  refine wpAny_ready (rs := [12]) (by kernel_rfl) (by simp) ?_
                  refine AllReady.cons rfl (fun K hK => ?_) AllReady.nil
                  go_simp
                  try (refine hK _ _ ?_; clear hK K)
                  refine wpAny_ready (rs := [13]) (by kernel_rfl) (by simp) ?_
                  refine AllReady.cons rfl (fun K hK => ?_) AllReady.nil
                  go_simp
                  try (refine hK _ _ ?_; clear hK K)
                  refine wpAny_ready (rs := [14]) (by kernel_rfl) (by simp) ?_
                  refine AllReady.cons rfl (fun K hK => ?_) AllReady.nil
                  go_simp
                  go_wp2_with (go_at_call 23; refine (kI.out _ hS0).mono ?_; rintro ev w12 ⟨rfl, hB12⟩; have hx2 := kC.out w12 hB12; have hg2 := kG.out w12 hB12)
                  try (refine hK _ _ ?_; clear hK K)
                  refine wpAny_ready (rs := [15]) (by kernel_rfl) (by simp) ?_
                  refine AllReady.cons rfl (fun K hK => ?_) AllReady.nil
                  go_simp
                  try (refine hK _ _ ?_; clear hK K)
                  refine wpAny_done (by kernel_rfl) ?_ _
                  go_wp2_with fail
                  go_meet
                  case rel => exact ⟨rfl, hB12⟩
                refine AllReady.cons rfl (fun K hK => ?_) ?_
                · go_simp
                  try (refine hK _ _ ?_; clear hK K)
                  refine wpAny_take (i := 11) (v := ?_) rfl (by kernel_rfl) (by kernel_rfl) (by kernel_rfl) (fun _ _ _ h => hQp.out _ _ _ _ h rfl) (Or.inl ⟨by rfl, ?_⟩) ?_
                  rotate_left
                  · intro w; go_simp; try (with_reducible rfl)
                  refine wpAny_take (i := 12) (v := ?_) rfl (by kernel_rfl) (by kernel_rfl) (by kernel_rfl) (fun _ _ _ h => hQp.out _ _ _ _ h rfl) (Or.inl ⟨by rfl, ?_⟩) ?_
                  rotate_left
                  · intro w; go_simp; try (with_reducible rfl)
                  refine wpAny_ready (rs := [5, 13]) (by kernel_rfl) (by simp) ?_
                  refine AllReady.cons rfl (fun K hK => ?_) ?_
                  · go_simp
                    try (refine hK _ _ ?_; clear hK K)
                    refine wpAny_ready (rs := [13]) (by kernel_rfl) (by simp) ?_
                    refine AllReady.cons rfl (fun K hK => ?_) AllReady.nil
                    go_simp
                    try (refine hK _ _ ?_; clear hK K)
                    refine wpAny_ready (rs := [14]) (by kernel_rfl) (by simp) ?_
                    refine AllReady.cons rfl (fun K hK => ?_) AllReady.nil
                    go_simp
                    go_wp2_with (go_at_call 23; refine (kI.out _ hS0).mono ?_; rintro ev w12 ⟨rfl, hB12⟩; have hx2 := kC.out w12 hB12; have hg2 := kG.out w12 hB12)
                    try (refine hK _ _ ?_; clear hK K)
                    refine wpAny_ready (rs := [15]) (by kernel_rfl) (by simp) ?_
                    refine AllReady.cons rfl (fun K hK => ?_) AllReady.nil
                    go_simp
                    try (refine hK _ _ ?_; clear hK K)
                    refine wpAny_done (by kernel_rfl) ?_ _
                    go_wp2_with fail
                    go_meet
                    case rel => exact ⟨rfl, hB12⟩
                  refine AllReady.cons rfl (fun K hK => ?_) ?_
                  · go_simp
                    try (refine hK _ _ ?_; clear hK K)
                    refine wpAny_ready (rs := [5, 14]) (by kernel_rfl) (by simp) ?_
                    refine AllReady.cons rfl (fun K hK => ?_) ?_
                    · go_simp
                      try (refine hK _ _ ?_; clear hK K)
                      refine wpAny_ready (rs := [14]) (by kernel_rfl) (by simp) ?_
                      refine AllReady.cons rfl (fun K hK => ?_) AllReady.nil
                      go_simp
                      go_wp2_with (go_at_call 23; refine (kI.out _ hS0).mono ?_; rintro ev w12 ⟨rfl, hB12⟩; have hx2 := kC.out w12 hB12; have hg2 := kG.out w12 hB12)
                      try (refine hK _ _ ?_; clear hK K)
                      refine wpAny_ready (rs := [15]) (by kernel_rfl) (by simp) ?_
                      refine AllReady.cons rfl (fun K hK => ?_) AllReady.nil
                      go_simp
                      try (refine hK _ _ ?_; clear hK K)
                      refine wpAny_done (by kernel_rfl) ?_ _
                      go_wp2_with fail
                      go_meet
                      case rel => exact ⟨rfl, hB12⟩
                    refine AllReady.cons rfl (fun K hK => ?_) ?_
                    · go_simp
                      go_wp2_with (go_at_call 23; refine (kI.out _ hS0).mono ?_; rintro ev w12 ⟨rfl, hB12⟩; have hx2 := kC.out w12 hB12; have hg2 := kG.out w12 hB12)
                      try (refine hK _ _ ?_; clear hK K)
                      refine wpAny_ready (rs := [5]) (by kernel_rfl) (by simp) ?_
                      refine AllReady.cons rfl (fun K hK => ?_) AllReady.nil
                      go_simp
                      try (refine hK _ _ ?_; clear hK K)
                      refine wpAny_ready (rs := [15]) (by kernel_rfl) (by simp) ?_
                      refine AllReady.cons rfl (fun K hK => ?_) AllReady.nil
                      go_simp
                      try (refine hK _ _ ?_; clear hK K)
                      refine wpAny_done (by kernel_rfl) ?_ _
                      go_wp2_with fail
                      go_meet
                      case rel => exact ⟨rfl, hB12⟩
                    exact AllReady.nil
                  exact AllReady.nil
                exact AllReady.nil
              refine AllReady.cons rfl (fun K hK => ?_) ?_
              · go_simp
                try (refine hK _ _ ?_; clear hK K)
                refine wpAny_take (i := 11) (v := ?_) rfl (by kernel_rfl) (by kernel_rfl) (by kernel_rfl) (fun _ _ _ h => hQp.out _ _ _ _ h rfl) (Or.inl ⟨by rfl, ?_⟩) ?_
                rotate_left
                · intro w; go_simp; try (with_reducible rfl)
                refine wpAny_take (i := 12) (v := ?_) rfl (by kernel_rfl) (by kernel_rfl) (by kernel_rfl) (fun _ _ _ h => hQp.out _ _ _ _ h rfl) (Or.inl ⟨by rfl, ?_⟩) ?_
                rotate_left
                · intro w; go_simp; try (with_reducible rfl)
                refine wpAny_ready (rs := [4, 13]) (by kernel_rfl) (by simp) ?_
                refine AllReady.cons rfl (fun K hK => ?_) ?_
                · go_simp
                  try (refine hK _ _ ?_; clear hK K)
                  refine wpAny_ready (rs := [5, 13]) (by kernel_rfl) (by simp) ?_
                  refine AllReady.cons rfl (fun K hK => ?_) ?_
                  · go_simp
                    try (refine hK _ _ ?_; clear hK K)
                    refine wpAny_ready (rs := [13]) (by kernel_rfl) (by simp) ?_
                    refine AllReady.cons rfl (fun K hK => ?_) AllReady.nil
                    go_simp
                    try (refine hK _ _ ?_; clear hK K)
                    refine wpAny_ready (rs := [14]) (by kernel_rfl) (by simp) ?_
                    refine AllReady.cons rfl (fun K hK => ?_) AllReady.nil
                    go_simp
                    go_wp2_with (go_at_call 23; refine (kI.out _ hS0).mono ?_; rintro ev w12 ⟨rfl, hB12⟩; have hx2 := kC.out w12 hB12; have hg2 := kG.out w12 hB12)
                    try (refine hK _ _ ?_; clear hK K)
                    refine wpAny_ready (rs := [15]) (by kernel_rfl) (by simp) ?_
                    refine AllReady.cons rfl (fun K hK => ?_) AllReady.nil
                    go_simp
                    try (refine hK _ _ ?_; clear hK K)
                    refine wpAny_done (by kernel_rfl) ?_ _
                    go_wp2_with fail
                    go_meet
                    case rel => exact ⟨rfl, hB12⟩
                  refine AllReady.cons rfl (fun K hK => ?_) ?_
                  · go_simp
                    try (refine hK _ _ ?_; clear hK K)
                    refine wpAny_ready (rs := [5, 14]) (by kernel_rfl) (by simp) ?_
                    refine AllReady.cons rfl (fun K hK => ?_) ?_
                    · go_simp
                      try (refine hK _ _ ?_; clear hK K)
                      refine wpAny_ready (rs := [14]) (by kernel_rfl) (by simp) ?_
                      refine AllReady.cons rfl (fun K hK => ?_) AllReady.nil
                      go_simp
                      go_wp2_with (go_at_call 23; refine (kI.out _ hS0).mono ?_; rintro ev w12 ⟨rfl, hB12⟩; have hx2 := kC.out w12 hB12; have hg2 := kG.out w12 hB12)
                      try (refine hK _ _ ?_; clear hK K)
                      refine wpAny_ready (rs := [15]) (by kernel_rfl) (by simp) ?_
                      refine AllReady.cons rfl (fun K hK => ?_) AllReady.nil
                      go_simp
                      try (refine hK _ _ ?_; clear hK K)
                      refine wpAny_done (by kernel_rfl) ?_ _
                      go_wp2_with fail
                      go_meet
                      case rel => exact ⟨rfl, hB12⟩
                    refine AllReady.cons rfl (fun K hK => ?_) ?_
                    · go_simp
                      go_wp2_with (go_at_call 23; refine (kI.out _ hS0).mono ?_; rintro ev w12 ⟨rfl, hB12⟩; have hx2 := kC.out w12 hB12; have hg2 := kG.out w12 hB12)
                      try (refine hK _ _ ?_; clear hK K)
                      refine wpAny_ready (rs := [5]) (by kernel_rfl) (by simp) ?_
                      refine AllReady.cons rfl (fun K hK => ?_) AllReady.nil
                      go_simp
                      try (refine hK _ _ ?_; clear hK K)
                      refine wpAny_ready (rs := [15]) (by kernel_rfl) (by simp) ?_
                      refine AllReady.cons rfl (fun K hK => ?_) AllReady.nil
                      go_simp
                      try (refine hK _ _ ?_; clear hK K)
                      refine wpAny_done (by kernel_rfl) ?_ _
                      go_wp2_with fail
                      go_meet
                      case rel => exact ⟨rfl, hB12⟩
                    exact AllReady.nil
                  exact AllReady.nil
                refine AllReady.cons rfl (fun K hK => ?_) ?_
                · go_simp
                  try (refine hK _ _ ?_; clear hK K)
                  refine wpAny_ready (rs := [4, 14]) (by kernel_rfl) (by simp) ?_
                  refine AllReady.cons rfl (fun K hK => ?_) ?_
                  · go_simp
                    try (refine hK _ _ ?_; clear hK K)
                    refine wpAny_ready (rs := [5, 14]) (by kernel_rfl) (by simp) ?_
                    refine AllReady.cons rfl (fun K hK => ?_) ?_
                    · go_simp
                      try (refine hK _ _ ?_; clear hK K)
                      refine wpAny_ready (rs := [14]) (by kernel_rfl) (by simp) ?_
                      refine AllReady.cons rfl (fun K hK => ?_) AllReady.nil
                      go_simp
                      go_wp2_with (go_at_call 23; refine (kI.out _ hS0).mono ?_; rintro ev w12 ⟨rfl, hB12⟩; have hx2 := kC.out w12 hB12; have hg2 := kG.out w12 hB12)
                      try (refine hK _ _ ?_; clear hK K)
                      refine wpAny_ready (rs := [15]) (by kernel_rfl) (by simp) ?_
                      refine AllReady.cons rfl (fun K hK => ?_) AllReady.nil
                      go_simp
                      try (refine hK _ _ ?_; clear hK K)
                      refine wpAny_done (by kernel_rfl) ?_ _
                      go_wp2_with fail
                      go_meet
                      case rel => exact ⟨rfl, hB12⟩
                    refine AllReady.cons rfl (fun K hK => ?_) ?_
                    · go_simp
                      go_wp2_with (go_at_call 23; refine (kI.out _ hS0).mono ?_; rintro ev w12 ⟨rfl, hB12⟩; have hx2 := kC.out w12 hB12; have hg2 := kG.out w12 hB12)
                      try (refine hK _ _ ?_; clear hK K)
                      refine wpAny_ready (rs := [5]) (by kernel_rfl) (by simp) ?_
                      refine AllReady.cons rfl (fun K hK => ?_) AllReady.nil
                      go_simp
                      try (refine hK _ _ ?_; clear hK K)
                      refine wpAny_ready (rs := [15]) (by kernel_rfl) (by simp) ?_
                      refine AllReady.cons rfl (fun K hK => ?_) AllReady.nil
                      go_simp
                      try (refine hK _ _ ?_; clear hK K)
                      refine wpAny_done (by kernel_rfl) ?_ _
                      go_wp2_with fail
                      go_meet
                      case rel => exact ⟨rfl, hB12⟩
                    exact AllReady.nil
                  refine AllReady.cons rfl (fun K hK => ?_) ?_
                  · go_simp
                    go_wp2_with (go_at_call 23; refine (kI.out _ hS0).mono ?_; rintro ev w12 ⟨rfl, hB12⟩; have hx2 := kC.out w12 hB12; have hg2 := kG.out w12 hB12)
                    try (refine hK _ _ ?_; clear hK K)
                    refine wpAny_ready (rs := [4]) (by kernel_rfl) (by simp) ?_
                    refine AllReady.cons rfl (fun K hK => ?_) AllReady.nil
                    go_simp
                    try (refine hK _ _ ?_; clear hK K)
                    refine wpAny_ready (rs := [5]) (by kernel_rfl) (by simp) ?_
                    refine AllReady.cons rfl (fun K hK => ?_) AllReady.nil
                    go_simp
                    try (refine hK _ _ ?_; clear hK K)
                    refine wpAny_ready (rs := [15]) (by kernel_rfl) (by simp) ?_
                    refine AllReady.cons rfl (fun K hK => ?_) AllReady.nil
                    go_simp
                    try (refine hK _ _ ?_; clear hK K)
                    refine wpAny_done (by kernel_rfl) ?_ _
                    go_wp2_with fail
                    go_meet
                    case rel => exact ⟨rfl, hB12⟩
                  exact AllReady.nil
                exact AllReady.nil
              exact AllReady.nil
            case rest =>
              obtain ⟨rfl, hBc⟩ := hcut
              have hS1 : Below w11.heap.size w11 wc.drew := hBc.drew
              have q1 := kC.out _ hS1
              have q2 := kG.out _ hS1
              have q3 := kB.out _ hS1
              clear g1 g2 g3 g4 hS0 hd0
              go_upto_region 55 with fail
              go_cut [17] from 203 to 241 (fun c wx => c = .bool false ∧ Below w11.heap.size w11 wx)
              case first =>
                refine wp_region_any (by kernel_rfl) ?_
                try (change wpAny _ _ _ _ _ _ _ (World.drew _))
                refine wpAny_take (i := 0) (v := ?_) rfl (by kernel_rfl) (by kernel_rfl) (by kernel_rfl) (fun _ _ _ h => hQp.out _ _ _ _ h rfl) (Or.inl ⟨by rfl, ?_⟩) ?_
                rotate_left
                · intro w; go_simp; try (with_reducible rfl)
                refine wpAny_take (i := 2) (v := ?_) rfl (by kernel_rfl) (by kernel_rfl) (by kernel_rfl) (fun _ _ _ h => hQp.out _ _ _ _ h rfl) (Or.inl ⟨by rfl, ?_⟩) ?_
                rotate_left
                · intro w; go_simp; try (with_reducible rfl)
                refine wpAny_take (i := 3) (v := ?_) rfl (by kernel_rfl) (by kernel_rfl) (by kernel_rfl) (fun _ _ _ h => hQp.out _ _ _ _ h rfl) (Or.inl ⟨by rfl, ?_⟩) ?_
                rotate_left
                · intro w; go_simp; try (with_reducible rfl)
                refine wpAny_take (i := 4) (v := ?_) rfl (by kernel_rfl) (by kernel_rfl) (by kernel_rfl) (fun _ _ _ h => hQp.out _ _ _ _ h rfl) (Or.inl ⟨by rfl, ?_⟩) ?_
                rotate_left
                · intro w; go_simp; try (with_reducible rfl)
                refine wpAny_take (i := 5) (v := ?_) rfl (by kernel_rfl) (by kernel_rfl) (by kernel_rfl) (fun _ _ _ h => hQp.out _ _ _ _ h rfl) (Or.inl ⟨by rfl, ?_⟩) ?_
                rotate_left
                · intro w; go_simp; try (with_reducible rfl)
                refine wpAny_ready (rs := [1, 6]) (by kernel_rfl) (by simp) ?_
                refine AllReady.cons rfl (fun K hK => ?_) ?_
                · go_simp
                  try (refine hK _ _ ?_; clear hK K)
                  refine wpAny_ready (rs := [6]) (by kernel_rfl) (by simp) ?_
                  refine AllReady.cons rfl (fun K hK => ?_) AllReady.nil
                  go_simp
                  try (refine hK _ _ ?_; clear hK K)
                  refine wpAny_ready (rs := [7]) (by kernel_rfl) (by simp) ?_
                  refine AllReady.cons rfl (fun K hK => ?_) AllReady.nil
                  go_simp
                  try (refine hK _ _ ?_; clear hK K)
                  refine wpAny_ready (rs := [8]) (by kernel_rfl) (by simp) ?_
                  refine AllReady.cons rfl (fun K hK => ?_) AllReady.nil
                  go_simp
                  try (refine hK _ _ ?_; clear hK K)
                  refine wpAny_ready (rs := [9]) (by kernel_rfl) (by simp) ?_
                  refine AllReady.cons rfl (fun K hK => ?_) AllReady.nil
                  go_simp
                  try (refine hK _ _ ?_; clear hK K)
                  refine wpAny_done (by kernel_rfl) ?_ _
                  go_wp2_with fail
                  go_meet
                  case rel => exact ⟨rfl, hS1⟩
                refine AllReady.cons rfl (fun K hK => ?_) ?_
                · go_simp
                  try (refine hK _ _ ?_; clear hK K)
                  refine wpAny_ready (rs := [1, 7]) (by kernel_rfl) (by simp) ?_
                  refine AllReady.cons rfl (fun K hK => ?_) ?_
                  · go_simp
                    try (refine hK _ _ ?_; clear hK K)
                    refine wpAny_ready (rs := [7]) (by kernel_rfl) (by simp) ?_
                    refine AllReady.cons rfl (fun K hK => ?_) AllReady.nil
                    go_simp
                    try (refine hK _ _ ?_; clear hK K)
                    refine wpAny_ready (rs := [8]) (by kernel_rfl) (by simp) ?_
                    refine AllReady.cons rfl (fun K hK => ?_) AllReady.nil
                    go_simp
                    try (refine hK _ _ ?_; clear hK K)
                    refine wpAny_ready (rs := [9]) (by kernel_rfl) (by simp) ?_
                    refine AllReady.cons rfl (fun K hK => ?_) AllReady.nil
                    go_simp
                    try (refine hK _ _ ?_; clear hK K)
                    refine wpAny_done (by kernel_rfl) ?_ _
                    go_wp2_with fail
                    go_meet
                    case rel => exact ⟨rfl, hS1⟩
                  refine AllReady.cons rfl (fun K hK => ?_) ?_
                  · go_simp
                    try (refine hK _ _ ?_; clear hK K)
                    refine wpAny_ready (rs := [1]) (by kernel_rfl) (by simp) ?_
                    refine AllReady.cons rfl (fun K hK => ?_) AllReady.nil
                    go_simp
                    try (refine hK _ _ ?_; clear hK K)
                    refine wpAny_ready (rs := [8]) (by kernel_rfl) (by simp) ?_
                    refine AllReady.cons rfl (fun K hK => ?_) AllReady.nil
                    go_simp
                    try (refine hK _ _ ?_; clear hK K)
                    refine wpAny_ready (rs := [9]) (by kernel_rfl) (by simp) ?_
                    refine AllReady.cons rfl (fun K hK => ?_) AllReady.nil
                    go_simp
                    try (refine hK _ _ ?_; clear hK K)
                    refine wpAny_done (by kernel_rfl) ?_ _
                    go_wp2_with fail
                    go_meet
                    case rel => exact ⟨rfl, hS1⟩
                  exact AllReady.nil
                exact AllReady.nil
              case rest =>
                obtain ⟨rfl, hBe⟩ := hcut
                replace hBe := hidden (hB11'.out.trans (hBe.mono hB11'.out.size))
                clear q1 q2 q3 hS1 hBc kC kG kB kI
                go_wp2_with fail
                exact hKK.out _ _ _ _ _ _ _ _ _ _ _ _ _ _ _ _ _ _ _ _ _ _ _ _ _ _ _ _ _ _ _ _ _ _ _ _ _ _ _ _ _ _ _ _ _ _ _ _ _ _ false _ (fun h => by cases h) (fun _ => hE.out) hBe.out
          · have hbk : blockL mem X = fillL (rn rs k) := by have := hb2 k hlt; rw [hXt.out] at this; exact this
            rw [hbk] at kB
            have hE : Hid (Told18 (nwK rs L nw) mem) := hidden hb
            generalize ofBytes (fillL (rn rs k)) = ZA at kC g4 hne1 hne2 kB
            generalize ofBytes (isL Nw) = ZB at kI hne1 hne2
            clear hR hb11 hB11 e' hcl c1 c2 hbd n0 hfr hir heq hI c0 hgl hneq hS hb hb2 hbk hall
            go_upto_region 54 with fail
            go_cut [232] from 203 to 241 (fun c wx => c = .bool true ∧ Below w11.heap.size w11 wx)
            case first =>
              refine wp_region_any (by kernel_rfl) ?_
              try (change wpAny _ _ _ _ _ _ _ (World.drew _))
              refine wpAny_take (i := 0) (v := ?_) rfl (by kernel_rfl) (by kernel_rfl) (by kernel_rfl) (fun _ _ _ h => hQp.out _ _ _ _ h rfl) (Or.inl ⟨by rfl, ?_⟩) ?_
              rotate_left
              · intro w; go_simp; try (with_reducible rfl)
              refine wpAny_take (i := 1) (v := ?_) rfl (by kernel_rfl) (by kernel_rfl) (by kernel_rfl) (fun _ _ _ h => hQp.out _ _ _ _ h rfl) (Or.inl ⟨by rfl, ?_⟩) ?_
              rotate_left
              · intro w; go_simp; try (with_reducible rfl)
              refine wpAny_take (i := 2) (v := ?_) rfl (by kernel_rfl) (by kernel_rfl) (by kernel_rfl) (fun _ _ _ h => hQp.out _ _ _ _ h rfl) (Or.inl ⟨by rfl, ?_⟩) ?_
              rotate_left
              · intro w; go_simp; try (with_reducible rfl)
              refine wpAny_take (i := 3) (v := ?_) rfl (by kernel_rfl) (by kernel_rfl) (by kernel_rfl) (fun _ _ _ h => hQp.out _ _ _ _ h rfl) (Or.inl ⟨by rfl, ?_⟩) ?_
              rotate_left
              · intro w; go_simp; try (with_reducible rfl)
              refine wpAny_take (i := 6) (v := ?_) rfl (by kernel_rfl) (by kernel_rfl) (by kernel_rfl) (fun _ _ _ h => hQp.out _ _ _ _ h rfl) (Or.inl ⟨by rfl, ?_⟩) ?_
              rotate_left
              · intro w; go_simp; try (with_reducible rfl)
              refine wpAny_take (i := 7) (v := ?_) rfl (by kernel_rfl) (by kernel_rfl) (by kernel_rfl) (fun _ _ _ h => hQp.out _ _ _ _ h rfl) (Or.inl ⟨by rfl, ?_⟩) ?_
              rotate_left
              · intro w; go_simp; try (with_reducible rfl)
              refine wpAny_take (i := 8) (v := ?_) rfl (by kernel_rfl) (by kernel_rfl) (by kernel_rfl) (fun _ _ _ h => hQp.out _ _ _ _ h rfl) (Or.inl ⟨by rfl, ?_⟩) ?_
              rotate_left
              · intro w; go_simp; try (with_reducible rfl)
              refine wpAny_take (i := 9) (v := ?_) rfl (by kernel_rfl) (by kernel_rfl) (by kernel_rfl) (fun _ _ _ h => hQp.out _ _ _ _ h rfl) (Or.inl ⟨by rfl, ?_⟩) ?_
              rotate_left
              · intro w; go_simp; try (with_reducible rfl)
              refine wpAny_ready (rs := [4, 10]) (by kernel_rfl) (by simp) ?_
              refine AllReady.cons rfl (fun K hK => ?_) ?_
              · go_simp
                try (refine hK _ _ ?_; clear hK K)
                refine wpAny_ready (rs := [5, 10]) (by kernel_rfl) (by simp) ?_
                refine AllReady.cons rfl (fun K hK => ?_) ?_
                · go_simp
                  try (refine hK _ _ ?_; clear hK K)
                  refine wpAny_ready (rs := [10]) (by kernel_rfl) (by simp) ?_
                  refine AllReady.cons rfl (fun K hK => ?_) AllReady.nil
                  go_simp
                  try (refine hK _ _ ?_; clear hK K)
                  refine wpAny_ready (rs := [11]) (by kernel_rfl) (by simp) ?_
                  refine AllReady.cons rfl (fun K hK => ?_) AllReady.nil
                  go_simp
                  try (refine hK _ _ ?_; clear hK K)
                  refine wpAny_ready (rs := [12]) (by kernel_rfl) (by simp) ?_
                  refine AllReady.cons rfl (fun K hK => ?_) AllReady.nil
                  go_simp
                  try (refine hK _ _ ?_; clear hK K)
                  refine wpAny_ready (rs := [13]) (by kernel_rfl) (by simp) ?_
                  refine AllReady.cons rfl (fun K hK => ?_) AllReady.nil
                  go_simp
                  try (refine hK _ _ ?_; clear hK K)
                  refine wpAny_ready (rs := [14]) (by kernel_rfl) (by simp) ?_
                  refine AllReady.cons rfl (fun K hK => ?_) AllReady.nil
                  go_simp
                  go_wp2_with (go_at_call 23; refine (kI.out _ hS0).mono ?_; rintro ev w12 ⟨rfl, hB12⟩; have hx2 := kC.out w12 hB12; have hg2 := kG.out w12 hB12)
                  try (refine hK _ _ ?_; clear hK K)
                  refine wpAny_ready (rs := [15]) (by kernel_rfl) (by simp) ?_
                  refine AllReady.cons rfl (fun K hK => ?_) AllReady.nil
                  go_simp
                  try (refine hK _ _ ?_; clear hK K)
                  refine wpAny_done (by kernel_rfl) ?_ _
                  go_wp2_with fail
                  go_meet
                  case rel => exact ⟨rfl, hB12⟩
                refine AllReady.cons rfl (fun K hK => ?_) ?_
                · go_simp
                  try (refine hK _ _ ?_; clear hK K)
                  refine wpAny_take (i := 11) (v := ?_) rfl (by kernel_rfl) (by kernel_rfl) (by kernel_rfl) (fun _ _ _ h => hQp.out _ _ _ _ h rfl) (Or.inl ⟨by rfl, ?_⟩) ?_
                  rotate_left
                  · intro w; go_simp; try (with_reducible rfl)
                  refine wpAny_take (i := 12) (v := ?_) rfl (by kernel_rfl) (by kernel_rfl) (by kernel_rfl) (fun _ _ _ h => hQp.out _ _ _ _ h rfl) (Or.inl ⟨by rfl, ?_⟩) ?_
                  rotate_left
                  · intro w; go_simp; try (with_reducible rfl)
                  refine wpAny_ready (rs := [5, 13]) (by kernel_rfl) (by simp) ?_
                  refine AllReady.cons rfl (fun K hK => ?_) ?_
                  · go_simp
                    try (refine hK _ _ ?_; clear hK K)
                    refine wpAny_ready (rs := [13]) (by kernel_rfl) (by simp) ?_
                    refine AllReady.cons rfl (fun K hK => ?_) AllReady.nil
                    go_simp
                    try (refine hK _ _ ?_; clear hK K)
                    refine wpAny_ready (rs := [14]) (by kernel_rfl) (by simp) ?_
                    refine AllReady.cons rfl (fun K hK => ?_) AllReady.nil
                    go_simp
                    go_wp2_with (go_at_call 23; refine (kI.out _ hS0).mono ?_; rintro ev w12 ⟨rfl, hB12⟩; have hx2 := kC.out w12 hB12; have hg2 := kG.out w12 hB12)
                    try (refine hK _ _ ?_; clear hK K)
                    refine wpAny_ready (rs := [15]) (by kernel_rfl) (by simp) ?_
                    refine AllReady.cons rfl (fun K hK => ?_) AllReady.nil
                    go_simp
                    try (refine hK _ _ ?_; clear hK K)
                    refine wpAny_done (by kernel_rfl) ?_ _
                    go_wp2_with fail
                    go_meet
                    case rel => exact ⟨rfl, hB12⟩
                  refine AllReady.cons rfl (fun K hK => ?_) ?_
                  · go_simp
                    try (refine hK _ _ ?_; clear hK K)
                    refine wpAny_ready (rs := [5, 14]) (by kernel_rfl) (by simp) ?_
                    refine AllReady.cons rfl (fun K hK => ?_) ?_
                    · go_simp
                      try (refine hK _ _ ?_; clear hK K)
                      refine wpAny_ready (rs := [14]) (by kernel_rfl) (by simp) ?_
                      refine AllReady.cons rfl (fun K hK => ?_) AllReady.nil
                      go_simp
                      go_wp2_with (go_at_call 23; refine (kI.out _ hS0).mono ?_; rintro ev w12 ⟨rfl, hB12⟩; have hx2 := kC.out w12 hB12; have hg2 := kG.out w12 hB12)
                      try (refine hK _ _ ?_; clear hK K)
                      refine wpAny_ready (rs := [15]) (by kernel_rfl) (by simp) ?_
                      refine AllReady.cons rfl (fun K hK => ?_) AllReady.nil
                      go_simp
                      try (refine hK _ _ ?_; clear hK K)
                      refine wpAny_done (by kernel_rfl) ?_ _
                      go_wp2_with fail
                      go_meet
                      case rel => exact ⟨rfl, hB12⟩
                    refine AllReady.cons rfl (fun K hK => ?_) ?_
                    · go_simp
                      go_wp2_with (go_at_call 23; refine (kI.out _ hS0).mono ?_; rintro ev w12 ⟨rfl, hB12⟩; have hx2 := kC.out w12 hB12; have hg2 := kG.out w12 hB12)
                      try (refine hK _ _ ?_; clear hK K)
                      refine wpAny_ready (rs := [5]) (by kernel_rfl) (by simp) ?_
                      refine AllReady.cons rfl (fun K hK => ?_) AllReady.nil
                      go_simp
                      try (refine hK _ _ ?_; clear hK K)
                      refine wpAny_ready (rs := [15]) (by kernel_rfl) (by simp) ?_
                      refine AllReady.cons rfl (fun K hK => ?_) AllReady.nil
                      go_simp
                      try (refine hK _ _ ?_; clear hK K)
                      refine wpAny_done (by kernel_rfl) ?_ _
                      go_wp2_with fail
                      go_meet
                      case rel => exact ⟨rfl, hB12⟩
                    exact AllReady.nil
                  exact AllReady.nil
                exact AllReady.nil
              refine AllReady.cons rfl (fun K hK => ?_) ?_
              · go_simp
                try (refine hK _ _ ?_; clear hK K)
                refine wpAny_take (i := 11) (v := ?_) rfl (by kernel_rfl) (by kernel_rfl) (by kernel_rfl) (fun _ _ _ h => hQp.out _ _ _ _ h rfl) (Or.inl ⟨by rfl, ?_⟩) ?_
                rotate_left
                · intro w; go_simp; try (with_reducible rfl)
                refine wpAny_take (i := 12) (v := ?_) rfl (by kernel_rfl) (by kernel_rfl) (by kernel_rfl) (fun _ _ _ h => hQp.out _ _ _ _ h rfl) (Or.inl ⟨by rfl, ?_⟩) ?_
                rotate_left
                · intro w; go_simp; try (with_reducible rfl)
                refine wpAny_ready (rs := [4, 13]) (by kernel_rfl) (by simp) ?_
                refine AllReady.cons rfl (fun K hK => ?_) ?_
                · go_simp
                  try (refine hK _ _ ?_; clear hK K)
                  refine wpAny_ready (rs := [5, 13]) (by kernel_rfl) (by simp) ?_
                  refine AllReady.cons rfl (fun K hK => ?_) ?_
                  · go_simp
                    try (refine hK _ _ ?_; clear hK K)
                    refine wpAny_ready (rs := [13]) (by kernel_rfl) (by simp) ?_
                    refine AllReady.cons rfl (fun K hK => ?_) AllReady.nil
                    go_simp
                    try (refine hK _ _ ?_; clear hK K)
                    refine wpAny_ready (rs := [14]) (by kernel_rfl) (by simp) ?_
                    refine AllReady.cons rfl (fun K hK => ?_) AllReady.nil
                    go_simp
                    go_wp2_with (go_at_call 23; refine (kI.out _ hS0).mono ?_; rintro ev w12 ⟨rfl, hB12⟩; have hx2 := kC.out w12 hB12; have hg2 := kG.out w12 hB12)
                    try (refine hK _ _ ?_; clear hK K)
                    refine wpAny_ready (rs := [15]) (by kernel_rfl) (by simp) ?_
                    refine AllReady.cons rfl (fun K hK => ?_) AllReady.nil
                    go_simp
                    try (refine hK _ _ ?_; clear hK K)
                    refine wpAny_done (by kernel_rfl) ?_ _
                    go_wp2_with fail
                    go_meet
                    case rel => exact ⟨rfl, hB12⟩
                  refine AllReady.cons rfl (fun K hK => ?_) ?_
                  · go_simp
                    try (refine hK _ _ ?_; clear hK K)
                    refine wpAny_ready (rs := [5, 14]) (by kernel_rfl) (by simp) ?_
                    refine AllReady.cons rfl (fun K hK => ?_) ?_
                    · go_simp
                      try (refine hK _ _ ?_; clear hK K)
                      refine wpAny_ready (rs := [14]) (by kernel_rfl) (by simp) ?_
                      refine AllReady.cons rfl (fun K hK => ?_) AllReady.nil
                      go_simp
                      go_wp2_with (go_at_call 23; refine (kI.out _ hS0).mono ?_; rintro ev w12 ⟨rfl, hB12⟩; have hx2 := kC.out w12 hB12; have hg2 := kG.out w12 hB12)
                      try (refine hK _ _ ?_; clear hK K)
                      refine wpAny_ready (rs := [15]) (by kernel_rfl) (by simp) ?_
                      refine AllReady.cons rfl (fun K hK => ?_) AllReady.nil
                      go_simp
                      try (refine hK _ _ ?_; clear hK K)
                      refine wpAny_done (by kernel_rfl) ?_ _
                      go_wp2_with fail
                      go_meet
                      case rel => exact ⟨rfl, hB12⟩
                    refine AllReady.cons rfl (fun K hK => ?_) ?_
                    · go_simp
                      go_wp2_with (go_at_call 23; refine (kI.out _ hS0).mono ?_; rintro ev w12 ⟨rfl, hB12⟩; have hx2 := kC.out w12 hB12; have hg2 := kG.out w12 hB12)
                      try (refine hK _ _ ?_; clear hK K)
                      refine wpAny_ready (rs := [5]) (by kernel_rfl) (by simp) ?_
                      refine AllReady.cons rfl (fun K hK => ?_) AllReady.nil
                      go_simp
                      try (refine hK _ _ ?_; clear hK K)
                      refine wpAny_ready (rs := [15]) (by kernel_rfl) (by simp) ?_
                      refine AllReady.cons rfl (fun K hK => ?_) AllReady.nil
                      go_simp
                      try (refine hK _ _ ?_; clear hK K)
                      refine wpAny_done (by kernel_rfl) ?_ _
                      go_wp2_with fail
                      go_meet
                      case rel => exact ⟨rfl, hB12⟩
                    exact AllReady.nil
                  exact AllReady.nil
                refine AllReady.cons rfl (fun K hK => ?_) ?_
                · go_simp
                  try (refine hK _ _ ?_; clear hK K)
                  refine wpAny_ready (rs := [4, 14]) (by kernel_rfl) (by simp) ?_
                  refine AllReady.cons rfl (fun K hK => ?_) ?_
                  · go_simp
                    try (refine hK _ _ ?_; clear hK K)
                    refine wpAny_ready (rs := [5, 14]) (by kernel_rfl) (by simp) ?_
                    refine AllReady.cons rfl (fun K hK => ?_) ?_
                    · go_simp
                      try (refine hK _ _ ?_; clear hK K)
                      refine wpAny_ready (rs := [14]) (by kernel_rfl) (by simp) ?_
                      refine AllReady.cons rfl (fun K hK => ?_) AllReady.nil
                      go_simp
                      go_wp2_with (go_at_call 23; refine (kI.out _ hS0).mono ?_; rintro ev w12 ⟨rfl, hB12⟩; have hx2 := kC.out w12 hB12; have hg2 := kG.out w12 hB12)
                      try (refine hK _ _ ?_; clear hK K)
                      refine wpAny_ready (rs := [15]) (by kernel_rfl) (by simp) ?_
                      refine AllReady.cons rfl (fun K hK => ?_) AllReady.nil
                      go_simp
                      try (refine hK _ _ ?_; clear hK K)
                      refine wpAny_done (by kernel_rfl) ?_ _
                      go_wp2_with fail
                      go_meet
                      case rel => exact ⟨rfl, hB12⟩
                    refine AllReady.cons rfl (fun K hK => ?_) ?_
                    · go_simp
                      go_wp2_with (go_at_call 23; refine (kI.out _ hS0).mono ?_; rintro ev w12 ⟨rfl, hB12⟩; have hx2 := kC.out w12 hB12; have hg2 := kG.out w12 hB12)
                      try (refine hK _ _ ?_; clear hK K)
                      refine wpAny_ready (rs := [5]) (by kernel_rfl) (by simp) ?_
                      refine AllReady.cons rfl (fun K hK => ?_) AllReady.nil
                      go_simp
                      try (refine hK _ _ ?_; clear hK K)
                      refine wpAny_ready (rs := [15]) (by kernel_rfl) (by simp) ?_
                      refine AllReady.cons rfl (fun K hK => ?_) AllReady.nil
                      go_simp
                      try (refine hK _ _ ?_; clear hK K)
                      refine wpAny_done (by kernel_rfl) ?_ _
                      go_wp2_with fail
                      go_meet
                      case rel => exact ⟨rfl, hB12⟩
                    exact AllReady.nil
                  refine AllReady.cons rfl (fun K hK => ?_) ?_
                  · go_simp
                    go_wp2_with (go_at_call 23; refine (kI.out _ hS0).mono ?_; rintro ev w12 ⟨rfl, hB12⟩; have hx2 := kC.out w12 hB12; have hg2 := kG.out w12 hB12)
                    try (refine hK _ _ ?_; clear hK K)
                    refine wpAny_ready (rs := [4]) (by kernel_rfl) (by simp) ?_
                    refine AllReady.cons rfl (fun K hK => ?_) AllReady.nil
                    go_simp
                    try (refine hK _ _ ?_; clear hK K)
                    refine wpAny_ready (rs := [5]) (by kernel_rfl) (by simp) ?_
                    refine AllReady.cons rfl (fun K hK => ?_) AllReady.nil
                    go_simp
                    try (refine hK _ _ ?_; clear hK K)
                    refine wpAny_ready (rs := [15]) (by kernel_rfl) (by simp) ?_
                    refine AllReady.cons rfl (fun K hK => ?_) AllReady.nil
                    go_simp
                    try (refine hK _ _ ?_; clear hK K)
                    refine wpAny_done (by kernel_rfl) ?_ _
                    go_wp2_with fail
                    go_meet
                    case rel => exact ⟨rfl, hB12⟩
                  exact AllReady.nil
                exact AllReady.nil
              exact AllReady.nil
            case rest =>
              obtain ⟨rfl, hBc⟩ := hcut
              have hS1 : Below w11.heap.size w11 wc.drew := hBc.drew
              have q1 := kC.out _ hS1
              have q2 := kG.out _ hS1
              have q3 := kB.out _ hS1
              clear g1 g2 g3 g4 hS0 hd0
              go_upto_region 55 with fail
              go_cut [17] from 203 to 241 (fun c wx => c = .bool true ∧ Below w11.heap.size w11 wx)
              case first =>
                refine wp_region_any (by kernel_rfl) ?_
                try (change wpAny _ _ _ _ _ _ _ (World.drew _))
                refine wpAny_take (i := 0) (v := ?_) rfl (by kernel_rfl) (by kernel_rfl) (by kernel_rfl) (fun _ _ _ h => hQp.out _ _ _ _ h rfl) (Or.inl ⟨by rfl, ?_⟩) ?_
                rotate_left
                · intro w; go_simp; try (with_reducible rfl)
                refine wpAny_take (i := 2) (v := ?_) rfl (by kernel_rfl) (by kernel_rfl) (by kernel_rfl) (fun _ _ _ h => hQp.out _ _ _ _ h rfl) (Or.inl ⟨by rfl, ?_⟩) ?_
                rotate_left
                · intro w; go_simp; try (with_reducible rfl)
                refine wpAny_take (i := 3) (v := ?_) rfl (by kernel_rfl) (by kernel_rfl) (by kernel_rfl) (fun _ _ _ h => hQp.out _ _ _ _ h rfl) (Or.inl ⟨by rfl, ?_⟩) ?_
                rotate_left
                · intro w; go_simp; try (with_reducible rfl)
                refine wpAny_take (i := 4) (v := ?_) rfl (by kernel_rfl) (by kernel_rfl) (by kernel_rfl) (fun _ _ _ h => hQp.out _ _ _ _ h rfl) (Or.inl ⟨by rfl, ?_⟩) ?_
                rotate_left
                · intro w; go_simp; try (with_reducible rfl)
                refine wpAny_take (i := 5) (v := ?_) rfl (by kernel_rfl) (by kernel_rfl) (by kernel_rfl) (fun _ _ _ h => hQp.out _ _ _ _ h rfl) (Or.inl ⟨by rfl, ?_⟩) ?_
                rotate_left
                · intro w; go_simp; try (with_reducible rfl)
                refine wpAny_ready (rs := [1, 6]) (by kernel_rfl) (by simp) ?_
                refine AllReady.cons rfl (fun K hK => ?_) ?_
                · go_simp
                  try (refine hK _ _ ?_; clear hK K)
                  refine wpAny_ready (rs := [6]) (by kernel_rfl) (by simp) ?_
                  refine AllReady.cons rfl (fun K hK => ?_) AllReady.nil
                  go_simp
                  try (refine hK _ _ ?_; clear hK K)
                  refine wpAny_ready (rs := [7]) (by kernel_rfl) (by simp) ?_
                  refine AllReady.cons rfl (fun K hK => ?_) AllReady.nil
                  go_simp
                  try (refine hK _ _ ?_; clear hK K)
                  refine wpAny_ready (rs := [8]) (by kernel_rfl) (by simp) ?_
                  refine AllReady.cons rfl (fun K hK => ?_) AllReady.nil
                  go_simp
                  try (refine hK _ _ ?_; clear hK K)
                  refine wpAny_ready (rs := [9]) (by kernel_rfl) (by simp) ?_
                  refine AllReady.cons rfl (fun K hK => ?_) AllReady.nil
                  go_simp
                  try (refine hK _ _ ?_; clear hK K)
                  refine wpAny_done (by kernel_rfl) ?_ _
                  go_wp2_with fail
                  go_meet
                  case rel => exact ⟨rfl, hS1⟩
                refine AllReady.cons rfl (fun K hK => ?_) ?_
                · go_simp
                  try (refine hK _ _ ?_; clear hK K)
                  refine wpAny_ready (rs := [1, 7]) (by kernel_rfl) (by simp) ?_
                  refine AllReady.cons rfl (fun K hK => ?_) ?_
                  · go_simp
                    try (refine hK _ _ ?_; clear hK K)
                    refine wpAny_ready (rs := [7]) (by kernel_rfl) (by simp) ?_
                    refine AllReady.cons rfl (fun K hK => ?_) AllReady.nil
                    go_simp
                    try (refine hK _ _ ?_; clear hK K)
                    refine wpAny_ready (rs := [8]) (by kernel_rfl) (by simp) ?_
                    refine AllReady.cons rfl (fun K hK => ?_) AllReady.nil
                    go_simp
                    try (refine hK _ _ ?_; clear hK K)
                    refine wpAny_ready (rs := [9]) (by kernel_rfl) (by simp) ?_
                    refine AllReady.cons rfl (fun K hK => ?_) AllReady.nil
                    go_simp
                    try (refine hK _ _ ?_; clear hK K)
                    refine wpAny_done (by kernel_rfl) ?_ _
                    go_wp2_with fail
                    go_meet
                    case rel => exact ⟨rfl, hS1⟩
                  refine AllReady.cons rfl (fun K hK => ?_) ?_
                  · go_simp
                    try (refine hK _ _ ?_; clear hK K)
                    refine wpAny_ready (rs := [1]) (by kernel_rfl) (by simp) ?_
                    refine AllReady.cons rfl (fun K hK => ?_) AllReady.nil
                    go_simp
                    try (refine hK _ _ ?_; clear hK K)
                    refine wpAny_ready (rs := [8]) (by kernel_rfl) (by simp) ?_
                    refine AllReady.cons rfl (fun K hK => ?_) AllReady.nil
                    go_simp
                    try (refine hK _ _ ?_; clear hK K)
                    refine wpAny_ready (rs := [9]) (by kernel_rfl) (by simp) ?_
                    refine AllReady.cons rfl (fun K hK => ?_) AllReady.nil
                    go_simp
                    try (refine hK _ _ ?_; clear hK K)
                    refine wpAny_done (by kernel_rfl) ?_ _
                    go_wp2_with fail
                    go_meet
                    case rel => exact ⟨rfl, hS1⟩
                  exact AllReady.nil
                exact AllReady.nil
              case rest =>
                obtain ⟨rfl, hBe⟩ := hcut
                replace hBe := hidden (hB11'.out.trans (hBe.mono hB11'.out.size))
                clear q1 q2 q3 hS1 hBc kC kG kB kI
                go_wp2_with fail
                exact hKK.out _ _ _ _ _ _ _ _ _ _ _ _ _ _ _ _ _ _ _ _ _ _ _ _ _ _ _ _ _ _ _ _ _ _ _ _ _ _ _ _ _ _ _ _ _ _ _ _ _ _ true _ (fun _ => hE.out) (fun h => by cases h) hBe.out
      · obtain rfl : k = L := by omega
        have hE : Hid (Told18 nw mem) := hidden (by
          rcases hS.out with h | ⟨h, -⟩
          · exact h
          · exact told_same h hnr.out (fun j hj => (hf.out j hj).1) hI.out.1)
        go_wp2_with fail
        exact hKK.out _ _ _ _ _ _ _ _ _ _ _ _ _ _ _ _ _ _ _ _ _ _ _ _ _ _ _ _ _ _ _ _ _ _ _ _ _ _ _ _ _ _ _ _ _ _ _ _ _ _ false _ (fun h => by cases h) (fun _ => hE.out) hI.out.2
end Go.Proofs.YtbagncolhckhjaaDoor
