/- InodePlays: what a Write should tell. -/
import Derived.Test.YtdkpffpjbpfdnaaGreatDoorIlMa
import Derived.Deep.CutBlock
namespace Go.Proofs.YtdkpffpjbpfdnaaGreatDoor
open Go.RowKit Go.Extern.Stop Go.Stop Go.Extern Go.Maps Go.Sort Go.Shelf
set_option maxRecDepth 1000000

set_option maxHeartbeats 4000000 in
theorem ip_want2 (E : TE) (rb ob : Nat) (kind id at_ long n : Int) (LG : Nat) (IN : Bool) (nm : ByteArray) (K : Nat → Nat) (D : Nat → List Int) (lim : Nat) (w : World) (hok : Hid E.Ok) (htn : Hid (E.tn = 6)) (hP : Hid (R8 E rb K D lim w)) (hO : Hid (O5 ob kind id at_ long n w)) (hob : Hid (ob ≠ E.mb ∧ ob ≠ rb)) (hIN : Hid (IN = decide (1 ≤ id ∧ id ≤ 6))) (hnm : Hid (itoaB id = nm)) (hi : Hid (i64 id ∧ i64 at_ ∧ i64 long ∧ i64 n)) (hLG : LG < 4300) (kGT : Hid (∀ wx, Below E.w0.heap.size E.w0 wx → GT wx)) (hkd : Hid (kind = 2))
    (x0 x1 x2 x3 x4 x5 x6 x7 x9 x12 x14 x16 x17 x18 x19 x22 x23 x24 x25 x26 x27 x28 x29 x30 x31 x32 x33 x34 x35 x36 x37 x38 x39 x40 x41 x42 x43 x44 x45 x46 x47 x48 x49 x50 x51 x52 x53 x54 x55 x56 x57 x58 x59 x60 x61 x62 x63 x64 x65 x66 x67 x68 x69 x70 x71 x72 x73 x74 x75 x76 x77 x78 x79 x80 x81 x82 x83 x84 x85 x86 x87 x88 x89 x90 x91 x92 x93 x94 x95 x96 x97 x98 x99 x100 x101 x102 x103 x104 x105 x106 x107 x108 x109 x110 x111 x112 x113 x114 x115 x116 x117 x118 x119 x120 x121 x122 x123 x124 x125 x126 x127 x128 x129 x130 x131 x132 x133 x134 x135 x136 x137 x138 x139 x140 x141 x142 x143 x144 x145 x146 x147 x148 x149 x150 x151 x152 x153 x154 x155 x156 x157 x158 x159 x160 x161 x162 x163 x164 x165 x166 x167 x168 x169 x170 x171 x172 x173 x174 x175 x176 x177 x178 x179 x180 x181 x182 x183 x184 x185 x186 x187 x188 x189 x190 x191 x192 x193 x194 x195 x196 x197 x198 x199 x200 x201 x202 x203 x204 x205 x206 x207 x208 x209 x210 x211 x212 x213 x214 x215 x216 x217 x218 x219 x220 x221 x222 x223 x224 x225 x226 x227 x228 x229 x230 x231 x232 x233 x234 x235 x236 x237 x238 x239 x240 x241 x242 x243 x244 x245 x246 x247 x248 x249 x250 x251 x252 x253 x254 x255 x256 x257 x258 x259 x260 x261 x262 x263 x264 x265 x266 x267 x268 x269 x270 x271 x272 x273 x274 x275 x276 x277 x278 x279 x280 x281 x282 x283 x284 x285 x286 x287 x288 x289 x290 x291 x292 x293 x294 x295 x296 x297 x298 x299 x300 x301 x302 x303 x304 x305 x306 x307 x308 x309 x310 x311 x312 x313 x314 x315 x316 x317 x318 x319 x320 x321 x322 x323 x324 x325 x326 x327 x328 x329 x330 x331 x332 x333 x334 x335 x336 x337 x338 x339 x340 x341 x342 x343 x344 x345 x346 x347 x348 x349 x350 x351 x352 x353 x354 x355 x356 x357 x358 x359 x360 x361 x362 x363 x364 x365 x366 x367 x368 x369 x370 x371 x372 x373 x374 x375 x376 x377 x378 x379 x380 x381 x382 x383 x384 x385 x386 x387 x388 x389 x390 x391 x392 x393 x394 x395 x396 x397 x398 x399 x400 x401 x402 : Value) (KK : Act → World → Prop) (Q : Exit → Act → World → Prop)
    (hKK : Hid (∀ (v22 v233 v234 v235 v236 v237 v238 v239 v240 v241 v242 v243 v244 v245 v246 v247 v248 v249 v250 v251 v252 v253 v254 v255 v256 v257 v258 v259 v260 v261 v262 v263 v264 v265 v266 v267 v268 v269 v270 v271 v272 v273 v274 v275 v276 v277 v278 v279 v280 v281 v282 v283 v284 v285 v286 v287 v288 v289 v290 v291 v292 v293 v294 v295 v296 v297 v298 v299 v300 v301 v302 v303 v304 v305 v306 v307 v308 : Value) (want to_ : Int), Wn E K D id at_ (4000 < at_ + (LG : Int)) (fun d => if LG = 0 then (D d).length else max (D d).length (at_.toNat + LG)) want to_ → KK ⟨#[x0, x1, x2, x3, x4, x5, x6, x7, .pointer (some ⟨rb, 0, none⟩), x9, .pointer (some ⟨ob, 0, none⟩), .bool IN, x12, .int .i64 (frN E D : Nat), x14, .int .i64 (LG : Nat), x16, x17, x18, x19, .int .i64 want, .int .i64 to_, v22, x23, x24, x25, x26, x27, x28, x29, x30, x31, x32, x33, x34, x35, x36, x37, x38, x39, x40, x41, x42, x43, x44, x45, x46, x47, x48, x49, x50, x51, x52, x53, x54, x55, x56, x57, x58, x59, x60, x61, x62, x63, x64, x65, x66, x67, x68, x69, x70, x71, x72, x73, x74, x75, x76, x77, x78, x79, x80, x81, x82, x83, x84, x85, x86, x87, x88, x89, x90, x91, x92, x93, x94, x95, x96, x97, x98, x99, x100, x101, x102, x103, x104, x105, x106, x107, x108, x109, x110, x111, x112, x113, x114, x115, x116, x117, x118, x119, x120, x121, x122, x123, x124, x125, x126, x127, x128, x129, x130, x131, x132, x133, x134, x135, x136, x137, x138, x139, x140, x141, x142, x143, x144, x145, x146, x147, x148, x149, x150, x151, x152, x153, x154, x155, x156, x157, x158, x159, x160, x161, x162, x163, x164, x165, x166, x167, x168, x169, x170, x171, x172, x173, x174, x175, x176, x177, x178, x179, x180, x181, x182, x183, x184, x185, x186, x187, x188, x189, x190, x191, x192, x193, x194, x195, x196, x197, x198, x199, x200, x201, x202, x203, x204, x205, x206, x207, x208, x209, x210, x211, x212, x213, x214, x215, x216, x217, x218, x219, x220, x221, x222, x223, x224, x225, x226, x227, x228, x229, x230, x231, x232, v233, v234, v235, v236, v237, v238, v239, v240, v241, v242, v243, v244, v245, v246, v247, v248, v249, v250, v251, v252, v253, v254, v255, v256, v257, v258, v259, v260, v261, v262, v263, v264, v265, v266, v267, v268, v269, v270, v271, v272, v273, v274, v275, v276, v277, v278, v279, v280, v281, v282, v283, v284, v285, v286, v287, v288, v289, v290, v291, v292, v293, v294, v295, v296, v297, v298, v299, v300, v301, v302, v303, v304, v305, v306, v307, v308, x309, x310, x311, x312, x313, x314, x315, x316, x317, x318, x319, x320, x321, x322, x323, x324, x325, x326, x327, x328, x329, x330, x331, x332, x333, x334, x335, x336, x337, x338, x339, x340, x341, x342, x343, x344, x345, x346, x347, x348, x349, x350, x351, x352, x353, x354, x355, x356, x357, x358, x359, x360, x361, x362, x363, x364, x365, x366, x367, x368, x369, x370, x371, x372, x373, x374, x375, x376, x377, x378, x379, x380, x381, x382, x383, x384, x385, x386, x387, x388, x389, x390, x391, x392, x393, x394, x395, x396, x397, x398, x399, x400, x401, x402], []⟩ w))
    (hQp : Hid (∀ x a a' w, Q (.panic x) a w → a.defers = a'.defers → Q (.panic x) a' w)) :
    Code.wp Tryz.prog (((Tryz.f3.body.bind (blockAt 7)).getD .skip)) (Exit.then KK Q) ⟨#[x0, x1, x2, x3, x4, x5, x6, x7, .pointer (some ⟨rb, 0, none⟩), x9, .pointer (some ⟨ob, 0, none⟩), .bool IN, x12, .int .i64 (frN E D : Nat), x14, .int .i64 (LG : Nat), x16, x17, x18, x19, .int .i64 0, .int .i64 0, x22, x23, x24, x25, x26, x27, x28, x29, x30, x31, x32, x33, x34, x35, x36, x37, x38, x39, x40, x41, x42, x43, x44, x45, x46, x47, x48, x49, x50, x51, x52, x53, x54, x55, x56, x57, x58, x59, x60, x61, x62, x63, x64, x65, x66, x67, x68, x69, x70, x71, x72, x73, x74, x75, x76, x77, x78, x79, x80, x81, x82, x83, x84, x85, x86, x87, x88, x89, x90, x91, x92, x93, x94, x95, x96, x97, x98, x99, x100, x101, x102, x103, x104, x105, x106, x107, x108, x109, x110, x111, x112, x113, x114, x115, x116, x117, x118, x119, x120, x121, x122, x123, x124, x125, x126, x127, x128, x129, x130, x131, x132, x133, x134, x135, x136, x137, x138, x139, x140, x141, x142, x143, x144, x145, x146, x147, x148, x149, x150, x151, x152, x153, x154, x155, x156, x157, x158, x159, x160, x161, x162, x163, x164, x165, x166, x167, x168, x169, x170, x171, x172, x173, x174, x175, x176, x177, x178, x179, x180, x181, x182, x183, x184, x185, x186, x187, x188, x189, x190, x191, x192, x193, x194, x195, x196, x197, x198, x199, x200, x201, x202, x203, x204, x205, x206, x207, x208, x209, x210, x211, x212, x213, x214, x215, x216, x217, x218, x219, x220, x221, x222, x223, x224, x225, x226, x227, x228, x229, x230, x231, x232, x233, x234, x235, x236, x237, x238, x239, x240, x241, x242, x243, x244, x245, x246, x247, x248, x249, x250, x251, x252, x253, x254, x255, x256, x257, x258, x259, x260, x261, x262, x263, x264, x265, x266, x267, x268, x269, x270, x271, x272, x273, x274, x275, x276, x277, x278, x279, x280, x281, x282, x283, x284, x285, x286, x287, x288, x289, x290, x291, x292, x293, x294, x295, x296, x297, x298, x299, x300, x301, x302, x303, x304, x305, x306, x307, x308, x309, x310, x311, x312, x313, x314, x315, x316, x317, x318, x319, x320, x321, x322, x323, x324, x325, x326, x327, x328, x329, x330, x331, x332, x333, x334, x335, x336, x337, x338, x339, x340, x341, x342, x343, x344, x345, x346, x347, x348, x349, x350, x351, x352, x353, x354, x355, x356, x357, x358, x359, x360, x361, x362, x363, x364, x365, x366, x367, x368, x369, x370, x371, x372, x373, x374, x375, x376, x377, x378, x379, x380, x381, x382, x383, x384, x385, x386, x387, x388, x389, x390, x391, x392, x393, x394, x395, x396, x397, x398, x399, x400, x401, x402], []⟩ w := by
  have hu := hQp
  clear hu
  conv => arg 2; whnf
  try dsimp only
  have hu := And.intro hO (And.intro hob (And.intro hIN (And.intro hi (And.intro hok (And.intro htn (And.intro kGT (And.intro hnm hLG)))))))
  clear hu
  obtain rfl := hkd.out
  clear hkd
  have o0 := hO.out.o0
  have o1 := hO.out.o1
  have o2 := hO.out.o2
  have hia := hi.out.2.1
  by_cases hat : at_ < 0
  · cases IN
    · go_wp2
      exact hKK.out _ _ _ _ _ _ _ _ _ _ _ _ _ _ _ _ _ _ _ _ _ _ _ _ _ _ _ _ _ _ _ _ _ _ _ _ _ _ _ _ _ _ _ _ _ _ _ _ _ _ _ _ _ _ _ _ _ _ _ _ _ _ _ _ _ _ _ _ _ _ _ _ _ _ _ _ _ _ _ (Or.inl ⟨rfl, Or.inl hat⟩)
    · go_wp2
      exact hKK.out _ _ _ _ _ _ _ _ _ _ _ _ _ _ _ _ _ _ _ _ _ _ _ _ _ _ _ _ _ _ _ _ _ _ _ _ _ _ _ _ _ _ _ _ _ _ _ _ _ _ _ _ _ _ _ _ _ _ _ _ _ _ _ _ _ _ _ _ _ _ _ _ _ _ _ _ _ _ _ (Or.inl ⟨rfl, Or.inl hat⟩)
  · have hat0 : 0 ≤ at_ := by omega
    by_cases hin : 1 ≤ id ∧ id ≤ 6
    · obtain ⟨d, rfl⟩ : ∃ d : Nat, id = (d : Int) := ⟨id.toNat, by omega⟩
      obtain rfl : IN = true := by rw [hIN.out]; simp; omega
      have hd1 : 1 ≤ d := by omega
      have hd2 : d ≤ 6 := by omega
      have hd3 : (d : Int) < 7 := by omega
      have r0 := hP.out.r.k d hd2
      by_cases hk : K d = 0
      · rw [hk] at r0
        go_wp2
        exact hKK.out _ _ _ _ _ _ _ _ _ _ _ _ _ _ _ _ _ _ _ _ _ _ _ _ _ _ _ _ _ _ _ _ _ _ _ _ _ _ _ _ _ _ _ _ _ _ _ _ _ _ _ _ _ _ _ _ _ _ _ _ _ _ _ _ _ _ _ _ _ _ _ _ _ _ _ _ _ _ _ (Or.inr ⟨hat0, d, rfl, hd1, hd2, Or.inl ⟨rfl, hk⟩⟩)
      · have hk' : ¬ ((K d : Nat) : Int) = 0 := by omega
        by_cases hbig : 4000 < at_ + (LG : Int)
        · by_cases h4 : 4000 < at_
          · go_wp2
            exact hKK.out _ _ _ _ _ _ _ _ _ _ _ _ _ _ _ _ _ _ _ _ _ _ _ _ _ _ _ _ _ _ _ _ _ _ _ _ _ _ _ _ _ _ _ _ _ _ _ _ _ _ _ _ _ _ _ _ _ _ _ _ _ _ _ _ _ _ _ _ _ _ _ _ _ _ _ _ _ _ _ (Or.inr ⟨hat0, d, rfl, hd1, hd2, Or.inr ⟨hk, Or.inl ⟨rfl, hbig⟩⟩⟩)
          · have h5 : 4000 - at_ < (LG : Int) := by omega
            replace hbig := hidden hbig
            go_wp2
            exact hKK.out _ _ _ _ _ _ _ _ _ _ _ _ _ _ _ _ _ _ _ _ _ _ _ _ _ _ _ _ _ _ _ _ _ _ _ _ _ _ _ _ _ _ _ _ _ _ _ _ _ _ _ _ _ _ _ _ _ _ _ _ _ _ _ _ _ _ _ _ _ _ _ _ _ _ _ _ _ _ _ (Or.inr ⟨hat0, d, rfl, hd1, hd2, Or.inr ⟨hk, Or.inl ⟨rfl, hbig.out⟩⟩⟩)
        · obtain ⟨A, rfl⟩ : ∃ A : Nat, at_ = (A : Int) := ⟨at_.toNat, by omega⟩
          have r1 := hP.out.r.t d hd2
          have hTs := ofB_size (D d)
          have hlen := hP.out.p.s.len hd1 (by rw [htn.out]; exact hd2)
          have hA4 : (A : Int) ≤ 4000 := by omega
          have hA5 : ¬ 4000 - (A : Int) < (LG : Int) := by omega
          by_cases h0 : LG = 0
          · subst h0
            have hS2 : (fun d => if (0 : Nat) = 0 then (D d).length else max (D d).length ((A : Int).toNat + 0)) d = (D d).length := by simp
            have hrel : ∀ want : Int, ((want = 15 ∧ ((frN E D : Nat) : Int) < growb ((D d).length : Nat) ((D d).length : Int)) ∨ (want = 0 ∧ growb ((D d).length : Nat) ((D d).length : Int) ≤ ((frN E D : Nat) : Int))) → Wn E K D (d : Int) (A : Int) (4000 < (A : Int) + (0 : Int)) (fun d => if 0 = 0 then (D d).length else max (D d).length ((A : Int).toNat + 0)) want ((D d).length : Int) := fun want h => Or.inr ⟨hat0, d, rfl, hd1, hd2, Or.inr ⟨hk, Or.inr ⟨hbig, by rw [hS2], by rw [hS2]; exact h⟩⟩⟩
            have kG := fun wx => refgrow_calls ((D d).length : Int) ((D d).length : Int) wx
            have hE := hidden hrel
            clear hrel
            generalize growb ((D d).length : Nat) ((D d).length : Int) = GR at kG hE
            generalize (D d).length = LD at *
            generalize ofBytes (D d) = TX at *
            replace kG := hidden kG
            by_cases hg : ((frN E D : Nat) : Int) < GR
            · go_wp2_with fail
              refine (kG.out _).mono ?_
              rintro ev wq ⟨rfl, hwq⟩
              subst wq
              dsimp only
              go_wp2
              exact hKK.out _ _ _ _ _ _ _ _ _ _ _ _ _ _ _ _ _ _ _ _ _ _ _ _ _ _ _ _ _ _ _ _ _ _ _ _ _ _ _ _ _ _ _ _ _ _ _ _ _ _ _ _ _ _ _ _ _ _ _ _ _ _ _ _ _ _ _ _ _ _ _ _ _ _ _ _ _ _ _ (hE.out _ (Or.inl ⟨rfl, hg⟩))
            · go_wp2_with fail
              refine (kG.out _).mono ?_
              rintro ev wq ⟨rfl, hwq⟩
              subst wq
              dsimp only
              go_wp2
              exact hKK.out _ _ _ _ _ _ _ _ _ _ _ _ _ _ _ _ _ _ _ _ _ _ _ _ _ _ _ _ _ _ _ _ _ _ _ _ _ _ _ _ _ _ _ _ _ _ _ _ _ _ _ _ _ _ _ _ _ _ _ _ _ _ _ _ _ _ _ _ _ _ _ _ _ _ _ _ _ _ _ (hE.out _ (Or.inr ⟨rfl, by omega⟩))
          · have h00 : ¬ (LG : Int) = 0 := by omega
            rcases Nat.le_total (D d).length (A + LG) with hm | hm
            · have hS2 : (fun d => if LG = 0 then (D d).length else max (D d).length ((A : Int).toNat + LG)) d = A + LG := by simp [h0]; omega
              have hrel : ∀ want : Int, ((want = 15 ∧ ((frN E D : Nat) : Int) < growb ((D d).length : Nat) ((A + LG : Nat) : Int)) ∨ (want = 0 ∧ growb ((D d).length : Nat) ((A + LG : Nat) : Int) ≤ ((frN E D : Nat) : Int))) → Wn E K D (d : Int) (A : Int) (4000 < (A : Int) + (LG : Int)) (fun d => if LG = 0 then (D d).length else max (D d).length ((A : Int).toNat + LG)) want ((A + LG : Nat) : Int) := fun want h => Or.inr ⟨hat0, d, rfl, hd1, hd2, Or.inr ⟨hk, Or.inr ⟨hbig, by rw [hS2], by rw [hS2]; exact h⟩⟩⟩
              rw [show (((A + LG : Nat) : Nat) : Int) = (A : Int) + (LG : Int) by omega] at hrel
              have kG := fun wx => refgrow_calls ((D d).length : Int) (((A : Int) + (LG : Int)) : Int) wx
              have hE := hidden hrel
              clear hrel
              generalize growb ((D d).length : Nat) (((A : Int) + (LG : Int)) : Int) = GR at kG hE
              generalize (D d).length = LD at *
              generalize ofBytes (D d) = TX at *
              replace kG := hidden kG
              have hm' : max (LD : Int) ((A : Int) + (LG : Int)) = (A : Int) + (LG : Int) := by omega
              by_cases hg : ((frN E D : Nat) : Int) < GR
              · go_wp2_with fail
                refine (kG.out _).mono ?_
                rintro ev wq ⟨rfl, hwq⟩
                subst wq
                dsimp only
                go_wp2
                exact hKK.out _ _ _ _ _ _ _ _ _ _ _ _ _ _ _ _ _ _ _ _ _ _ _ _ _ _ _ _ _ _ _ _ _ _ _ _ _ _ _ _ _ _ _ _ _ _ _ _ _ _ _ _ _ _ _ _ _ _ _ _ _ _ _ _ _ _ _ _ _ _ _ _ _ _ _ _ _ _ _ (hE.out _ (Or.inl ⟨rfl, hg⟩))
              · go_wp2_with fail
                refine (kG.out _).mono ?_
                rintro ev wq ⟨rfl, hwq⟩
                subst wq
                dsimp only
                go_wp2
                exact hKK.out _ _ _ _ _ _ _ _ _ _ _ _ _ _ _ _ _ _ _ _ _ _ _ _ _ _ _ _ _ _ _ _ _ _ _ _ _ _ _ _ _ _ _ _ _ _ _ _ _ _ _ _ _ _ _ _ _ _ _ _ _ _ _ _ _ _ _ _ _ _ _ _ _ _ _ _ _ _ _ (hE.out _ (Or.inr ⟨rfl, by omega⟩))
            · have hS2 : (fun d => if LG = 0 then (D d).length else max (D d).length ((A : Int).toNat + LG)) d = (D d).length := by simp [h0]; omega
              have hrel : ∀ want : Int, ((want = 15 ∧ ((frN E D : Nat) : Int) < growb ((D d).length : Nat) ((D d).length : Int)) ∨ (want = 0 ∧ growb ((D d).length : Nat) ((D d).length : Int) ≤ ((frN E D : Nat) : Int))) → Wn E K D (d : Int) (A : Int) (4000 < (A : Int) + (LG : Int)) (fun d => if LG = 0 then (D d).length else max (D d).length ((A : Int).toNat + LG)) want ((D d).length : Int) := fun want h => Or.inr ⟨hat0, d, rfl, hd1, hd2, Or.inr ⟨hk, Or.inr ⟨hbig, by rw [hS2], by rw [hS2]; exact h⟩⟩⟩
              have kG := fun wx => refgrow_calls ((D d).length : Int) ((D d).length : Int) wx
              have hE := hidden hrel
              clear hrel
              generalize growb ((D d).length : Nat) ((D d).length : Int) = GR at kG hE
              generalize (D d).length = LD at *
              generalize ofBytes (D d) = TX at *
              replace kG := hidden kG
              have hm' : max (LD : Int) ((A : Int) + (LG : Int)) = (LD : Int) := by omega
              by_cases hg : ((frN E D : Nat) : Int) < GR
              · go_wp2_with fail
                refine (kG.out _).mono ?_
                rintro ev wq ⟨rfl, hwq⟩
                subst wq
                dsimp only
                go_wp2
                exact hKK.out _ _ _ _ _ _ _ _ _ _ _ _ _ _ _ _ _ _ _ _ _ _ _ _ _ _ _ _ _ _ _ _ _ _ _ _ _ _ _ _ _ _ _ _ _ _ _ _ _ _ _ _ _ _ _ _ _ _ _ _ _ _ _ _ _ _ _ _ _ _ _ _ _ _ _ _ _ _ _ (hE.out _ (Or.inl ⟨rfl, hg⟩))
              · go_wp2_with fail
                refine (kG.out _).mono ?_
                rintro ev wq ⟨rfl, hwq⟩
                subst wq
                dsimp only
                go_wp2
                exact hKK.out _ _ _ _ _ _ _ _ _ _ _ _ _ _ _ _ _ _ _ _ _ _ _ _ _ _ _ _ _ _ _ _ _ _ _ _ _ _ _ _ _ _ _ _ _ _ _ _ _ _ _ _ _ _ _ _ _ _ _ _ _ _ _ _ _ _ _ _ _ _ _ _ _ _ _ _ _ _ _ (hE.out _ (Or.inr ⟨rfl, by omega⟩))
    · obtain rfl : IN = false := by rw [hIN.out]; simpa using hin
      go_wp2
      exact hKK.out _ _ _ _ _ _ _ _ _ _ _ _ _ _ _ _ _ _ _ _ _ _ _ _ _ _ _ _ _ _ _ _ _ _ _ _ _ _ _ _ _ _ _ _ _ _ _ _ _ _ _ _ _ _ _ _ _ _ _ _ _ _ _ _ _ _ _ _ _ _ _ _ _ _ _ _ _ _ _ (Or.inl ⟨rfl, Or.inr hin⟩)
end Go.Proofs.YtdkpffpjbpfdnaaGreatDoor
