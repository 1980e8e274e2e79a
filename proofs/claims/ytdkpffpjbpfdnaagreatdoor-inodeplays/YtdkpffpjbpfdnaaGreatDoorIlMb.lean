/- InodePlays: what a Cut should tell. -/
import Derived.Test.YtdkpffpjbpfdnaaGreatDoorIlMa
import Derived.Deep.CutBlock
namespace Go.Proofs.YtdkpffpjbpfdnaaGreatDoor
open Go.RowKit Go.Extern.Stop Go.Stop Go.Extern Go.Maps Go.Sort Go.Shelf
set_option maxRecDepth 1000000

set_option maxHeartbeats 4000000 in
theorem ip_want3 (E : TE) (rb ob : Nat) (kind id at_ long n : Int) (LG : Nat) (IN : Bool) (nm : ByteArray) (K : Nat → Nat) (D : Nat → List Int) (lim : Nat) (w : World) (hok : Hid E.Ok) (htn : Hid (E.tn = 6)) (hP : Hid (R8 E rb K D lim w)) (hO : Hid (O5 ob kind id at_ long n w)) (hob : Hid (ob ≠ E.mb ∧ ob ≠ rb)) (hIN : Hid (IN = decide (1 ≤ id ∧ id ≤ 6))) (hnm : Hid (itoaB id = nm)) (hi : Hid (i64 id ∧ i64 at_ ∧ i64 long ∧ i64 n)) (hLG : LG < 4300) (kGT : Hid (∀ wx, Below E.w0.heap.size E.w0 wx → GT wx)) (hkd : Hid (kind = 3))
    (x0 x1 x2 x3 x4 x5 x6 x7 x9 x12 x14 x16 x17 x18 x19 x22 x23 x24 x25 x26 x27 x28 x29 x30 x31 x32 x33 x34 x35 x36 x37 x38 x39 x40 x41 x42 x43 x44 x45 x46 x47 x48 x49 x50 x51 x52 x53 x54 x55 x56 x57 x58 x59 x60 x61 x62 x63 x64 x65 x66 x67 x68 x69 x70 x71 x72 x73 x74 x75 x76 x77 x78 x79 x80 x81 x82 x83 x84 x85 x86 x87 x88 x89 x90 x91 x92 x93 x94 x95 x96 x97 x98 x99 x100 x101 x102 x103 x104 x105 x106 x107 x108 x109 x110 x111 x112 x113 x114 x115 x116 x117 x118 x119 x120 x121 x122 x123 x124 x125 x126 x127 x128 x129 x130 x131 x132 x133 x134 x135 x136 x137 x138 x139 x140 x141 x142 x143 x144 x145 x146 x147 x148 x149 x150 x151 x152 x153 x154 x155 x156 x157 x158 x159 x160 x161 x162 x163 x164 x165 x166 x167 x168 x169 x170 x171 x172 x173 x174 x175 x176 x177 x178 x179 x180 x181 x182 x183 x184 x185 x186 x187 x188 x189 x190 x191 x192 x193 x194 x195 x196 x197 x198 x199 x200 x201 x202 x203 x204 x205 x206 x207 x208 x209 x210 x211 x212 x213 x214 x215 x216 x217 x218 x219 x220 x221 x222 x223 x224 x225 x226 x227 x228 x229 x230 x231 x232 x233 x234 x235 x236 x237 x238 x239 x240 x241 x242 x243 x244 x245 x246 x247 x248 x249 x250 x251 x252 x253 x254 x255 x256 x257 x258 x259 x260 x261 x262 x263 x264 x265 x266 x267 x268 x269 x270 x271 x272 x273 x274 x275 x276 x277 x278 x279 x280 x281 x282 x283 x284 x285 x286 x287 x288 x289 x290 x291 x292 x293 x294 x295 x296 x297 x298 x299 x300 x301 x302 x303 x304 x305 x306 x307 x308 x309 x310 x311 x312 x313 x314 x315 x316 x317 x318 x319 x320 x321 x322 x323 x324 x325 x326 x327 x328 x329 x330 x331 x332 x333 x334 x335 x336 x337 x338 x339 x340 x341 x342 x343 x344 x345 x346 x347 x348 x349 x350 x351 x352 x353 x354 x355 x356 x357 x358 x359 x360 x361 x362 x363 x364 x365 x366 x367 x368 x369 x370 x371 x372 x373 x374 x375 x376 x377 x378 x379 x380 x381 x382 x383 x384 x385 x386 x387 x388 x389 x390 x391 x392 x393 x394 x395 x396 x397 x398 x399 x400 x401 x402 : Value) (KK : Act → World → Prop) (Q : Exit → Act → World → Prop)
    (hKK : Hid (∀ (v22 v233 v234 v235 v236 v237 v238 v239 v240 v241 v242 v243 v244 v245 v246 v247 v248 v249 v250 v251 v252 v253 v254 v255 v256 v257 v258 v259 v260 v261 v262 v263 v264 v265 v266 v267 v268 v269 v270 v271 v272 v273 v274 v275 v276 v277 v278 v279 v280 v281 v282 v283 v284 v285 v286 v287 v288 v289 v290 v291 v292 v293 v294 v295 v296 v297 v298 v299 v300 v301 v302 v303 v304 v305 v306 v307 v308 : Value) (want to_ : Int), Wn E K D id at_ (4000 < at_) (fun _ => at_.toNat) want to_ → KK ⟨#[x0, x1, x2, x3, x4, x5, x6, x7, .pointer (some ⟨rb, 0, none⟩), x9, .pointer (some ⟨ob, 0, none⟩), .bool IN, x12, .int .i64 (frN E D : Nat), x14, .int .i64 (LG : Nat), x16, x17, x18, x19, .int .i64 want, .int .i64 to_, v22, x23, x24, x25, x26, x27, x28, x29, x30, x31, x32, x33, x34, x35, x36, x37, x38, x39, x40, x41, x42, x43, x44, x45, x46, x47, x48, x49, x50, x51, x52, x53, x54, x55, x56, x57, x58, x59, x60, x61, x62, x63, x64, x65, x66, x67, x68, x69, x70, x71, x72, x73, x74, x75, x76, x77, x78, x79, x80, x81, x82, x83, x84, x85, x86, x87, x88, x89, x90, x91, x92, x93, x94, x95, x96, x97, x98, x99, x100, x101, x102, x103, x104, x105, x106, x107, x108, x109, x110, x111, x112, x113, x114, x115, x116, x117, x118, x119, x120, x121, x122, x123, x124, x125, x126, x127, x128, x129, x130, x131, x132, x133, x134, x135, x136, x137, x138, x139, x140, x141, x142, x143, x144, x145, x146, x147, x148, x149, x150, x151, x152, x153, x154, x155, x156, x157, x158, x159, x160, x161, x162, x163, x164, x165, x166, x167, x168, x169, x170, x171, x172, x173, x174, x175, x176, x177, x178, x179, x180, x181, x182, x183, x184, x185, x186, x187, x188, x189, x190, x191, x192, x193, x194, x195, x196, x197, x198, x199, x200, x201, x202, x203, x204, x205, x206, x207, x208, x209, x210, x211, x212, x213, x214, x215, x216, x217, x218, x219, x220, x221, x222, x223, x224, x225, x226, x227, x228, x229, x230, x231, x232, v233, v234, v235, v236, v237, v238, v239, v240, v241, v242, v243, v244, v245, v246, v247, v248, v249, v250, v251, v252, v253, v254, v255, v256, v257, v258, v259, v260, v261, v262, v263, v264, v265, v266, v267, v268, v269, v270, v271, v272, v273, v274, v275, v276, v277, v278, v279, v280, v281, v282, v283, v284, v285, v286, v287, v288, v289, v290, v291, v292, v293, v294, v295, v296, v297, v298, v299, v300, v301, v302, v303, v304, v305, v306, v307, v308, x309, x310, x311, x312, x313, x314, x315, x316, x317, x318, x319, x320, x321, x322, x323, x324, x325, x326, x327, x328, x329, x330, x331, x332, x333, x334, x335, x336, x337, x338, x339, x340, x341, x342, x343, x344, x345, x346, x347, x348, x349, x350, x351, x352, x353, x354, x355, x356, x357, x358, x359, x360, x361, x362, x363, x364, x365, x366, x367, x368, x369, x370, x371, x372, x373, x374, x375, x376, x377, x378, x379, x380, x381, x382, x383, x384, x385, x386, x387, x388, x389, x390, x391, x392, x393, x394, x395, x396, x397, x398, x399, x400, x401, x402], []⟩ w))
    (hQp : Hid (∀ x a a' w, Q (.panic x) a w → a.defers = a'.defers → Q (.panic x) a' w)) :
    Code.wp Tryz.prog (((Tryz.f3.body.bind (blockAt 7)).getD .skip)) (Exit.then KK Q) ⟨#[x0, x1, x2, x3, x4, x5, x6, x7, .pointer (some ⟨rb, 0, none⟩), x9, .pointer (some ⟨ob, 0, none⟩), .bool IN, x12, .int .i64 (frN E D : Nat), x14, .int .i64 (LG : Nat), x16, x17, x18, x19, .int .i64 0, .int .i64 0, x22, x23, x24, x25, x26, x27, x28, x29, x30, x31, x32, x33, x34, x35, x36, x37, x38, x39, x40, x41, x42, x43, x44, x45, x46, x47, x48, x49, x50, x51, x52, x53, x54, x55, x56, x57, x58, x59, x60, x61, x62, x63, x64, x65, x66, x67, x68, x69, x70, x71, x72, x73, x74, x75, x76, x77, x78, x79, x80, x81, x82, x83, x84, x85, x86, x87, x88, x89, x90, x91, x92, x93, x94, x95, x96, x97, x98, x99, x100, x101, x102, x103, x104, x105, x106, x107, x108, x109, x110, x111, x112, x113, x114, x115, x116, x117, x118, x119, x120, x121, x122, x123, x124, x125, x126, x127, x128, x129, x130, x131, x132, x133, x134, x135, x136, x137, x138, x139, x140, x141, x142, x143, x144, x145, x146, x147, x148, x149, x150, x151, x152, x153, x154, x155, x156, x157, x158, x159, x160, x161, x162, x163, x164, x165, x166, x167, x168, x169, x170, x171, x172, x173, x174, x175, x176, x177, x178, x179, x180, x181, x182, x183, x184, x185, x186, x187, x188, x189, x190, x191, x192, x193, x194, x195, x196, x197, x198, x199, x200, x201, x202, x203, x204, x205, x206, x207, x208, x209, x210, x211, x212, x213, x214, x215, x216, x217, x218, x219, x220, x221, x222, x223, x224, x225, x226, x227, x228, x229, x230, x231, x232, x233, x234, x235, x236, x237, x238, x239, x240, x241, x242, x243, x244, x245, x246, x247, x248, x249, x250, x251, x252, x253, x254, x255, x256, x257, x258, x259, x260, x261, x262, x263, x264, x265, x266, x267, x268, x269, x270, x271, x272, x273, x274, x275, x276, x277, x278, x279, x280, x281, x282, x283, x284, x285, x286, x287, x288, x289, x290, x291, x292, x293, x294, x295, x296, x297, x298, x299, x300, x301, x302, x303, x304, x305, x306, x307, x308, x309, x310, x311, x312, x313, x314, x315, x316, x317, x318, x319, x320, x321, x322, x323, x324, x325, x326, x327, x328, x329, x330, x331, x332, x333, x334, x335, x336, x337, x338, x339, x340, x341, x342, x343, x344, x345, x346, x347, x348, x349, x350, x351, x352, x353, x354, x355, x356, x357, x358, x359, x360, x361, x362, x363, x364, x365, x366, x367, x368, x369, x370, x371, x372, x373, x374, x375, x376, x377, x378, x379, x380, x381, x382, x383, x384, x385, x386, x387, x388, x389, x390, x391, x392, x393, x394, x395, x396, x397, x398, x399, x400, x401, x402], []⟩ w := by
  have hu := hQp
  clear hu
  conv => arg 2; whnf
  try dsimp only
  have hu := And.intro hO (And.intro hob (And.intro hIN (And.intro hi (And.intro hok (And.intro htn (And.intro kGT (And.intro hnm hLG)))))))
  clear hu
  obtain rfl := hkd.out
  clear hkd
  have o0 := hO.out.o0
  have o1 := hO.out.o1
  have o2 := hO.out.o2
  have hia := hi.out.2.1
  by_cases hat : at_ < 0
  · cases IN
    · go_wp2
      exact hKK.out _ _ _ _ _ _ _ _ _ _ _ _ _ _ _ _ _ _ _ _ _ _ _ _ _ _ _ _ _ _ _ _ _ _ _ _ _ _ _ _ _ _ _ _ _ _ _ _ _ _ _ _ _ _ _ _ _ _ _ _ _ _ _ _ _ _ _ _ _ _ _ _ _ _ _ _ _ _ _ (Or.inl ⟨rfl, Or.inl hat⟩)
    · go_wp2
      exact hKK.out _ _ _ _ _ _ _ _ _ _ _ _ _ _ _ _ _ _ _ _ _ _ _ _ _ _ _ _ _ _ _ _ _ _ _ _ _ _ _ _ _ _ _ _ _ _ _ _ _ _ _ _ _ _ _ _ _ _ _ _ _ _ _ _ _ _ _ _ _ _ _ _ _ _ _ _ _ _ _ (Or.inl ⟨rfl, Or.inl hat⟩)
  · have hat0 : 0 ≤ at_ := by omega
    by_cases hin : 1 ≤ id ∧ id ≤ 6
    · obtain ⟨d, rfl⟩ : ∃ d : Nat, id = (d : Int) := ⟨id.toNat, by omega⟩
      obtain rfl : IN = true := by rw [hIN.out]; simp; omega
      have hd1 : 1 ≤ d := by omega
      have hd2 : d ≤ 6 := by omega
      have hd3 : (d : Int) < 7 := by omega
      have r0 := hP.out.r.k d hd2
      by_cases hk : K d = 0
      · rw [hk] at r0
        go_wp2
        exact hKK.out _ _ _ _ _ _ _ _ _ _ _ _ _ _ _ _ _ _ _ _ _ _ _ _ _ _ _ _ _ _ _ _ _ _ _ _ _ _ _ _ _ _ _ _ _ _ _ _ _ _ _ _ _ _ _ _ _ _ _ _ _ _ _ _ _ _ _ _ _ _ _ _ _ _ _ _ _ _ _ (Or.inr ⟨hat0, d, rfl, hd1, hd2, Or.inl ⟨rfl, hk⟩⟩)
      · have hk' : ¬ ((K d : Nat) : Int) = 0 := by omega
        by_cases hbig : 4000 < at_
        · go_wp2
          exact hKK.out _ _ _ _ _ _ _ _ _ _ _ _ _ _ _ _ _ _ _ _ _ _ _ _ _ _ _ _ _ _ _ _ _ _ _ _ _ _ _ _ _ _ _ _ _ _ _ _ _ _ _ _ _ _ _ _ _ _ _ _ _ _ _ _ _ _ _ _ _ _ _ _ _ _ _ _ _ _ _ (Or.inr ⟨hat0, d, rfl, hd1, hd2, Or.inr ⟨hk, Or.inl ⟨rfl, hbig⟩⟩⟩)
        · obtain ⟨A, rfl⟩ : ∃ A : Nat, at_ = (A : Int) := ⟨at_.toNat, by omega⟩
          have r1 := hP.out.r.t d hd2
          have hTs := ofB_size (D d)
          have hlen := hP.out.p.s.len hd1 (by rw [htn.out]; exact hd2)
          have hrel : ∀ want : Int, ((want = 15 ∧ ((frN E D : Nat) : Int) < growb ((D d).length : Nat) (A : Int)) ∨ (want = 0 ∧ growb ((D d).length : Nat) (A : Int) ≤ ((frN E D : Nat) : Int))) → Wn E K D (d : Int) (A : Int) (4000 < (A : Int)) (fun _ => (A : Int).toNat) want (A : Int) := fun want h => Or.inr ⟨hat0, d, rfl, hd1, hd2, Or.inr ⟨hk, Or.inr ⟨hbig, by simp, by simpa using h⟩⟩⟩
          have kG := fun wx => refgrow_calls ((D d).length : Int) (A : Int) wx
          have hE := hidden (fun (want : Int) (h : (want = 15 ∧ ((frN E D : Nat) : Int) < growb ((D d).length : Nat) (A : Int)) ∨ (want = 0 ∧ growb ((D d).length : Nat) (A : Int) ≤ ((frN E D : Nat) : Int))) => hrel want h)
          clear hrel
          generalize growb ((D d).length : Nat) (A : Int) = GR at kG hE
          generalize (D d).length = LD at *
          generalize ofBytes (D d) = TX at *
          replace kG := hidden kG
          by_cases hg : ((frN E D : Nat) : Int) < GR
          · rcases Int.le_total (LD : Int) ((A : Int) + (LG : Int)) with hm | hm
            · go_wp2_with fail
              refine (kG.out _).mono ?_
              rintro ev wq ⟨rfl, hwq⟩
              subst wq
              dsimp only
              go_wp2
              exact hKK.out _ _ _ _ _ _ _ _ _ _ _ _ _ _ _ _ _ _ _ _ _ _ _ _ _ _ _ _ _ _ _ _ _ _ _ _ _ _ _ _ _ _ _ _ _ _ _ _ _ _ _ _ _ _ _ _ _ _ _ _ _ _ _ _ _ _ _ _ _ _ _ _ _ _ _ _ _ _ _ (hE.out _ (Or.inl ⟨rfl, hg⟩))
            · go_wp2_with fail
              refine (kG.out _).mono ?_
              rintro ev wq ⟨rfl, hwq⟩
              subst wq
              dsimp only
              go_wp2
              exact hKK.out _ _ _ _ _ _ _ _ _ _ _ _ _ _ _ _ _ _ _ _ _ _ _ _ _ _ _ _ _ _ _ _ _ _ _ _ _ _ _ _ _ _ _ _ _ _ _ _ _ _ _ _ _ _ _ _ _ _ _ _ _ _ _ _ _ _ _ _ _ _ _ _ _ _ _ _ _ _ _ (hE.out _ (Or.inl ⟨rfl, hg⟩))
          · rcases Int.le_total (LD : Int) ((A : Int) + (LG : Int)) with hm | hm
            · go_wp2_with fail
              refine (kG.out _).mono ?_
              rintro ev wq ⟨rfl, hwq⟩
              subst wq
              dsimp only
              go_wp2
              exact hKK.out _ _ _ _ _ _ _ _ _ _ _ _ _ _ _ _ _ _ _ _ _ _ _ _ _ _ _ _ _ _ _ _ _ _ _ _ _ _ _ _ _ _ _ _ _ _ _ _ _ _ _ _ _ _ _ _ _ _ _ _ _ _ _ _ _ _ _ _ _ _ _ _ _ _ _ _ _ _ _ (hE.out _ (Or.inr ⟨rfl, by omega⟩))
            · go_wp2_with fail
              refine (kG.out _).mono ?_
              rintro ev wq ⟨rfl, hwq⟩
              subst wq
              dsimp only
              go_wp2
              exact hKK.out _ _ _ _ _ _ _ _ _ _ _ _ _ _ _ _ _ _ _ _ _ _ _ _ _ _ _ _ _ _ _ _ _ _ _ _ _ _ _ _ _ _ _ _ _ _ _ _ _ _ _ _ _ _ _ _ _ _ _ _ _ _ _ _ _ _ _ _ _ _ _ _ _ _ _ _ _ _ _ (hE.out _ (Or.inr ⟨rfl, by omega⟩))
    · obtain rfl : IN = false := by rw [hIN.out]; simpa using hin
      go_wp2
      exact hKK.out _ _ _ _ _ _ _ _ _ _ _ _ _ _ _ _ _ _ _ _ _ _ _ _ _ _ _ _ _ _ _ _ _ _ _ _ _ _ _ _ _ _ _ _ _ _ _ _ _ _ _ _ _ _ _ _ _ _ _ _ _ _ _ _ _ _ _ _ _ _ _ _ _ _ _ _ _ _ _ (Or.inl ⟨rfl, Or.inr hin⟩)
end Go.Proofs.YtdkpffpjbpfdnaaGreatDoor
/- InodePlays: the row behind a Cut. -/
namespace Go.Proofs.YtdkpffpjbpfdnaaGreatDoor
open Go.RowKit Go.Extern.Stop Go.Stop Go.Extern Go.Maps Go.Sort Go.Shelf
set_option maxRecDepth 1000000

set_option maxHeartbeats 8000000 in
theorem ip_81 (rb ob d S2 : Nat) (K : Nat → Nat) (D : Nat → List Int) (w : World) (hR : Hid (RwAt rb K D w)) (ho1 : Hid (w.cell? ⟨ob, 1, none⟩ = some (.int .i64 (d : Int)))) (hne : ob ≠ rb) (hd : d ≤ 6) (hL : (D d).length ≤ 4000) (hS : S2 ≤ 4000)
    (x0 x1 x2 x3 x4 x5 x6 x7 x9 x11 x12 x13 x14 x15 x16 x17 x18 x19 x20 x22 x23 x24 x25 x26 x27 x28 x29 x30 x31 x32 x33 x34 x35 x36 x37 x38 x39 x40 x41 x42 x43 x44 x45 x46 x47 x48 x49 x50 x51 x52 x53 x54 x55 x56 x57 x58 x59 x60 x61 x62 x63 x64 x65 x66 x67 x68 x69 x70 x71 x72 x73 x74 x75 x76 x77 x78 x79 x80 x81 x82 x83 x84 x85 x86 x87 x88 x89 x90 x91 x92 x93 x94 x95 x96 x97 x98 x99 x100 x101 x102 x103 x104 x105 x106 x107 x108 x109 x110 x111 x112 x113 x114 x115 x116 x117 x118 x119 x120 x121 x122 x123 x124 x125 x126 x127 x128 x129 x130 x131 x132 x133 x134 x135 x136 x137 x138 x139 x140 x141 x142 x143 x144 x145 x146 x147 x148 x149 x150 x151 x152 x153 x154 x155 x156 x157 x158 x159 x160 x161 x162 x163 x164 x165 x166 x167 x168 x169 x170 x171 x172 x173 x174 x175 x176 x177 x178 x179 x180 x181 x182 x183 x184 x185 x186 x187 x188 x189 x190 x191 x192 x193 x194 x195 x196 x197 x198 x199 x200 x201 x202 x203 x204 x205 x206 x207 x208 x209 x210 x211 x212 x213 x214 x215 x216 x217 x218 x219 x220 x221 x222 x223 x224 x225 x226 x227 x228 x229 x230 x231 x232 x233 x234 x235 x236 x237 x238 x239 x240 x241 x242 x243 x244 x245 x246 x247 x248 x249 x250 x251 x252 x253 x254 x255 x256 x257 x258 x259 x260 x261 x262 x263 x264 x265 x266 x267 x268 x269 x270 x271 x272 x273 x274 x275 x276 x277 x278 x279 x280 x281 x282 x283 x284 x285 x286 x287 x288 x289 x290 x291 x292 x293 x294 x295 x296 x297 x298 x299 x300 x301 x302 x303 x304 x305 x306 x307 x308 x309 x310 x311 x312 x313 x314 x315 x316 x317 x318 x319 x320 x321 x322 x323 x324 x325 x326 x327 x328 x329 x330 x331 x332 x333 x334 x335 x336 x337 x338 x339 x340 x341 x342 x343 x344 x345 x346 x347 x348 x349 x350 x351 x352 x353 x354 x355 x356 x357 x358 x359 x360 x361 x362 x363 x364 x365 x366 x367 x368 x369 x370 x371 x372 x373 x374 x375 x376 x377 x378 x379 x380 x381 x382 x383 x384 x385 x386 x387 x388 x389 x390 x391 x392 x393 x394 x395 x396 x397 x398 x399 x400 x401 x402 : Value) (KK : Act → World → Prop) (Q : Exit → Act → World → Prop)
    (hKK : Hid (∀ (v379 v380 v381 v382 v383 v384 v385 v386 v387 v388 v389 v390 v391 : Value)  (w' : World), RwAt rb K (upd D d (cutL (D d) S2)) w' ∧ Below rb w w' → KK ⟨#[x0, x1, x2, x3, x4, x5, x6, x7, .pointer (some ⟨rb, 0, none⟩), x9, .pointer (some ⟨ob, 0, none⟩), x11, x12, x13, x14, x15, x16, x17, x18, x19, x20, .int .i64 (S2 : Int), x22, x23, x24, x25, x26, x27, x28, x29, x30, x31, x32, x33, x34, x35, x36, x37, x38, x39, x40, x41, x42, x43, x44, x45, x46, x47, x48, x49, x50, x51, x52, x53, x54, x55, x56, x57, x58, x59, x60, x61, x62, x63, x64, x65, x66, x67, x68, x69, x70, x71, x72, x73, x74, x75, x76, x77, x78, x79, x80, x81, x82, x83, x84, x85, x86, x87, x88, x89, x90, x91, x92, x93, x94, x95, x96, x97, x98, x99, x100, x101, x102, x103, x104, x105, x106, x107, x108, x109, x110, x111, x112, x113, x114, x115, x116, x117, x118, x119, x120, x121, x122, x123, x124, x125, x126, x127, x128, x129, x130, x131, x132, x133, x134, x135, x136, x137, x138, x139, x140, x141, x142, x143, x144, x145, x146, x147, x148, x149, x150, x151, x152, x153, x154, x155, x156, x157, x158, x159, x160, x161, x162, x163, x164, x165, x166, x167, x168, x169, x170, x171, x172, x173, x174, x175, x176, x177, x178, x179, x180, x181, x182, x183, x184, x185, x186, x187, x188, x189, x190, x191, x192, x193, x194, x195, x196, x197, x198, x199, x200, x201, x202, x203, x204, x205, x206, x207, x208, x209, x210, x211, x212, x213, x214, x215, x216, x217, x218, x219, x220, x221, x222, x223, x224, x225, x226, x227, x228, x229, x230, x231, x232, x233, x234, x235, x236, x237, x238, x239, x240, x241, x242, x243, x244, x245, x246, x247, x248, x249, x250, x251, x252, x253, x254, x255, x256, x257, x258, x259, x260, x261, x262, x263, x264, x265, x266, x267, x268, x269, x270, x271, x272, x273, x274, x275, x276, x277, x278, x279, x280, x281, x282, x283, x284, x285, x286, x287, x288, x289, x290, x291, x292, x293, x294, x295, x296, x297, x298, x299, x300, x301, x302, x303, x304, x305, x306, x307, x308, x309, x310, x311, x312, x313, x314, x315, x316, x317, x318, x319, x320, x321, x322, x323, x324, x325, x326, x327, x328, x329, x330, x331, x332, x333, x334, x335, x336, x337, x338, x339, x340, x341, x342, x343, x344, x345, x346, x347, x348, x349, x350, x351, x352, x353, x354, x355, x356, x357, x358, x359, x360, x361, x362, x363, x364, x365, x366, x367, x368, x369, x370, x371, x372, x373, x374, x375, x376, x377, x378, v379, v380, v381, v382, v383, v384, v385, v386, v387, v388, v389, v390, v391, x392, x393, x394, x395, x396, x397, x398, x399, x400, x401, x402], []⟩ w'))
    (hQp : Hid (∀ x a a' w, Q (.panic x) a w → a.defers = a'.defers → Q (.panic x) a' w)) :
    Code.wp Tryz.prog (((Tryz.f3.body.bind (regionAt 81)).getD .skip)) (Exit.then KK Q) ⟨#[x0, x1, x2, x3, x4, x5, x6, x7, .pointer (some ⟨rb, 0, none⟩), x9, .pointer (some ⟨ob, 0, none⟩), x11, x12, x13, x14, x15, x16, x17, x18, x19, x20, .int .i64 (S2 : Int), x22, x23, x24, x25, x26, x27, x28, x29, x30, x31, x32, x33, x34, x35, x36, x37, x38, x39, x40, x41, x42, x43, x44, x45, x46, x47, x48, x49, x50, x51, x52, x53, x54, x55, x56, x57, x58, x59, x60, x61, x62, x63, x64, x65, x66, x67, x68, x69, x70, x71, x72, x73, x74, x75, x76, x77, x78, x79, x80, x81, x82, x83, x84, x85, x86, x87, x88, x89, x90, x91, x92, x93, x94, x95, x96, x97, x98, x99, x100, x101, x102, x103, x104, x105, x106, x107, x108, x109, x110, x111, x112, x113, x114, x115, x116, x117, x118, x119, x120, x121, x122, x123, x124, x125, x126, x127, x128, x129, x130, x131, x132, x133, x134, x135, x136, x137, x138, x139, x140, x141, x142, x143, x144, x145, x146, x147, x148, x149, x150, x151, x152, x153, x154, x155, x156, x157, x158, x159, x160, x161, x162, x163, x164, x165, x166, x167, x168, x169, x170, x171, x172, x173, x174, x175, x176, x177, x178, x179, x180, x181, x182, x183, x184, x185, x186, x187, x188, x189, x190, x191, x192, x193, x194, x195, x196, x197, x198, x199, x200, x201, x202, x203, x204, x205, x206, x207, x208, x209, x210, x211, x212, x213, x214, x215, x216, x217, x218, x219, x220, x221, x222, x223, x224, x225, x226, x227, x228, x229, x230, x231, x232, x233, x234, x235, x236, x237, x238, x239, x240, x241, x242, x243, x244, x245, x246, x247, x248, x249, x250, x251, x252, x253, x254, x255, x256, x257, x258, x259, x260, x261, x262, x263, x264, x265, x266, x267, x268, x269, x270, x271, x272, x273, x274, x275, x276, x277, x278, x279, x280, x281, x282, x283, x284, x285, x286, x287, x288, x289, x290, x291, x292, x293, x294, x295, x296, x297, x298, x299, x300, x301, x302, x303, x304, x305, x306, x307, x308, x309, x310, x311, x312, x313, x314, x315, x316, x317, x318, x319, x320, x321, x322, x323, x324, x325, x326, x327, x328, x329, x330, x331, x332, x333, x334, x335, x336, x337, x338, x339, x340, x341, x342, x343, x344, x345, x346, x347, x348, x349, x350, x351, x352, x353, x354, x355, x356, x357, x358, x359, x360, x361, x362, x363, x364, x365, x366, x367, x368, x369, x370, x371, x372, x373, x374, x375, x376, x377, x378, x379, x380, x381, x382, x383, x384, x385, x386, x387, x388, x389, x390, x391, x392, x393, x394, x395, x396, x397, x398, x399, x400, x401, x402], []⟩ w := by
  have hu := hQp
  clear hu
  conv => arg 2; whnf
  try dsimp only
  have hS0 : SApI rb w w.drew := SApI.mk (Apart.of_below (below_drew1 w))
  have hob := lt_of_cell ho1.out
  have ko := hidden (fun (wx : World) (hx : SApI rb w wx) => show wx.cell? ⟨ob, 1, none⟩ = some (.int .i64 (d : Int)) from (hx.out.cell (p := ⟨ob, 1, none⟩) hob (by simpa using hne)).trans ho1.out)
  have c6 := hidden (show w.drew.cell? ⟨rb, d * 2 + 1, none⟩ = some (.string (ofBytes (D d))) from hR.out.t d hd)
  have kGr := hidden (fun (wx : World) => grown_calls (D d) S2 (by omega) (by omega) wx)
  have hGs := ofB_size (grownL (D d) S2)
  have hgl : S2 ≤ (grownL (D d) S2).length := by unfold grownL; rw [List.length_append, List.length_replicate]; omega
  have hGx : Hid ((ofBytes (grownL (D d) S2)).extract 0 S2 = ofBytes (cutL (D d) S2)) := hidden (by rw [ofB_cut, List.drop_zero]; rfl)
  have hEnd := hidden (fun (wq : World) (hb : Below w.heap.size w wq) => show RwAt rb K (upd D d (cutL (D d) S2)) (wq.setCell ⟨rb, d * 2 + 1, none⟩ (.string (ofBytes (cutL (D d) S2)))) ∧ Below rb w (wq.setCell ⟨rb, d * 2 + 1, none⟩ (.string (ofBytes (cutL (D d) S2)))) from
    ⟨(hR.out.keep (Apart.of_below (bs := []) hb) (by simp)).setT hd _, (hb.mono (Nat.le_of_lt hR.out.lt)).setCell (p := ⟨rb, d * 2 + 1, none⟩) (Nat.le_refl _) _⟩)
  have hd7 : (d : Int) < 7 := by omega
  rw [← hGs] at hgl
  generalize ofBytes (grownL (D d) S2) = G at *
  generalize ofBytes (D d) = TX at *
  generalize ofBytes (cutL (D d) S2) = TC at *
  clear hGs
  refine wp_region_held_drew (S := SApI rb w) (by kernel_rfl) hS0 ?_
  intro _
  refine wpAnyH_take (i := 0) (v := ?_) rfl (by kernel_rfl) (by kernel_rfl) (by kernel_rfl) (fun _ _ _ h => hQp.out _ _ _ _ h rfl) (Or.inl ⟨by rfl, ?_⟩) hS0 ?_
  rotate_left
  · intro w hw; clear hw; go_simp; try (with_reducible rfl)
  refine wpAnyH_take (i := 1) (v := ?_) rfl (by kernel_rfl) (by kernel_rfl) (by kernel_rfl) (fun _ _ _ h => hQp.out _ _ _ _ h rfl) (Or.inl ⟨by rfl, ?_⟩) hS0 ?_
  rotate_left
  · intro w hw; have c1 := ko.out _ hw; clear hw; go_simp; try (with_reducible rfl)
  refine wpAnyH_take (i := 2) (v := ?_) rfl (by kernel_rfl) (by kernel_rfl) (by kernel_rfl) (fun _ _ _ h => hQp.out _ _ _ _ h rfl) (Or.inl ⟨by rfl, ?_⟩) hS0 ?_
  rotate_left
  · intro w hw; clear hw; go_simp; try (with_reducible rfl)
  refine wpAnyH_take (i := 3) (v := ?_) rfl (by kernel_rfl) (by kernel_rfl) (by kernel_rfl) (fun _ _ _ h => hQp.out _ _ _ _ h rfl) (Or.inl ⟨by rfl, ?_⟩) hS0 ?_
  rotate_left
  · intro w hw; have c1 := ko.out _ hw; clear hw; go_simp; try (with_reducible rfl)
  refine wpAnyH_take (i := 4) (v := ?_) rfl (by kernel_rfl) (by kernel_rfl) (by kernel_rfl) (fun _ _ _ h => hQp.out _ _ _ _ h rfl) (Or.inl ⟨by rfl, ?_⟩) hS0 ?_
  rotate_left
  · intro w hw; clear hw; go_simp; try (with_reducible rfl)
  refine wpAnyH_take (i := 5) (v := ?_) rfl (by kernel_rfl) (by kernel_rfl) (by kernel_rfl) (fun _ _ _ h => hQp.out _ _ _ _ h rfl) (Or.inl ⟨by rfl, ?_⟩) hS0 ?_
  rotate_left
  · intro w hw; clear hw; go_simp; try (with_reducible rfl)
  refine wpAnyH_take (i := 7) (v := ?_) rfl (by kernel_rfl) (by kernel_rfl) (by kernel_rfl) (fun _ _ _ h => hQp.out _ _ _ _ h rfl) (Or.inl ⟨by rfl, ?_⟩) hS0 ?_
  rotate_left
  · intro w hw; clear hw; go_simp; try (with_reducible rfl)
  refine wpAnyH_take (i := 9) (v := ?_) rfl (by kernel_rfl) (by kernel_rfl) (by kernel_rfl) (fun _ _ _ h => hQp.out _ _ _ _ h rfl) (Or.inl ⟨by rfl, ?_⟩) hS0 ?_
  rotate_left
  · intro w hw; clear hw; go_simp; try (with_reducible rfl)
  refine wpAnyH_ready (rs := [6]) (by kernel_rfl) (by simp) ?_
  refine AllReadyH.cons rfl (fun K hK => ?_) AllReadyH.nil
  have c1 := c6.out
  go_simp
  refine hK.out _ _ hS0 (fun _ => ?_)
  clear hK K
  refine wpAnyH_ready (rs := [8]) (by kernel_rfl) (by simp) ?_
  refine AllReadyH.cons rfl (fun K hK => ?_) AllReadyH.nil
  go_simp
  go_wp2_with (go_at_call 20; refine (kGr.out _).mono ?_; rintro ev wq ⟨rfl, hBq⟩)
  refine hK.out _ _ (SApI.more hS0 (Apart.of_below hBq)) (fun hSn1 => ?_)
  have hbq := hidden ((below_drew1 w).trans hBq)
  clear hBq
  have hRq := hR.out.keep (Apart.of_below (bs := []) hbq.out) (by simp)
  have c13 := hRq.t d hd
  have f13 := hRq.free (d * 2 + 1) (by omega)
  clear hRq
  clear hK K
  refine wpAnyH_ready (rs := [10]) (by kernel_rfl) (by simp) ?_
  refine AllReadyH.cons rfl (fun K hK => ?_) AllReadyH.nil
  go_simp
  refine hK.out _ _ hSn1 (fun _ => ?_)
  clear hK K
  refine wpAnyH_ready (rs := [11]) (by kernel_rfl) (by simp) ?_
  refine AllReadyH.cons rfl (fun K hK => ?_) AllReadyH.nil
  go_simp
  refine hK.out _ _ hSn1 (fun _ => ?_)
  clear hK K
  refine wpAnyH_ready (rs := [12]) (by kernel_rfl) (by simp) ?_
  refine AllReadyH.cons rfl (fun K hK => ?_) AllReadyH.nil
  go_simp
  refine hK.out _ _ hSn1 (fun _ => ?_)
  clear hK K
  refine wpAnyH_ready (rs := [13]) (by kernel_rfl) (by simp) ?_
  refine AllReadyH.cons rfl (fun K hK => ?_) AllReadyH.nil
  go_simp
  refine hK.out _ _ (SApI.more hSn1 (apart_set wq rb (d * 2 + 1) _)) (fun hSn2 => ?_)
  clear hK K
  refine wpAnyH_done (by kernel_rfl) ?_ _
  have hz := hEnd.out _ hbq.out
  rw [← hGx.out] at hz
  go_wp2
  exact hKK.out _ _ _ _ _ _ _ _ _ _ _ _ _ _ hz
end Go.Proofs.YtdkpffpjbpfdnaaGreatDoor
