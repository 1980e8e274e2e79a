/- FsSwaps: two files put. -/
import Derived.Test.YtjionogjeafffaaGreatDoorGWm
import Derived.Deep.CutBlock
namespace Go.Proofs.YtjionogjeafffaaGreatDoor
open Go.RowKit Go.Extern.Stop Go.Stop Go.Extern Go.Maps Go.Sort Go.Shelf
set_option maxRecDepth 1000000

set_option maxHeartbeats 8000000 in
theorem sw5 (w : World) (fb hb xb : Nat) (E : TE) (lim : Nat) (xs ys : List Int) (hlim : Hid (lim ≤ 100000)) (TX TY : ByteArray) (hTX : Hid (ofBytes xs = TX)) (hTY : Hid (ofBytes ys = TY)) (hxr : Hid (∀ z ∈ xs, 0 ≤ z ∧ z ≤ 255)) (hyr : Hid (∀ z ∈ ys, 0 ≤ z ∧ z ≤ 255)) (hxl : Hid (xs.length ≤ 3000)) (hyl : Hid (ys.length ≤ 3000)) (hR : Hid (SwR fb hb xb E lim .new w))
    (x0 x1 x2 x3 x4 x8 x9 x10 x11 x12 x13 x14 x15 x16 x17 x18 x19 x20 x21 x22 x23 x24 x25 x26 x27 x28 x29 x30 x31 x32 x33 x34 x35 x36 x37 x38 x39 x40 x41 x42 x43 x44 x45 x46 x47 x48 x49 x50 x51 x52 x53 x54 x55 x56 x57 x58 x59 x60 x61 x62 x63 x64 x65 x66 x67 x68 x69 x70 x71 x72 x73 x74 x75 x76 x77 x78 x79 x80 x81 x82 x83 x84 x85 x86 x87 x88 x89 x90 x91 x92 x93 x94 x95 x96 x97 x98 x99 x100 x101 x102 x103 x104 x105 x106 x107 x108 x109 x110 x111 x112 x113 x114 x115 x116 x117 x118 x119 x120 x121 x122 x123 x124 x125 x126 x127 x128 x129 x130 x131 x132 x133 x134 x135 x136 x137 x138 x139 x140 x141 x142 x143 x144 x145 x146 x147 x148 x149 x150 x151 x152 x153 x154 x155 x156 x157 x158 x159 x160 x161 x162 x163 x164 : Value) (KK : Act → World → Prop) (Q : Exit → Act → World → Prop)
    (hKK : Hid (∀ (v27 v28 v29 v30 v31 v32 v33 v34 v35 v36 v37 v38 v39 v40 v41 v42 v43 : Value)  (w' : World), SwR fb hb xb E.rest.rest (lim + 1000 + 1000) (.two [⟨[97], 2⟩, ⟨[98], 3⟩] xs ys) w' → KK ⟨#[x0, x1, x2, x3, x4, ptr xb, .string TX, .string TY, x8, x9, x10, x11, x12, x13, x14, x15, x16, x17, x18, x19, x20, x21, x22, x23, x24, x25, x26, v27, v28, v29, v30, v31, v32, v33, v34, v35, v36, v37, v38, v39, v40, v41, v42, v43, .bool false, x45, x46, x47, x48, x49, x50, x51, x52, x53, x54, x55, x56, x57, x58, x59, x60, x61, x62, x63, x64, x65, x66, x67, x68, x69, x70, x71, x72, x73, x74, x75, x76, x77, x78, x79, x80, x81, x82, x83, x84, x85, x86, x87, x88, x89, x90, x91, x92, x93, x94, x95, x96, x97, x98, x99, x100, x101, x102, x103, x104, x105, x106, x107, x108, x109, x110, x111, x112, x113, x114, x115, x116, x117, x118, x119, x120, x121, x122, x123, x124, x125, x126, x127, x128, x129, x130, x131, x132, x133, x134, x135, x136, x137, x138, x139, x140, x141, x142, x143, x144, x145, x146, x147, x148, x149, x150, x151, x152, x153, x154, x155, x156, x157, x158, x159, x160, x161, x162, x163, x164], []⟩ w'))
    (hQp : Hid (∀ x a a' w, Q (.panic x) a w → a.defers = a'.defers → Q (.panic x) a' w)) :
    Code.wp Tryz.prog (((Tryz.f4.body.bind (regionAt 5)).getD .skip)) (Exit.then KK Q) ⟨#[x0, x1, x2, x3, x4, ptr xb, .string TX, .string TY, x8, x9, x10, x11, x12, x13, x14, x15, x16, x17, x18, x19, x20, x21, x22, x23, x24, x25, x26, x27, x28, x29, x30, x31, x32, x33, x34, x35, x36, x37, x38, x39, x40, x41, x42, x43, x44, x45, x46, x47, x48, x49, x50, x51, x52, x53, x54, x55, x56, x57, x58, x59, x60, x61, x62, x63, x64, x65, x66, x67, x68, x69, x70, x71, x72, x73, x74, x75, x76, x77, x78, x79, x80, x81, x82, x83, x84, x85, x86, x87, x88, x89, x90, x91, x92, x93, x94, x95, x96, x97, x98, x99, x100, x101, x102, x103, x104, x105, x106, x107, x108, x109, x110, x111, x112, x113, x114, x115, x116, x117, x118, x119, x120, x121, x122, x123, x124, x125, x126, x127, x128, x129, x130, x131, x132, x133, x134, x135, x136, x137, x138, x139, x140, x141, x142, x143, x144, x145, x146, x147, x148, x149, x150, x151, x152, x153, x154, x155, x156, x157, x158, x159, x160, x161, x162, x163, x164], []⟩ w := by
  have hu := hQp
  clear hu
  conv => arg 2; whnf
  try dsimp only
  have hR3 := hR.out
  obtain ⟨cap4, w4, hcv4, hbc4, hB4⟩ := bytes_of E.mb w xs hxr.out (by have := hxl.out; omega) hR3.st.lts.1.2.2.2.2.1
  rw [hTX.out] at hcv4
  have c3 := hR3.x1
  have l3 := lt_of_cell (a := ⟨xb, 1, none⟩) c3
  have kP := hidden (sw_putA (hR3.below hB4) hbc4 hxl.out (by have := hlim.out; omega))
  clear hR3 hbc4 hB4 hR
  go_wp2_with fail
  refine (kP.out).mono ?_
  rintro ev w5 ⟨rfl, hR5⟩
  obtain ⟨cap6, w6, hcv6, hbc6, hB6⟩ := bytes_of E.rest.mb w5 ys hyr.out (by have := hyl.out; omega) hR5.st.lts.1.2.2.2.2.1
  rw [hTY.out] at hcv6
  have c5 := hR5.x1
  have l5 := lt_of_cell (a := ⟨xb, 1, none⟩) c5
  have kP2 := hidden (sw_putB (hR5.below hB6) hbc6 hyl.out (by have := hlim.out; omega))
  clear hcv4 c3 l3 kP hR5 hbc6 hB6
  go_wp2_with fail
  refine (kP2.out).mono ?_
  rintro ev w7 ⟨rfl, hR7⟩
  replace hR7 := hidden hR7
  clear hcv6 c5 l5 kP2
  go_wp2
  exact hKK.out _ _ _ _ _ _ _ _ _ _ _ _ _ _ _ _ _ _ hR7.out
end Go.Proofs.YtjionogjeafffaaGreatDoor
/- FsSwaps: three names turned. -/
namespace Go.Proofs.YtjionogjeafffaaGreatDoor
open Go.RowKit Go.Extern.Stop Go.Stop Go.Extern Go.Maps Go.Sort Go.Shelf
set_option maxRecDepth 1000000

theorem swTurn1 {tn : Nat} (h : tn = 12) : TurnsT swK (swT [⟨[97], 2⟩, ⟨[98], 3⟩]) tn [47, 97] [47, 116] [] [97] [116] 1 0 ⟨[97], 2⟩ [[2]] := ⟨by simp, by simp, by decide, by decide, by decide, by decide, by rfl, by rfl, rfl, by rfl, by rfl, lv_file (by decide) (by show 2 ≤ tn; omega) (by decide), by simp⟩
theorem swTurn2 {tn : Nat} (h : tn = 12) : TurnsT swK (swT [⟨[116], 2⟩, ⟨[98], 3⟩]) tn [47, 98] [47, 97] [] [98] [97] 1 1 ⟨[98], 3⟩ [[3]] := ⟨by simp, by simp, by decide, by decide, by decide, by decide, by rfl, by rfl, rfl, by rfl, by rfl, lv_file (by decide) (by show 3 ≤ tn; omega) (by decide), by simp⟩
theorem swTurn3 {tn : Nat} (h : tn = 12) : TurnsT swK (swT [⟨[116], 2⟩, ⟨[97], 3⟩]) tn [47, 116] [47, 98] [] [116] [98] 1 0 ⟨[116], 2⟩ [[2]] := ⟨by simp, by simp, by decide, by decide, by decide, by decide, by rfl, by rfl, rfl, by rfl, by rfl, lv_file (by decide) (by show 2 ≤ tn; omega) (by decide), by simp⟩
section
variable {fb hb xb : Nat} {E : TE} {w : World} {lim : Nat} {xs ys : List Int}
theorem sw_t1 (h : SwR fb hb xb E lim (.two [⟨[97], 2⟩, ⟨[98], 3⟩] xs ys) w) (hlim : lim ≤ 300000000) : Calls Tryz.prog 16 #[ptr fb, .string ⟨#[47, 97]⟩, .string ⟨#[47, 116]⟩] w fun e w' => e = .returned .nilIface ∧ SwR fb hb xb E.rest (lim + 1000) (.two [⟨[116], 2⟩, ⟨[98], 3⟩] xs ys) w' := sw_turn h (swTurn1 h.tn) hlim
theorem sw_t2 (h : SwR fb hb xb E lim (.two [⟨[116], 2⟩, ⟨[98], 3⟩] xs ys) w) (hlim : lim ≤ 300000000) : Calls Tryz.prog 16 #[ptr fb, .string ⟨#[47, 98]⟩, .string ⟨#[47, 97]⟩] w fun e w' => e = .returned .nilIface ∧ SwR fb hb xb E.rest (lim + 1000) (.two [⟨[116], 2⟩, ⟨[97], 3⟩] xs ys) w' := sw_turn h (swTurn2 h.tn) hlim
theorem sw_t3 (h : SwR fb hb xb E lim (.two [⟨[116], 2⟩, ⟨[97], 3⟩] xs ys) w) (hlim : lim ≤ 300000000) : Calls Tryz.prog 16 #[ptr fb, .string ⟨#[47, 116]⟩, .string ⟨#[47, 98]⟩] w fun e w' => e = .returned .nilIface ∧ SwR fb hb xb E.rest (lim + 1000) (.two [⟨[98], 2⟩, ⟨[97], 3⟩] xs ys) w' := sw_turn h (swTurn3 h.tn) hlim
end
set_option maxHeartbeats 8000000 in
theorem sw7 (w : World) (fb hb xb : Nat) (E : TE) (lim : Nat) (xs ys : List Int) (hlim : Hid (lim ≤ 100000)) (hR : Hid (SwR fb hb xb E lim (.two [⟨[97], 2⟩, ⟨[98], 3⟩] xs ys) w))
    (x0 x1 x2 x3 x4 x6 x7 x8 x9 x10 x11 x12 x13 x14 x15 x16 x17 x18 x19 x20 x21 x22 x23 x24 x25 x26 x27 x28 x29 x30 x31 x32 x33 x34 x35 x36 x37 x38 x39 x40 x41 x42 x43 x44 x45 x46 x47 x48 x49 x50 x51 x52 x53 x54 x55 x56 x57 x58 x59 x60 x61 x62 x63 x64 x65 x66 x67 x68 x69 x70 x71 x72 x73 x74 x75 x76 x77 x78 x79 x80 x81 x82 x83 x84 x85 x86 x87 x88 x89 x90 x91 x92 x93 x94 x95 x96 x97 x98 x99 x100 x101 x102 x103 x104 x105 x106 x107 x108 x109 x110 x111 x112 x113 x114 x115 x116 x117 x118 x119 x120 x121 x122 x123 x124 x125 x126 x127 x128 x129 x130 x131 x132 x133 x134 x135 x136 x137 x138 x139 x140 x141 x142 x143 x144 x145 x146 x147 x148 x149 x150 x151 x152 x153 x154 x155 x156 x157 x158 x159 x160 x161 x162 x163 x164 : Value) (KK : Act → World → Prop) (Q : Exit → Act → World → Prop)
    (hKK : Hid (∀ (v45 v46 v47 v48 v49 v50 v51 v52 v53 v54 v55 v56 v57 v58 v59 v60 v61 v62 v63 v64 v65 : Value)  (w' : World), SwR fb hb xb E.rest.rest.rest (lim + 1000 + 1000 + 1000) (.two [⟨[98], 2⟩, ⟨[97], 3⟩] xs ys) w' → KK ⟨#[x0, x1, x2, x3, x4, ptr xb, x6, x7, x8, x9, x10, x11, x12, x13, x14, x15, x16, x17, x18, x19, x20, x21, x22, x23, x24, x25, x26, x27, x28, x29, x30, x31, x32, x33, x34, x35, x36, x37, x38, x39, x40, x41, x42, x43, x44, v45, v46, v47, v48, v49, v50, v51, v52, v53, v54, v55, v56, v57, v58, v59, v60, v61, v62, v63, v64, v65, .bool false, x67, x68, x69, x70, x71, x72, x73, x74, x75, x76, x77, x78, x79, x80, x81, x82, x83, x84, x85, x86, x87, x88, x89, x90, x91, x92, x93, x94, x95, x96, x97, x98, x99, x100, x101, x102, x103, x104, x105, x106, x107, x108, x109, x110, x111, x112, x113, x114, x115, x116, x117, x118, x119, x120, x121, x122, x123, x124, x125, x126, x127, x128, x129, x130, x131, x132, x133, x134, x135, x136, x137, x138, x139, x140, x141, x142, x143, x144, x145, x146, x147, x148, x149, x150, x151, x152, x153, x154, x155, x156, x157, x158, x159, x160, x161, x162, x163, x164], []⟩ w'))
    (hQp : Hid (∀ x a a' w, Q (.panic x) a w → a.defers = a'.defers → Q (.panic x) a' w)) :
    Code.wp Tryz.prog (((Tryz.f4.body.bind (regionAt 7)).getD .skip)) (Exit.then KK Q) ⟨#[x0, x1, x2, x3, x4, ptr xb, x6, x7, x8, x9, x10, x11, x12, x13, x14, x15, x16, x17, x18, x19, x20, x21, x22, x23, x24, x25, x26, x27, x28, x29, x30, x31, x32, x33, x34, x35, x36, x37, x38, x39, x40, x41, x42, x43, x44, x45, x46, x47, x48, x49, x50, x51, x52, x53, x54, x55, x56, x57, x58, x59, x60, x61, x62, x63, x64, x65, x66, x67, x68, x69, x70, x71, x72, x73, x74, x75, x76, x77, x78, x79, x80, x81, x82, x83, x84, x85, x86, x87, x88, x89, x90, x91, x92, x93, x94, x95, x96, x97, x98, x99, x100, x101, x102, x103, x104, x105, x106, x107, x108, x109, x110, x111, x112, x113, x114, x115, x116, x117, x118, x119, x120, x121, x122, x123, x124, x125, x126, x127, x128, x129, x130, x131, x132, x133, x134, x135, x136, x137, x138, x139, x140, x141, x142, x143, x144, x145, x146, x147, x148, x149, x150, x151, x152, x153, x154, x155, x156, x157, x158, x159, x160, x161, x162, x163, x164], []⟩ w := by
  have hu := hQp
  clear hu
  conv => arg 2; whnf
  try dsimp only
  have hl := hlim.out
  have c7 := hR.out.x1
  have l7 := lt_of_cell (a := ⟨xb, 1, none⟩) c7
  have kA := hidden (sw_t1 hR.out (by omega))
  clear hR
  go_wp2_with fail
  refine (kA.out).mono ?_
  rintro ev w8 ⟨rfl, hR8⟩
  have c8 := hR8.x1
  have l8 := lt_of_cell (a := ⟨xb, 1, none⟩) c8
  have kB := hidden (sw_t2 hR8 (by omega))
  clear c7 l7 kA hR8
  go_wp2_with fail
  refine (kB.out).mono ?_
  rintro ev w9 ⟨rfl, hR9⟩
  have c9 := hR9.x1
  have l9 := lt_of_cell (a := ⟨xb, 1, none⟩) c9
  have kC := hidden (sw_t3 hR9 (by omega))
  clear c8 l8 kB hR9
  go_wp2_with fail
  refine (kC.out).mono ?_
  rintro ev wA ⟨rfl, hRA⟩
  replace hRA := hidden hRA
  clear c9 l9 kC
  go_wp2
  exact hKK.out _ _ _ _ _ _ _ _ _ _ _ _ _ _ _ _ _ _ _ _ _ _ hRA.out
end Go.Proofs.YtjionogjeafffaaGreatDoor
/- FsSwaps: a file got. -/
namespace Go.Proofs.YtjionogjeafffaaGreatDoor
open Go.RowKit Go.Extern.Stop Go.Stop Go.Extern Go.Maps Go.Sort Go.Shelf
set_option maxRecDepth 1000000

set_option maxHeartbeats 8000000 in
theorem sw9 (w : World) (fb hb xb : Nat) (E : TE) (lim : Nat) (xs ys : List Int) (hlim : Hid (lim ≤ 100000)) (nz : Nat) (hnz : Hid (ys.length = nz)) (hR : Hid (SwR fb hb xb E lim (.two [⟨[98], 2⟩, ⟨[97], 3⟩] xs ys) w))
    (x0 x1 x2 x3 x4 x6 x7 x8 x9 x10 x11 x12 x13 x14 x15 x16 x17 x18 x19 x20 x21 x22 x23 x24 x25 x26 x27 x28 x29 x30 x31 x32 x33 x34 x35 x36 x37 x38 x39 x40 x41 x42 x43 x44 x45 x46 x47 x48 x49 x50 x51 x52 x53 x54 x55 x56 x57 x58 x59 x60 x61 x62 x63 x64 x65 x66 x67 x68 x69 x70 x71 x72 x73 x74 x75 x76 x77 x78 x79 x80 x81 x82 x83 x84 x85 x86 x87 x88 x89 x90 x91 x92 x93 x94 x95 x96 x97 x98 x99 x100 x101 x102 x103 x104 x105 x106 x107 x108 x109 x110 x111 x112 x113 x114 x115 x116 x117 x118 x119 x120 x121 x122 x123 x124 x125 x126 x127 x128 x129 x130 x131 x132 x133 x134 x135 x136 x137 x138 x139 x140 x141 x142 x143 x144 x145 x146 x147 x148 x149 x150 x151 x152 x153 x154 x155 x156 x157 x158 x159 x160 x161 x162 x163 x164 : Value) (KK : Act → World → Prop) (Q : Exit → Act → World → Prop)
    (hKK : Hid (∀ (v67 v68 v69 v70 v71 v72 v73 v74 : Value) (ga : Option Addr) (gc : Nat) (w' : World), OwnV w.heap.size w' (.slice ga nz gc) ys ∧ SwR fb hb xb E.rest (lim + 1000) (.two [⟨[98], 2⟩, ⟨[97], 3⟩] xs ys) w' ∧ E.Turns fb w w' → KK ⟨#[x0, x1, x2, x3, x4, ptr xb, x6, x7, .slice ga nz gc, .nilIface, x10, x11, x12, x13, x14, x15, x16, x17, x18, x19, x20, x21, x22, x23, x24, x25, x26, x27, x28, x29, x30, x31, x32, x33, x34, x35, x36, x37, x38, x39, x40, x41, x42, x43, x44, x45, x46, x47, x48, x49, x50, x51, x52, x53, x54, x55, x56, x57, x58, x59, x60, x61, x62, x63, x64, x65, x66, v67, v68, v69, v70, v71, v72, v73, v74, x75, x76, x77, x78, x79, x80, x81, x82, x83, x84, x85, x86, x87, x88, x89, x90, x91, x92, x93, x94, x95, x96, x97, x98, x99, x100, x101, x102, x103, x104, x105, x106, x107, x108, x109, x110, x111, x112, x113, x114, x115, x116, x117, x118, x119, x120, x121, x122, x123, x124, x125, x126, x127, x128, x129, x130, x131, x132, x133, x134, x135, x136, x137, x138, x139, x140, x141, x142, x143, x144, x145, x146, x147, x148, x149, x150, x151, x152, x153, x154, x155, x156, x157, x158, x159, x160, x161, x162, x163, x164], []⟩ w'))
    (hQp : Hid (∀ x a a' w, Q (.panic x) a w → a.defers = a'.defers → Q (.panic x) a' w)) :
    Code.wp Tryz.prog (((Tryz.f4.body.bind (regionAt 9)).getD .skip)) (Exit.then KK Q) ⟨#[x0, x1, x2, x3, x4, ptr xb, x6, x7, x8, x9, x10, x11, x12, x13, x14, x15, x16, x17, x18, x19, x20, x21, x22, x23, x24, x25, x26, x27, x28, x29, x30, x31, x32, x33, x34, x35, x36, x37, x38, x39, x40, x41, x42, x43, x44, x45, x46, x47, x48, x49, x50, x51, x52, x53, x54, x55, x56, x57, x58, x59, x60, x61, x62, x63, x64, x65, x66, x67, x68, x69, x70, x71, x72, x73, x74, x75, x76, x77, x78, x79, x80, x81, x82, x83, x84, x85, x86, x87, x88, x89, x90, x91, x92, x93, x94, x95, x96, x97, x98, x99, x100, x101, x102, x103, x104, x105, x106, x107, x108, x109, x110, x111, x112, x113, x114, x115, x116, x117, x118, x119, x120, x121, x122, x123, x124, x125, x126, x127, x128, x129, x130, x131, x132, x133, x134, x135, x136, x137, x138, x139, x140, x141, x142, x143, x144, x145, x146, x147, x148, x149, x150, x151, x152, x153, x154, x155, x156, x157, x158, x159, x160, x161, x162, x163, x164], []⟩ w := by
  have hu := hQp
  clear hu
  conv => arg 2; whnf
  try dsimp only
  have cA := hR.out.x1
  have lA := lt_of_cell (a := ⟨xb, 1, none⟩) cA
  have kG := hidden (sw_getA hR.out (by have := hlim.out; omega))
  clear hR
  go_wp2_with fail
  refine (kG.out).mono ?_
  rintro ev wB ⟨vA, rfl, hOB, hRB, hTB⟩
  obtain ⟨aa, ac, rfl, -⟩ := ownV_at hOB
  rw [hnz.out] at hOB ⊢
  have hE := hidden (And.intro hOB (And.intro hRB hTB))
  clear cA lA kG hOB hRB hTB
  go_wp2
  exact hKK.out _ _ _ _ _ _ _ _ _ _ _ hE.out
end Go.Proofs.YtjionogjeafffaaGreatDoor
/- FsSwaps: a file got. -/
namespace Go.Proofs.YtjionogjeafffaaGreatDoor
open Go.RowKit Go.Extern.Stop Go.Stop Go.Extern Go.Maps Go.Sort Go.Shelf
set_option maxRecDepth 1000000

set_option maxHeartbeats 8000000 in
theorem sw10 (w : World) (fb hb xb : Nat) (E : TE) (lim : Nat) (xs ys : List Int) (hlim : Hid (lim ≤ 100000)) (nz : Nat) (hnz : Hid (xs.length = nz)) (hR : Hid (SwR fb hb xb E lim (.two [⟨[98], 2⟩, ⟨[97], 3⟩] xs ys) w))
    (x0 x1 x2 x3 x4 x6 x7 x8 x9 x10 x11 x12 x13 x14 x15 x16 x17 x18 x19 x20 x21 x22 x23 x24 x25 x26 x27 x28 x29 x30 x31 x32 x33 x34 x35 x36 x37 x38 x39 x40 x41 x42 x43 x44 x45 x46 x47 x48 x49 x50 x51 x52 x53 x54 x55 x56 x57 x58 x59 x60 x61 x62 x63 x64 x65 x66 x67 x68 x69 x70 x71 x72 x73 x74 x75 x76 x77 x78 x79 x80 x81 x82 x83 x84 x85 x86 x87 x88 x89 x90 x91 x92 x93 x94 x95 x96 x97 x98 x99 x100 x101 x102 x103 x104 x105 x106 x107 x108 x109 x110 x111 x112 x113 x114 x115 x116 x117 x118 x119 x120 x121 x122 x123 x124 x125 x126 x127 x128 x129 x130 x131 x132 x133 x134 x135 x136 x137 x138 x139 x140 x141 x142 x143 x144 x145 x146 x147 x148 x149 x150 x151 x152 x153 x154 x155 x156 x157 x158 x159 x160 x161 x162 x163 x164 : Value) (KK : Act → World → Prop) (Q : Exit → Act → World → Prop)
    (hKK : Hid (∀ (v75 v76 v77 v78 v79 v80 v81 v82 : Value) (ga : Option Addr) (gc : Nat) (w' : World), OwnV w.heap.size w' (.slice ga nz gc) xs ∧ SwR fb hb xb E.rest (lim + 1000) (.two [⟨[98], 2⟩, ⟨[97], 3⟩] xs ys) w' ∧ E.Turns fb w w' → KK ⟨#[x0, x1, x2, x3, x4, ptr xb, x6, x7, x8, x9, .slice ga nz gc, .nilIface, x12, x13, x14, x15, x16, x17, x18, x19, x20, x21, x22, x23, x24, x25, x26, x27, x28, x29, x30, x31, x32, x33, x34, x35, x36, x37, x38, x39, x40, x41, x42, x43, x44, x45, x46, x47, x48, x49, x50, x51, x52, x53, x54, x55, x56, x57, x58, x59, x60, x61, x62, x63, x64, x65, x66, x67, x68, x69, x70, x71, x72, x73, x74, v75, v76, v77, v78, v79, v80, v81, v82, x83, x84, x85, x86, x87, x88, x89, x90, x91, x92, x93, x94, x95, x96, x97, x98, x99, x100, x101, x102, x103, x104, x105, x106, x107, x108, x109, x110, x111, x112, x113, x114, x115, x116, x117, x118, x119, x120, x121, x122, x123, x124, x125, x126, x127, x128, x129, x130, x131, x132, x133, x134, x135, x136, x137, x138, x139, x140, x141, x142, x143, x144, x145, x146, x147, x148, x149, x150, x151, x152, x153, x154, x155, x156, x157, x158, x159, x160, x161, x162, x163, x164], []⟩ w'))
    (hQp : Hid (∀ x a a' w, Q (.panic x) a w → a.defers = a'.defers → Q (.panic x) a' w)) :
    Code.wp Tryz.prog (((Tryz.f4.body.bind (regionAt 10)).getD .skip)) (Exit.then KK Q) ⟨#[x0, x1, x2, x3, x4, ptr xb, x6, x7, x8, x9, x10, x11, x12, x13, x14, x15, x16, x17, x18, x19, x20, x21, x22, x23, x24, x25, x26, x27, x28, x29, x30, x31, x32, x33, x34, x35, x36, x37, x38, x39, x40, x41, x42, x43, x44, x45, x46, x47, x48, x49, x50, x51, x52, x53, x54, x55, x56, x57, x58, x59, x60, x61, x62, x63, x64, x65, x66, x67, x68, x69, x70, x71, x72, x73, x74, x75, x76, x77, x78, x79, x80, x81, x82, x83, x84, x85, x86, x87, x88, x89, x90, x91, x92, x93, x94, x95, x96, x97, x98, x99, x100, x101, x102, x103, x104, x105, x106, x107, x108, x109, x110, x111, x112, x113, x114, x115, x116, x117, x118, x119, x120, x121, x122, x123, x124, x125, x126, x127, x128, x129, x130, x131, x132, x133, x134, x135, x136, x137, x138, x139, x140, x141, x142, x143, x144, x145, x146, x147, x148, x149, x150, x151, x152, x153, x154, x155, x156, x157, x158, x159, x160, x161, x162, x163, x164], []⟩ w := by
  have hu := hQp
  clear hu
  conv => arg 2; whnf
  try dsimp only
  have cA := hR.out.x1
  have lA := lt_of_cell (a := ⟨xb, 1, none⟩) cA
  have kG := hidden (sw_getB hR.out (by have := hlim.out; omega))
  clear hR
  go_wp2_with fail
  refine (kG.out).mono ?_
  rintro ev wB ⟨vA, rfl, hOB, hRB, hTB⟩
  obtain ⟨aa, ac, rfl, -⟩ := ownV_at hOB
  rw [hnz.out] at hOB ⊢
  have hE := hidden (And.intro hOB (And.intro hRB hTB))
  clear cA lA kG hOB hRB hTB
  go_wp2
  exact hKK.out _ _ _ _ _ _ _ _ _ _ _ hE.out
end Go.Proofs.YtjionogjeafffaaGreatDoor
/- FsSwaps: a file got. -/
namespace Go.Proofs.YtjionogjeafffaaGreatDoor
open Go.RowKit Go.Extern.Stop Go.Stop Go.Extern Go.Maps Go.Sort Go.Shelf
set_option maxRecDepth 1000000

set_option maxHeartbeats 8000000 in
theorem sw13 (w : World) (fb hb xb : Nat) (E : TE) (lim : Nat) (ys : List Int) (hlim : Hid (lim ≤ 100000)) (nz : Nat) (hnz : Hid (ys.length = nz)) (hR : Hid (SwR fb hb xb E lim (.left ys) w))
    (x0 x1 x2 x3 x4 x6 x7 x8 x9 x10 x11 x12 x13 x14 x15 x16 x17 x18 x19 x20 x21 x22 x23 x24 x25 x26 x27 x28 x29 x30 x31 x32 x33 x34 x35 x36 x37 x38 x39 x40 x41 x42 x43 x44 x45 x46 x47 x48 x49 x50 x51 x52 x53 x54 x55 x56 x57 x58 x59 x60 x61 x62 x63 x64 x65 x66 x67 x68 x69 x70 x71 x72 x73 x74 x75 x76 x77 x78 x79 x80 x81 x82 x83 x84 x85 x86 x87 x88 x89 x90 x91 x92 x93 x94 x95 x96 x97 x98 x99 x100 x101 x102 x103 x104 x105 x106 x107 x108 x109 x110 x111 x112 x113 x114 x115 x116 x117 x118 x119 x120 x121 x122 x123 x124 x125 x126 x127 x128 x129 x130 x131 x132 x133 x134 x135 x136 x137 x138 x139 x140 x141 x142 x143 x144 x145 x146 x147 x148 x149 x150 x151 x152 x153 x154 x155 x156 x157 x158 x159 x160 x161 x162 x163 x164 : Value) (KK : Act → World → Prop) (Q : Exit → Act → World → Prop)
    (hKK : Hid (∀ (v109 v110 v111 v112 v113 v114 v115 v116 : Value) (ga : Option Addr) (gc : Nat) (w' : World), OwnV w.heap.size w' (.slice ga nz gc) ys ∧ SwR fb hb xb E.rest (lim + 1000) (.left ys) w' ∧ E.Turns fb w w' → KK ⟨#[x0, x1, x2, x3, x4, ptr xb, x6, x7, x8, x9, x10, x11, .slice ga nz gc, .nilIface, x14, x15, x16, x17, x18, x19, x20, x21, x22, x23, x24, x25, x26, x27, x28, x29, x30, x31, x32, x33, x34, x35, x36, x37, x38, x39, x40, x41, x42, x43, x44, x45, x46, x47, x48, x49, x50, x51, x52, x53, x54, x55, x56, x57, x58, x59, x60, x61, x62, x63, x64, x65, x66, x67, x68, x69, x70, x71, x72, x73, x74, x75, x76, x77, x78, x79, x80, x81, x82, x83, x84, x85, x86, x87, x88, x89, x90, x91, x92, x93, x94, x95, x96, x97, x98, x99, x100, x101, x102, x103, x104, x105, x106, x107, x108, v109, v110, v111, v112, v113, v114, v115, v116, x117, x118, x119, x120, x121, x122, x123, x124, x125, x126, x127, x128, x129, x130, x131, x132, x133, x134, x135, x136, x137, x138, x139, x140, x141, x142, x143, x144, x145, x146, x147, x148, x149, x150, x151, x152, x153, x154, x155, x156, x157, x158, x159, x160, x161, x162, x163, x164], []⟩ w'))
    (hQp : Hid (∀ x a a' w, Q (.panic x) a w → a.defers = a'.defers → Q (.panic x) a' w)) :
    Code.wp Tryz.prog (((Tryz.f4.body.bind (regionAt 13)).getD .skip)) (Exit.then KK Q) ⟨#[x0, x1, x2, x3, x4, ptr xb, x6, x7, x8, x9, x10, x11, x12, x13, x14, x15, x16, x17, x18, x19, x20, x21, x22, x23, x24, x25, x26, x27, x28, x29, x30, x31, x32, x33, x34, x35, x36, x37, x38, x39, x40, x41, x42, x43, x44, x45, x46, x47, x48, x49, x50, x51, x52, x53, x54, x55, x56, x57, x58, x59, x60, x61, x62, x63, x64, x65, x66, x67, x68, x69, x70, x71, x72, x73, x74, x75, x76, x77, x78, x79, x80, x81, x82, x83, x84, x85, x86, x87, x88, x89, x90, x91, x92, x93, x94, x95, x96, x97, x98, x99, x100, x101, x102, x103, x104, x105, x106, x107, x108, x109, x110, x111, x112, x113, x114, x115, x116, x117, x118, x119, x120, x121, x122, x123, x124, x125, x126, x127, x128, x129, x130, x131, x132, x133, x134, x135, x136, x137, x138, x139, x140, x141, x142, x143, x144, x145, x146, x147, x148, x149, x150, x151, x152, x153, x154, x155, x156, x157, x158, x159, x160, x161, x162, x163, x164], []⟩ w := by
  have hu := hQp
  clear hu
  conv => arg 2; whnf
  try dsimp only
  have cA := hR.out.x1
  have lA := lt_of_cell (a := ⟨xb, 1, none⟩) cA
  have kG := hidden (sw_getL hR.out (by have := hlim.out; omega))
  clear hR
  go_wp2_with fail
  refine (kG.out).mono ?_
  rintro ev wB ⟨vA, rfl, hOB, hRB, hTB⟩
  obtain ⟨aa, ac, rfl, -⟩ := ownV_at hOB
  rw [hnz.out] at hOB ⊢
  have hE := hidden (And.intro hOB (And.intro hRB hTB))
  clear cA lA kG hOB hRB hTB
  go_wp2
  exact hKK.out _ _ _ _ _ _ _ _ _ _ _ hE.out
end Go.Proofs.YtjionogjeafffaaGreatDoor
/- FsSwaps: a file over another one. -/
namespace Go.Proofs.YtjionogjeafffaaGreatDoor
open Go.RowKit Go.Extern.Stop Go.Stop Go.Extern Go.Maps Go.Sort Go.Shelf
set_option maxRecDepth 1000000

set_option maxHeartbeats 8000000 in
theorem sw11 (w : World) (fb hb xb : Nat) (E : TE) (lim : Nat) (xs ys : List Int) (hlim : Hid (lim ≤ 100000)) (TX TY : ByteArray) (nx ny : Nat) (aa ba : Option Addr) (ac bc : Nat) (h1 : Hid ((convert 42 9 (.slice aa ny ac)).run Tryz.prog w = .ok (.string TY) w)) (h2 : Hid ((convert 42 9 (.slice ba nx bc)).run Tryz.prog w = .ok (.string TX) w)) (hR : Hid (SwR fb hb xb E lim (.two [⟨[98], 2⟩, ⟨[97], 3⟩] xs ys) w))
    (x0 x1 x2 x3 x4 x12 x13 x14 x15 x16 x17 x18 x19 x20 x21 x22 x23 x24 x25 x26 x27 x28 x29 x30 x31 x32 x33 x34 x35 x36 x37 x38 x39 x40 x41 x42 x43 x44 x45 x46 x47 x48 x49 x50 x51 x52 x53 x54 x55 x56 x57 x58 x59 x60 x61 x62 x63 x64 x65 x66 x67 x68 x69 x70 x71 x72 x73 x74 x75 x76 x77 x78 x79 x80 x81 x82 x83 x84 x85 x86 x87 x88 x89 x90 x91 x92 x93 x94 x95 x96 x97 x98 x99 x100 x101 x102 x103 x104 x105 x106 x107 x108 x109 x110 x111 x112 x113 x114 x115 x116 x117 x118 x119 x120 x121 x122 x123 x124 x125 x126 x127 x128 x129 x130 x131 x132 x133 x134 x135 x136 x137 x138 x139 x140 x141 x142 x143 x144 x145 x146 x147 x148 x149 x150 x151 x152 x153 x154 x155 x156 x157 x158 x159 x160 x161 x162 x163 x164 : Value) (KK : Act → World → Prop) (Q : Exit → Act → World → Prop)
    (hKK : Hid (∀ (v83 v84 v85 v86 v87 v88 v89 v90 v91 v92 v93 v94 v95 v96 v97 v98 v99 v100 v101 v102 v103 v104 v105 v106 v107 : Value)  (w' : World), SwR fb hb xb E.rest (lim + 1000) (.left ys) w' ∧ E.Turns fb w w' → KK ⟨#[x0, x1, x2, x3, x4, ptr xb, .string TX, .string TY, .slice aa ny ac, .nilIface, .slice ba nx bc, .nilIface, x12, x13, x14, x15, x16, x17, x18, x19, x20, x21, x22, x23, x24, x25, x26, x27, x28, x29, x30, x31, x32, x33, x34, x35, x36, x37, x38, x39, x40, x41, x42, x43, x44, x45, x46, x47, x48, x49, x50, x51, x52, x53, x54, x55, x56, x57, x58, x59, x60, x61, x62, x63, x64, x65, x66, x67, x68, x69, x70, x71, x72, x73, x74, x75, x76, x77, x78, x79, x80, x81, x82, v83, v84, v85, v86, v87, v88, v89, v90, v91, v92, v93, v94, v95, v96, v97, v98, v99, v100, v101, v102, v103, v104, v105, v106, v107, .bool false, x109, x110, x111, x112, x113, x114, x115, x116, x117, x118, x119, x120, x121, x122, x123, x124, x125, x126, x127, x128, x129, x130, x131, x132, x133, x134, x135, x136, x137, x138, x139, x140, x141, x142, x143, x144, x145, x146, x147, x148, x149, x150, x151, x152, x153, x154, x155, x156, x157, x158, x159, x160, x161, x162, x163, x164], []⟩ w'))
    (hQp : Hid (∀ x a a' w, Q (.panic x) a w → a.defers = a'.defers → Q (.panic x) a' w)) :
    Code.wp Tryz.prog (((Tryz.f4.body.bind (regionAt 11)).getD .skip)) (Exit.then KK Q) ⟨#[x0, x1, x2, x3, x4, ptr xb, .string TX, .string TY, .slice aa ny ac, .nilIface, .slice ba nx bc, .nilIface, x12, x13, x14, x15, x16, x17, x18, x19, x20, x21, x22, x23, x24, x25, x26, x27, x28, x29, x30, x31, x32, x33, x34, x35, x36, x37, x38, x39, x40, x41, x42, x43, x44, x45, x46, x47, x48, x49, x50, x51, x52, x53, x54, x55, x56, x57, x58, x59, x60, x61, x62, x63, x64, x65, x66, x67, x68, x69, x70, x71, x72, x73, x74, x75, x76, x77, x78, x79, x80, x81, x82, x83, x84, x85, x86, x87, x88, x89, x90, x91, x92, x93, x94, x95, x96, x97, x98, x99, x100, x101, x102, x103, x104, x105, x106, x107, x108, x109, x110, x111, x112, x113, x114, x115, x116, x117, x118, x119, x120, x121, x122, x123, x124, x125, x126, x127, x128, x129, x130, x131, x132, x133, x134, x135, x136, x137, x138, x139, x140, x141, x142, x143, x144, x145, x146, x147, x148, x149, x150, x151, x152, x153, x154, x155, x156, x157, x158, x159, x160, x161, x162, x163, x164], []⟩ w := by
  have hu := hQp
  clear hu
  conv => arg 2; whnf
  try dsimp only
  have d1 := h1.out
  have d2 := h2.out
  have cC := hR.out.x1
  have lC := lt_of_cell (a := ⟨xb, 1, none⟩) cC
  have kO := hidden (sw_over hR.out (by have := hlim.out; omega))
  clear hR
  go_wp2_with fail
  refine (kO.out).mono ?_
  rintro ev wD ⟨rfl, hRD, hTD⟩
  have hE := hidden (And.intro hRD hTD)
  clear cC lC kO hRD hTD d1 d2
  go_wp2
  exact hKK.out _ _ _ _ _ _ _ _ _ _ _ _ _ _ _ _ _ _ _ _ _ _ _ _ _ _ hE.out
end Go.Proofs.YtjionogjeafffaaGreatDoor
/- FsSwaps: the room. -/
namespace Go.Proofs.YtjionogjeafffaaGreatDoor
open Go.RowKit Go.Extern.Stop Go.Stop Go.Extern Go.Maps Go.Sort Go.Shelf
set_option maxRecDepth 1000000

set_option maxHeartbeats 8000000 in
theorem sw14 (w : World) (fb hb xb : Nat) (E : TE) (lim : Nat) (ys : List Int) (hlim : Hid (lim ≤ 100000)) (hR : Hid (SwR fb hb xb E lim (.left ys) w))
    (x0 x1 x2 x3 x4 x6 x7 x8 x9 x10 x11 x12 x13 x14 x15 x16 x17 x18 x19 x20 x21 x22 x23 x24 x25 x26 x27 x28 x29 x30 x31 x32 x33 x34 x35 x36 x37 x38 x39 x40 x41 x42 x43 x44 x45 x46 x47 x48 x49 x50 x51 x52 x53 x54 x55 x56 x57 x58 x59 x60 x61 x62 x63 x64 x65 x66 x67 x68 x69 x70 x71 x72 x73 x74 x75 x76 x77 x78 x79 x80 x81 x82 x83 x84 x85 x86 x87 x88 x89 x90 x91 x92 x93 x94 x95 x96 x97 x98 x99 x100 x101 x102 x103 x104 x105 x106 x107 x108 x109 x110 x111 x112 x113 x114 x115 x116 x117 x118 x119 x120 x121 x122 x123 x124 x125 x126 x127 x128 x129 x130 x131 x132 x133 x134 x135 x136 x137 x138 x139 x140 x141 x142 x143 x144 x145 x146 x147 x148 x149 x150 x151 x152 x153 x154 x155 x156 x157 x158 x159 x160 x161 x162 x163 x164 : Value) (KK : Act → World → Prop) (Q : Exit → Act → World → Prop)
    (hKK : Hid (∀ (v117 v118 v119 v120 v121 v122 v123 v124 : Value) (rb : Nat) (FI : Int) (w' : World), FI + blk (ys.length : Int) = 130 ∧ RmAt w' rb FI 0 10 131 ∧ SwR fb hb xb E.rest (lim + 1000) (.left ys) w' ∧ E.Turns fb w w' ∧ w.heap.size ≤ rb → KK ⟨#[x0, x1, x2, x3, x4, ptr xb, x6, x7, x8, x9, x10, x11, x12, x13, ptr rb, .nilIface, x16, x17, x18, x19, x20, x21, x22, x23, x24, x25, x26, x27, x28, x29, x30, x31, x32, x33, x34, x35, x36, x37, x38, x39, x40, x41, x42, x43, x44, x45, x46, x47, x48, x49, x50, x51, x52, x53, x54, x55, x56, x57, x58, x59, x60, x61, x62, x63, x64, x65, x66, x67, x68, x69, x70, x71, x72, x73, x74, x75, x76, x77, x78, x79, x80, x81, x82, x83, x84, x85, x86, x87, x88, x89, x90, x91, x92, x93, x94, x95, x96, x97, x98, x99, x100, x101, x102, x103, x104, x105, x106, x107, x108, x109, x110, x111, x112, x113, x114, x115, x116, v117, v118, v119, v120, v121, v122, v123, v124, x125, x126, x127, x128, x129, x130, x131, x132, x133, x134, x135, x136, x137, x138, x139, x140, x141, x142, x143, x144, x145, x146, x147, x148, x149, x150, x151, x152, x153, x154, x155, x156, x157, x158, x159, x160, x161, x162, x163, x164], []⟩ w'))
    (hQp : Hid (∀ x a a' w, Q (.panic x) a w → a.defers = a'.defers → Q (.panic x) a' w)) :
    Code.wp Tryz.prog (((Tryz.f4.body.bind (regionAt 14)).getD .skip)) (Exit.then KK Q) ⟨#[x0, x1, x2, x3, x4, ptr xb, x6, x7, x8, x9, x10, x11, x12, x13, x14, x15, x16, x17, x18, x19, x20, x21, x22, x23, x24, x25, x26, x27, x28, x29, x30, x31, x32, x33, x34, x35, x36, x37, x38, x39, x40, x41, x42, x43, x44, x45, x46, x47, x48, x49, x50, x51, x52, x53, x54, x55, x56, x57, x58, x59, x60, x61, x62, x63, x64, x65, x66, x67, x68, x69, x70, x71, x72, x73, x74, x75, x76, x77, x78, x79, x80, x81, x82, x83, x84, x85, x86, x87, x88, x89, x90, x91, x92, x93, x94, x95, x96, x97, x98, x99, x100, x101, x102, x103, x104, x105, x106, x107, x108, x109, x110, x111, x112, x113, x114, x115, x116, x117, x118, x119, x120, x121, x122, x123, x124, x125, x126, x127, x128, x129, x130, x131, x132, x133, x134, x135, x136, x137, x138, x139, x140, x141, x142, x143, x144, x145, x146, x147, x148, x149, x150, x151, x152, x153, x154, x155, x156, x157, x158, x159, x160, x161, x162, x163, x164], []⟩ w := by
  have hu := hQp
  clear hu
  conv => arg 2; whnf
  try dsimp only
  have cE := hR.out.x1
  have lE := lt_of_cell (a := ⟨xb, 1, none⟩) cE
  have kR := hidden (sw_room hR.out (by have := hlim.out; omega))
  clear hR
  go_wp2_with fail
  refine (kR.out).mono ?_
  rintro ev wF ⟨f, hf, rfl, hRF, hTF⟩
  obtain ⟨FI, hFI⟩ : ∃ FI : Int, (f : Int) = FI := ⟨_, rfl⟩
  rw [hFI] at hf ⊢
  obtain ⟨wH, hwH, hBH, hrH⟩ : ∃ wH, wF.alloc (Obj.cells #[.int .i64 FI, .int .i64 0, .int .i64 10, .int .i64 131] 47) = wH ∧ Below wF.heap.size wF wH ∧ RmAt wH wF.heap.size FI 0 10 131 := ⟨_, rfl, (Below.refl _ _).alloc (Nat.le_refl _) _, rm_new _ _ _ _ _⟩
  have hE := hidden (And.intro hf (And.intro hrH (And.intro (hRF.below hBH) (And.intro (show E.Turns fb w wH from Apart.trans hTF (Apart.of_below hBH)) hTF.size))))
  replace hwH := hidden hwH
  unfold rmV
  clear cE lE kR hRF hTF hBH hrH hf hFI
  go_wp2
  rw [hwH.out]
  exact hKK.out _ _ _ _ _ _ _ _ _ _ _ hE.out
end Go.Proofs.YtjionogjeafffaaGreatDoor
