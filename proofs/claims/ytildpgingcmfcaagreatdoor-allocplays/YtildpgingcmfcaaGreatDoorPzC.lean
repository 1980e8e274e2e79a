/- AllocPlays: whether a number is one of the Map's. -/
import Derived.Test.YtildpgingcmfcaaGreatDoorPzA
import Derived.Deep.CutBlock
import Derived.Test.YtildpgingcmfcaaGreatDoorPzB
namespace Go.Proofs.YtildpgingcmfcaaGreatDoor
open Go.RowKit Go.Extern.Stop Go.Stop Go.Extern
set_option maxRecDepth 1000000

set_option maxHeartbeats 8000000 in
theorem ap_in (N ob : Nat) (no : Int) (IN : Bool) (w : World) (o1 : w.cell? ⟨ob, 1, none⟩ = some (.int .i64 no)) (hIN : Hid (IN = decide (15 ≤ no ∧ no < 15 + (N : Int)))) (hN2 : N ≤ 40)
    (x1 x2 x3 x4 x5 x6 x7 x8 x9 x10 x11 x13 x14 x15 x16 x17 x18 x19 x20 x21 x22 x23 x24 x25 x26 x27 x28 x29 x30 x31 x32 x33 x34 x35 x36 x37 x38 x39 x40 x41 x42 x43 x44 x45 x46 x47 x48 x49 x50 x51 x52 x53 x54 x55 x56 x57 x58 x59 x60 x61 x62 x63 x64 x65 x66 x67 x68 x69 x70 x71 x72 x73 x74 x75 x76 x77 x78 x79 x80 x81 x82 x83 x84 x85 x86 x87 x88 x89 x90 x91 x92 x93 x94 x95 x96 x97 x98 x99 x100 x101 x102 x103 x104 x105 x106 x107 x108 x109 x110 x111 x112 x113 x114 x115 x116 x117 x118 x119 x120 x121 x122 x123 x124 x125 x126 x127 x128 x129 x130 x131 x132 x133 x134 x135 x136 x137 x138 x139 x140 x141 x142 x143 x144 x145 x146 x147 x148 x149 x150 x151 x152 x153 x154 x155 x156 x157 x158 x159 x160 x161 x162 x163 x164 x165 x166 x167 x168 x169 x170 x171 x172 x173 x174 x175 x176 x177 x178 x179 x180 x181 x182 x183 x184 x185 x186 x187 x188 x189 x190 x191 x192 x193 x194 x195 x196 x197 x198 x199 x200 x201 x202 x203 x204 x205 x206 x207 x208 x209 x210 x211 x212 x213 x214 x215 x216 x217 x218 x219 x220 x221 x222 x223 x224 x225 x226 x227 x228 x229 x230 x231 x232 x233 x234 x235 x236 x237 x238 x239 x240 x241 : Value) (KK : Act → World → Prop) (Q : Exit → Act → World → Prop)
    (hKK : Hid (∀ (v71 v72 v73 v74 v75 v76 v77 v78 v79 v80 : Value) , True → KK ⟨#[.int .i64 N, x1, x2, x3, x4, x5, x6, x7, x8, x9, x10, x11, .pointer (some ⟨ob, 0, none⟩), .bool IN, x14, x15, x16, x17, x18, x19, x20, x21, x22, x23, x24, x25, x26, x27, x28, x29, x30, x31, x32, x33, x34, x35, x36, x37, x38, x39, x40, x41, x42, x43, x44, x45, x46, x47, x48, x49, x50, x51, x52, x53, x54, x55, x56, x57, x58, x59, x60, x61, x62, x63, x64, x65, x66, x67, x68, x69, x70, v71, v72, v73, v74, v75, v76, v77, v78, v79, v80, x81, x82, x83, x84, x85, x86, x87, x88, x89, x90, x91, x92, x93, x94, x95, x96, x97, x98, x99, x100, x101, x102, x103, x104, x105, x106, x107, x108, x109, x110, x111, x112, x113, x114, x115, x116, x117, x118, x119, x120, x121, x122, x123, x124, x125, x126, x127, x128, x129, x130, x131, x132, x133, x134, x135, x136, x137, x138, x139, x140, x141, x142, x143, x144, x145, x146, x147, x148, x149, x150, x151, x152, x153, x154, x155, x156, x157, x158, x159, x160, x161, x162, x163, x164, x165, x166, x167, x168, x169, x170, x171, x172, x173, x174, x175, x176, x177, x178, x179, x180, x181, x182, x183, x184, x185, x186, x187, x188, x189, x190, x191, x192, x193, x194, x195, x196, x197, x198, x199, x200, x201, x202, x203, x204, x205, x206, x207, x208, x209, x210, x211, x212, x213, x214, x215, x216, x217, x218, x219, x220, x221, x222, x223, x224, x225, x226, x227, x228, x229, x230, x231, x232, x233, x234, x235, x236, x237, x238, x239, x240, x241], []⟩ w))
    (hQp : Hid (∀ x a a' w, Q (.panic x) a w → a.defers = a'.defers → Q (.panic x) a' w)) :
    Code.wp Tryz.prog (((Tryz.f3.body.bind (regionAt 13)).getD .skip)) (Exit.then KK Q) ⟨#[.int .i64 N, x1, x2, x3, x4, x5, x6, x7, x8, x9, x10, x11, .pointer (some ⟨ob, 0, none⟩), x13, x14, x15, x16, x17, x18, x19, x20, x21, x22, x23, x24, x25, x26, x27, x28, x29, x30, x31, x32, x33, x34, x35, x36, x37, x38, x39, x40, x41, x42, x43, x44, x45, x46, x47, x48, x49, x50, x51, x52, x53, x54, x55, x56, x57, x58, x59, x60, x61, x62, x63, x64, x65, x66, x67, x68, x69, x70, x71, x72, x73, x74, x75, x76, x77, x78, x79, x80, x81, x82, x83, x84, x85, x86, x87, x88, x89, x90, x91, x92, x93, x94, x95, x96, x97, x98, x99, x100, x101, x102, x103, x104, x105, x106, x107, x108, x109, x110, x111, x112, x113, x114, x115, x116, x117, x118, x119, x120, x121, x122, x123, x124, x125, x126, x127, x128, x129, x130, x131, x132, x133, x134, x135, x136, x137, x138, x139, x140, x141, x142, x143, x144, x145, x146, x147, x148, x149, x150, x151, x152, x153, x154, x155, x156, x157, x158, x159, x160, x161, x162, x163, x164, x165, x166, x167, x168, x169, x170, x171, x172, x173, x174, x175, x176, x177, x178, x179, x180, x181, x182, x183, x184, x185, x186, x187, x188, x189, x190, x191, x192, x193, x194, x195, x196, x197, x198, x199, x200, x201, x202, x203, x204, x205, x206, x207, x208, x209, x210, x211, x212, x213, x214, x215, x216, x217, x218, x219, x220, x221, x222, x223, x224, x225, x226, x227, x228, x229, x230, x231, x232, x233, x234, x235, x236, x237, x238, x239, x240, x241], []⟩ w := by
  have hu := hQp
  clear hu
  conv => arg 2; whnf
  try dsimp only
  by_cases c1 : 15 ≤ no
  · by_cases c2 : no < 15 + (N : Int)
    · obtain rfl : IN = true := hIN.out.trans (decide_eq_true ⟨c1, c2⟩)
      go_wp2
      exact hKK.out _ _ _ _ _ _ _ _ _ _ trivial
    · obtain rfl : IN = false := hIN.out.trans (decide_eq_false (by omega))
      go_wp2
      exact hKK.out _ _ _ _ _ _ _ _ _ _ trivial
  · obtain rfl : IN = false := hIN.out.trans (decide_eq_false (by omega))
    go_wp2
    exact hKK.out _ _ _ _ _ _ _ _ _ _ trivial
end Go.Proofs.YtildpgingcmfcaaGreatDoor
/- AllocPlays: what is free is counted, what is taken listed. -/
namespace Go.Proofs.YtildpgingcmfcaaGreatDoor
open Go.RowKit Go.Extern.Stop Go.Stop Go.Extern
set_option maxRecDepth 1000000

set_option maxHeartbeats 8000000 in
theorem ap_list (w0 : World) (d g jb cb mb ab nb lb N : Nat) (S L : Nat → Bool) (lim : Int) (w : World) (hP : Hid (PSt w0 d g jb cb mb ab nb lb N S S L L lim w))
    (x1 x2 x3 x4 x5 x6 x7 x8 x10 x11 x12 x13 x14 x15 x16 x17 x18 x19 x23 x24 x25 x26 x27 x28 x29 x30 x31 x32 x33 x34 x35 x36 x37 x38 x39 x40 x41 x42 x43 x44 x45 x46 x47 x48 x49 x50 x51 x52 x53 x54 x55 x56 x57 x58 x59 x60 x61 x62 x63 x64 x65 x66 x67 x68 x69 x70 x71 x72 x73 x74 x75 x76 x77 x78 x79 x80 x81 x82 x83 x84 x85 x86 x87 x88 x89 x90 x91 x92 x93 x94 x95 x96 x97 x98 x99 x100 x101 x102 x103 x104 x105 x106 x107 x108 x109 x110 x111 x112 x113 x114 x115 x116 x117 x118 x119 x120 x121 x122 x123 x124 x125 x126 x127 x128 x129 x130 x131 x132 x133 x134 x135 x136 x137 x138 x139 x140 x141 x142 x143 x144 x145 x146 x147 x148 x149 x150 x151 x152 x153 x154 x155 x156 x157 x158 x159 x160 x161 x162 x163 x164 x165 x166 x167 x168 x169 x170 x171 x172 x173 x174 x175 x176 x177 x178 x179 x180 x181 x182 x183 x184 x185 x186 x187 x188 x189 x190 x191 x192 x193 x194 x195 x196 x197 x198 x199 x200 x201 x202 x203 x204 x205 x206 x207 x208 x209 x210 x211 x212 x213 x214 x215 x216 x217 x218 x219 x220 x221 x222 x223 x224 x225 x226 x227 x228 x229 x230 x231 x232 x233 x234 x235 x236 x237 x238 x239 x240 x241 : Value) (KK : Act → World → Prop) (Q : Exit → Act → World → Prop)
    (hKK : Hid (∀ (v22 v199 v200 v201 v202 v203 v204 v205 v206 v207 v208 v209 v210 v211 v212 v213 v214 : Value) (lv : Value) (w' : World), PSt w0 d g jb cb mb ab nb lb N S S L L lim w' ∧ Kept w.heap.size w' lv (takenL S 15 N) → KK ⟨#[.int .i64 N, x1, x2, x3, x4, x5, x6, x7, x8, .slice (some ⟨nb, 0, none⟩) N N, x10, x11, x12, x13, x14, x15, x16, x17, x18, x19, .int .i64 (freeN S N : Nat), lv, v22, x23, x24, x25, x26, x27, x28, x29, x30, x31, x32, x33, x34, x35, x36, x37, x38, x39, x40, x41, x42, x43, x44, x45, x46, x47, x48, x49, x50, x51, x52, x53, x54, x55, x56, x57, x58, x59, x60, x61, x62, x63, x64, x65, x66, x67, x68, x69, x70, x71, x72, x73, x74, x75, x76, x77, x78, x79, x80, x81, x82, x83, x84, x85, x86, x87, x88, x89, x90, x91, x92, x93, x94, x95, x96, x97, x98, x99, x100, x101, x102, x103, x104, x105, x106, x107, x108, x109, x110, x111, x112, x113, x114, x115, x116, x117, x118, x119, x120, x121, x122, x123, x124, x125, x126, x127, x128, x129, x130, x131, x132, x133, x134, x135, x136, x137, x138, x139, x140, x141, x142, x143, x144, x145, x146, x147, x148, x149, x150, x151, x152, x153, x154, x155, x156, x157, x158, x159, x160, x161, x162, x163, x164, x165, x166, x167, x168, x169, x170, x171, x172, x173, x174, x175, x176, x177, x178, x179, x180, x181, x182, x183, x184, x185, x186, x187, x188, x189, x190, x191, x192, x193, x194, x195, x196, x197, x198, v199, v200, v201, v202, v203, v204, v205, v206, v207, v208, v209, v210, v211, v212, v213, v214, x215, x216, x217, x218, x219, x220, x221, x222, x223, x224, x225, x226, x227, x228, x229, x230, x231, x232, x233, x234, x235, x236, x237, x238, x239, x240, x241], []⟩ w'))
    (hQp : Hid (∀ x a a' w, Q (.panic x) a w → a.defers = a'.defers → Q (.panic x) a' w)) :
    Code.wp Tryz.prog (((Tryz.f3.body.bind (blockAt 5)).getD .skip)) (Exit.then KK Q) ⟨#[.int .i64 N, x1, x2, x3, x4, x5, x6, x7, x8, .slice (some ⟨nb, 0, none⟩) N N, x10, x11, x12, x13, x14, x15, x16, x17, x18, x19, .int .i64 0, .slice none 0 0, .int .i64 0, x23, x24, x25, x26, x27, x28, x29, x30, x31, x32, x33, x34, x35, x36, x37, x38, x39, x40, x41, x42, x43, x44, x45, x46, x47, x48, x49, x50, x51, x52, x53, x54, x55, x56, x57, x58, x59, x60, x61, x62, x63, x64, x65, x66, x67, x68, x69, x70, x71, x72, x73, x74, x75, x76, x77, x78, x79, x80, x81, x82, x83, x84, x85, x86, x87, x88, x89, x90, x91, x92, x93, x94, x95, x96, x97, x98, x99, x100, x101, x102, x103, x104, x105, x106, x107, x108, x109, x110, x111, x112, x113, x114, x115, x116, x117, x118, x119, x120, x121, x122, x123, x124, x125, x126, x127, x128, x129, x130, x131, x132, x133, x134, x135, x136, x137, x138, x139, x140, x141, x142, x143, x144, x145, x146, x147, x148, x149, x150, x151, x152, x153, x154, x155, x156, x157, x158, x159, x160, x161, x162, x163, x164, x165, x166, x167, x168, x169, x170, x171, x172, x173, x174, x175, x176, x177, x178, x179, x180, x181, x182, x183, x184, x185, x186, x187, x188, x189, x190, x191, x192, x193, x194, x195, x196, x197, x198, x199, x200, x201, x202, x203, x204, x205, x206, x207, x208, x209, x210, x211, x212, x213, x214, x215, x216, x217, x218, x219, x220, x221, x222, x223, x224, x225, x226, x227, x228, x229, x230, x231, x232, x233, x234, x235, x236, x237, x238, x239, x240, x241], []⟩ w := by
  have hu := hQp
  clear hu
  conv => arg 2; whnf
  try dsimp only
  have hn1 := hP.out.n1
  have hn2 := hP.out.n2
  have hall := hidden hP.out.lts
  go_wp2_with fail
  go_loopg [20, 21, 22] (N + 1) (fun gk fv lv q wr => ∃ k : Nat, k ≤ N ∧ gk = N + 1 - k ∧ q = .int .i64 k ∧ fv = .int .i64 (freeN S k : Nat) ∧ Hid (PSt w0 d g jb cb mb ab nb lb N S S L L lim wr ∧ Kept w.heap.size wr lv (takenL S 15 k) ∧ w.heap.size ≤ wr.heap.size))
  case atStart => exact ⟨0, by omega, rfl, rfl, rfl, hidden ⟨hP.out, Kept.nil _ _, Nat.le_refl _⟩⟩
  case round =>
    obtain ⟨k, hk, hgk, rfl, rfl, hI⟩ := hrel
    replace hgk := hidden hgk
    clear hP
    have hfl := freeN_le S k
    by_cases hlt : k < N
    · have hkN : (k : Int) < (N : Int) := by omega
      have hc := hI.out.1.now.cell k hlt
      have hsu := hidden (freeN_succ S k)
      have hsl := hidden (takenL_succ S 15 k)
      cases hS : S k with
      | false =>
        rw [hS] at hc
        go_wp2
        go_roundg (N + 1 - (k + 1))
        case measure => rw [hgk.out]; omega
        case rel =>
          have e1 := hsu.out
          have e2 := hsl.out
          rw [hS] at e1 e2
          simp only [Bool.false_eq_true, if_false, List.append_nil] at e1 e2
          exact ⟨k + 1, hlt, rfl, by go_num, by rw [e1]; go_num, hidden ⟨hI.out.1, by rw [e2]; exact hI.out.2.1, hI.out.2.2⟩⟩
      | true =>
        rw [hS] at hc
        have hBA : Below wr.heap.size wr (wr.alloc (.cells #[.int .i64 (15 + (k : Int))] 3)) := (Below.refl _ _).alloc (Nat.le_refl _) _
        have hone : ∀ j, j < 1 → (wr.alloc (.cells #[.int .i64 (15 + (k : Int))] 3)).cell? (Addr.add ⟨wr.heap.size, 0, none⟩ j) = some (.int .i64 (([15 + (k : Int)] : List Int).getD j 0)) := fun j hj => by
          obtain rfl : j = 0 := by omega
          simp [Addr.add]
        have htl := takenL_len S 15 k
        obtain ⟨v4, w4, hrun, hk4, hB4, -⟩ := kept_append (hI.out.2.1.below hBA) ⟨wr.heap.size, 0, none⟩ 1 1 [15 + (k : Int)] rfl hone (by omega) (Nat.le_trans hI.out.2.2 hBA.size) 44
        have hP4 := (hI.out.1.more hBA).low hB4 (fun x hx => hall.out x hx)
        have hE := hidden (And.intro hP4 (And.intro hk4 (Nat.le_trans hI.out.2.2 (Nat.le_trans hBA.size hB4.size))))
        replace hrun := hidden hrun
        obtain ⟨a1, c1, rfl, -⟩ := hI.out.2.1.form
        obtain ⟨a4, c4, rfl, -⟩ := hk4.form
        generalize (takenL S 15 k ++ [15 + (k : Int)]).length = L4 at hrun hE
        clear hBA hone hk4 hB4 hP4 hI
        go_wp2_with (at_builtin; refine wpList_append_eq _ _ 44 rfl _ _ _ _ rfl rfl hrun.out rfl ?_)
        go_roundg (N + 1 - (k + 1))
        case measure => rw [hgk.out]; omega
        case rel =>
          have e1 := hsu.out
          have e2 := hsl.out
          rw [hS] at e1 e2
          simp only [if_true, Nat.add_zero] at e1 e2
          refine ⟨k + 1, hlt, rfl, by go_num, by rw [e1], hidden ⟨hE.out.1, ?_, hE.out.2.2⟩⟩
          rw [e2]
          have e3 : (((15 + k : Nat) : Int)) = 15 + (k : Int) := by omega
          rw [e3]
          exact hE.out.2.1
    · obtain rfl : k = N := by omega
      have hkN : ¬ (k : Int) < (k : Int) := by omega
      go_wp2
      exact hKK.out _ _ _ _ _ _ _ _ _ _ _ _ _ _ _ _ _ _ _ ⟨hI.out.1, hI.out.2.1⟩
end Go.Proofs.YtildpgingcmfcaaGreatDoor
/- AllocPlays: its two rows are made. -/
namespace Go.Proofs.YtildpgingcmfcaaGreatDoor
open Go.RowKit Go.Extern.Stop Go.Stop Go.Extern
set_option maxRecDepth 1000000

set_option maxHeartbeats 8000000 in
theorem ap_rows (w0 : World) (d g jb cb mb ab N : Nat) (w3 : World) (hC3 : Hid (CSt w0 d g 160 jb cb mb 60 80 60 (fun _ => 0) 0 (-1) [] w3)) (hM3 : Hid (MpAt ab cb 2 15 N w3)) (hN1 : 1 ≤ N) (hN2 : N ≤ 40) (hab : Hid (ab ∉ [d, g, jb, cb, mb]))
    (x1 x2 x3 x4 x5 x6 x7 x8 x9 x10 x11 x12 x13 x14 x15 x16 x17 x18 x19 x20 x21 x22 x23 x24 x25 x26 x27 x28 x29 x30 x31 x32 x33 x34 x35 x36 x37 x38 x39 x40 x41 x42 x43 x44 x45 x46 x47 x48 x49 x50 x51 x52 x53 x54 x55 x56 x57 x58 x59 x60 x61 x62 x63 x64 x65 x66 x67 x68 x69 x70 x71 x72 x73 x74 x75 x76 x77 x78 x79 x80 x81 x82 x83 x84 x85 x86 x87 x88 x89 x90 x91 x92 x93 x94 x95 x96 x97 x98 x99 x100 x101 x102 x103 x104 x105 x106 x107 x108 x109 x110 x111 x112 x113 x114 x115 x116 x117 x118 x119 x120 x121 x122 x123 x124 x125 x126 x127 x128 x129 x130 x131 x132 x133 x134 x135 x136 x137 x138 x139 x140 x141 x142 x143 x144 x145 x146 x147 x148 x149 x150 x151 x152 x153 x154 x155 x156 x157 x158 x159 x160 x161 x162 x163 x164 x165 x166 x167 x168 x169 x170 x171 x172 x173 x174 x175 x176 x177 x178 x179 x180 x181 x182 x183 x184 x185 x186 x187 x188 x189 x190 x191 x192 x193 x194 x195 x196 x197 x198 x199 x200 x201 x202 x203 x204 x205 x206 x207 x208 x209 x210 x211 x212 x213 x214 x215 x216 x217 x218 x219 x220 x221 x222 x223 x224 x225 x226 x227 x228 x229 x230 x231 x232 x233 x234 x235 x236 x237 x238 x239 x240 x241 : Value) (KK : Act → World → Prop) (Q : Exit → Act → World → Prop)
    (hKK : Hid (∀ (v53 v54 v55 v56 : Value) (nb lb : Nat) (w' : World), PSt w0 d g jb cb mb ab nb lb N (fun _ => false) (fun _ => false) (fun _ => false) (fun _ => false) 0 w' → KK ⟨#[.int .i64 N, x1, x2, x3, x4, x5, x6, x7, x8, .slice (some ⟨nb, 0, none⟩) N N, .slice (some ⟨lb, 0, none⟩) N N, x11, x12, x13, x14, x15, x16, x17, x18, x19, x20, x21, x22, x23, x24, x25, x26, x27, x28, x29, x30, x31, x32, x33, x34, x35, x36, x37, x38, x39, x40, x41, x42, x43, x44, x45, x46, x47, x48, x49, x50, x51, x52, v53, v54, v55, v56, x57, x58, x59, x60, x61, x62, x63, x64, x65, x66, x67, x68, x69, x70, x71, x72, x73, x74, x75, x76, x77, x78, x79, x80, x81, x82, x83, x84, x85, x86, x87, x88, x89, x90, x91, x92, x93, x94, x95, x96, x97, x98, x99, x100, x101, x102, x103, x104, x105, x106, x107, x108, x109, x110, x111, x112, x113, x114, x115, x116, x117, x118, x119, x120, x121, x122, x123, x124, x125, x126, x127, x128, x129, x130, x131, x132, x133, x134, x135, x136, x137, x138, x139, x140, x141, x142, x143, x144, x145, x146, x147, x148, x149, x150, x151, x152, x153, x154, x155, x156, x157, x158, x159, x160, x161, x162, x163, x164, x165, x166, x167, x168, x169, x170, x171, x172, x173, x174, x175, x176, x177, x178, x179, x180, x181, x182, x183, x184, x185, x186, x187, x188, x189, x190, x191, x192, x193, x194, x195, x196, x197, x198, x199, x200, x201, x202, x203, x204, x205, x206, x207, x208, x209, x210, x211, x212, x213, x214, x215, x216, x217, x218, x219, x220, x221, x222, x223, x224, x225, x226, x227, x228, x229, x230, x231, x232, x233, x234, x235, x236, x237, x238, x239, x240, x241], []⟩ w'))
    (hQp : Hid (∀ x a a' w, Q (.panic x) a w → a.defers = a'.defers → Q (.panic x) a' w)) :
    Code.wp Tryz.prog (((Tryz.f3.body.bind (regionAt 8)).getD .skip)) (Exit.then KK Q) ⟨#[.int .i64 N, x1, x2, x3, x4, x5, x6, x7, x8, x9, x10, x11, x12, x13, x14, x15, x16, x17, x18, x19, x20, x21, x22, x23, x24, x25, x26, x27, x28, x29, x30, x31, x32, x33, x34, x35, x36, x37, x38, x39, x40, x41, x42, x43, x44, x45, x46, x47, x48, x49, x50, x51, x52, x53, x54, x55, x56, x57, x58, x59, x60, x61, x62, x63, x64, x65, x66, x67, x68, x69, x70, x71, x72, x73, x74, x75, x76, x77, x78, x79, x80, x81, x82, x83, x84, x85, x86, x87, x88, x89, x90, x91, x92, x93, x94, x95, x96, x97, x98, x99, x100, x101, x102, x103, x104, x105, x106, x107, x108, x109, x110, x111, x112, x113, x114, x115, x116, x117, x118, x119, x120, x121, x122, x123, x124, x125, x126, x127, x128, x129, x130, x131, x132, x133, x134, x135, x136, x137, x138, x139, x140, x141, x142, x143, x144, x145, x146, x147, x148, x149, x150, x151, x152, x153, x154, x155, x156, x157, x158, x159, x160, x161, x162, x163, x164, x165, x166, x167, x168, x169, x170, x171, x172, x173, x174, x175, x176, x177, x178, x179, x180, x181, x182, x183, x184, x185, x186, x187, x188, x189, x190, x191, x192, x193, x194, x195, x196, x197, x198, x199, x200, x201, x202, x203, x204, x205, x206, x207, x208, x209, x210, x211, x212, x213, x214, x215, x216, x217, x218, x219, x220, x221, x222, x223, x224, x225, x226, x227, x228, x229, x230, x231, x232, x233, x234, x235, x236, x237, x238, x239, x240, x241], []⟩ w3 := by
  have hu := hQp
  clear hu
  conv => arg 2; whnf
  try dsimp only
  have hmk := fun wx => make_bools N (by omega) wx
  have hSn := hidden (fun (wx : World) => show SeenAt wx.heap.size N (fun _ => false) (wx.alloc (.cells (madeCells (Value.bool false).cells (N * 1)) 4)) from ⟨fun i hi => by
    rw [cells_new]; simp [madeCells, Value.cells, hi, Nat.mod_one], fun i _ => by simp⟩)
  generalize madeCells (Value.bool false).cells (N * 1) = cs at hmk hSn
  have hB5 : Below w3.heap.size w3 (((w3.alloc (.cells cs 4)).alloc (.cells cs 4)).drew) := (((Below.refl _ _).alloc (Nat.le_refl _) _).alloc (by simp) _).drew
  have hB5' : Below (w3.alloc (.cells cs 4)).heap.size (w3.alloc (.cells cs 4)) (((w3.alloc (.cells cs 4)).alloc (.cells cs 4)).drew) := ((Below.refl _ _).alloc (Nat.le_refl _) _).drew
  have hs1 := (hSn.out w3).keep (by omega) (Apart.of_below (bs := []) hB5') (by simp)
  have hs2 := (hSn.out (w3.alloc (.cells cs 4))).keep (by omega) (Apart.of_below (bs := []) (below_drew1 _)) (by simp)
  rw [World.size_alloc] at hs2
  have hP1 := hidden (pst_new hC3.out hM3.out hN1 hN2 hab.out hB5 w3.heap.size (w3.heap.size + 1) hs1 hs2 (by omega) (by omega) (by omega))
  have hP2 := hidden (pst_new hC3.out hM3.out hN1 hN2 hab.out hB5 (w3.heap.size + 1) w3.heap.size hs2 hs1 (by omega) (by omega) (by omega))
  clear hB5 hB5' hs1 hs2 hSn hM3 hC3
  refine wp_region_any (by kernel_rfl) ?_
  try (change wpAny _ _ _ _ _ _ _ (World.drew _))
  refine wpAny_take (i := 0) (v := ?_) rfl (by kernel_rfl) (by kernel_rfl) (by kernel_rfl) (fun _ _ _ h => hQp.out _ _ _ _ h rfl) (Or.inl ⟨by rfl, ?_⟩) ?_
  rotate_left
  · intro w; go_simp; try (with_reducible rfl)
  refine wpAny_take (i := 2) (v := ?_) rfl (by kernel_rfl) (by kernel_rfl) (by kernel_rfl) (fun _ _ _ h => hQp.out _ _ _ _ h rfl) (Or.inl ⟨by rfl, ?_⟩) ?_
  rotate_left
  · intro w; go_simp; try (with_reducible rfl)
  refine wpAny_ready (rs := [1, 3]) (by kernel_rfl) (by simp) ?_
  refine AllReady.cons rfl (fun K hK => ?_) ?_
  · go_simp
    try (refine hK _ _ ?_; clear hK K)
    refine wpAny_take (i := 4) (v := ?_) rfl (by kernel_rfl) (by kernel_rfl) (by kernel_rfl) (fun _ _ _ h => hQp.out _ _ _ _ h rfl) (Or.inl ⟨by rfl, ?_⟩) ?_
    rotate_left
    · intro w; go_simp; try (with_reducible rfl)
    refine wpAny_ready (rs := [3]) (by kernel_rfl) (by simp) ?_
    refine AllReady.cons rfl (fun K hK => ?_) AllReady.nil
    go_simp
    try (refine hK _ _ ?_; clear hK K)
    refine wpAny_ready (rs := [5]) (by kernel_rfl) (by simp) ?_
    refine AllReady.cons rfl (fun K hK => ?_) AllReady.nil
    go_simp
    try (refine hK _ _ ?_; clear hK K)
    refine wpAny_done (by kernel_rfl) ?_ _
    go_wp2
    first | exact hKK.out _ _ _ _ _ _ _ hP1.out | exact hKK.out _ _ _ _ _ _ _ hP2.out
  refine AllReady.cons rfl (fun K hK => ?_) ?_
  · go_simp
    try (refine hK _ _ ?_; clear hK K)
    refine wpAny_ready (rs := [1]) (by kernel_rfl) (by simp) ?_
    refine AllReady.cons rfl (fun K hK => ?_) AllReady.nil
    go_simp
    try (refine hK _ _ ?_; clear hK K)
    refine wpAny_ready (rs := [4]) (by kernel_rfl) (by simp) ?_
    refine AllReady.cons rfl (fun K hK => ?_) AllReady.nil
    go_simp
    try (refine hK _ _ ?_; clear hK K)
    refine wpAny_ready (rs := [5]) (by kernel_rfl) (by simp) ?_
    refine AllReady.cons rfl (fun K hK => ?_) AllReady.nil
    go_simp
    try (refine hK _ _ ?_; clear hK K)
    refine wpAny_done (by kernel_rfl) ?_ _
    go_wp2
    first | exact hKK.out _ _ _ _ _ _ _ hP1.out | exact hKK.out _ _ _ _ _ _ _ hP2.out
  exact AllReady.nil
end Go.Proofs.YtildpgingcmfcaaGreatDoor
/- AllocPlays: a round. -/
namespace Go.Proofs.YtildpgingcmfcaaGreatDoor
open Go.RowKit Go.Extern.Stop Go.Stop Go.Extern
set_option maxRecDepth 1000000

set_option maxHeartbeats 8000000 in
theorem ap_round (w0 : World) (d g jb cb mb ab nb lb N i vb off len vcap : Nat) (kind no : Int) (lim : Int) (w : World) (hQ : Hid (QSt w0 d g jb cb mb ab nb lb N lim w)) (ho0 : w.cell? ⟨vb, off + i * 2, none⟩ = some (.int .i64 kind)) (ho1 : w.cell? ⟨vb, off + i * 2 + 1, none⟩ = some (.int .i64 no)) (hno : Hid (i64 no)) (hi : i < len) (hGT : Hid (∀ wx, Below w0.heap.size w0 wx → GT wx)) (hlim : lim ≤ 100000)
    (x2 x3 x4 x5 x8 x12 x13 x14 x15 x16 x17 x18 x19 x20 x21 x22 x23 x24 x25 x26 x27 x28 x29 x30 x31 x32 x33 x34 x35 x36 x37 x38 x39 x40 x41 x42 x43 x44 x45 x46 x47 x48 x49 x50 x51 x52 x53 x54 x55 x56 x57 x58 x59 x60 x61 x62 x63 x64 x65 x66 x67 x68 x69 x70 x71 x72 x73 x74 x75 x76 x77 x78 x79 x80 x81 x82 x83 x84 x85 x86 x87 x88 x89 x90 x91 x92 x93 x94 x95 x96 x97 x98 x99 x100 x101 x102 x103 x104 x105 x106 x107 x108 x109 x110 x111 x112 x113 x114 x115 x116 x117 x118 x119 x120 x121 x122 x123 x124 x125 x126 x127 x128 x129 x130 x131 x132 x133 x134 x135 x136 x137 x138 x139 x140 x141 x142 x143 x144 x145 x146 x147 x148 x149 x150 x151 x152 x153 x154 x155 x156 x157 x158 x159 x160 x161 x162 x163 x164 x165 x166 x167 x168 x169 x170 x171 x172 x173 x174 x175 x176 x177 x178 x179 x180 x181 x182 x183 x184 x185 x186 x187 x188 x189 x190 x191 x192 x193 x194 x195 x196 x197 x198 x199 x200 x201 x202 x203 x204 x205 x206 x207 x208 x209 x210 x211 x212 x213 x214 x215 x216 x217 x218 x219 x220 x221 x222 x223 x224 x225 x226 x227 x228 x229 x230 x231 x232 x233 x234 x235 x236 x237 x238 x239 x240 x241 : Value) (KK : Act → World → Prop) (Q : Exit → Act → World → Prop)
    (hKK : Hid (∀ (v12 v13 v14 v15 v16 v17 v18 v19 v20 v21 v22 v23 v24 v25 v26 v67 v68 v69 v70 v71 v72 v73 v74 v75 v76 v77 v78 v79 v80 v81 v82 v83 v84 v85 v86 v87 v88 v89 v90 v91 v92 v93 v94 v95 v96 v97 v98 v99 v100 v101 v102 v103 v104 v105 v106 v107 v108 v109 v110 v111 v112 v113 v114 v115 v116 v117 v118 v119 v120 v121 v122 v123 v124 v125 v126 v127 v128 v129 v130 v131 v132 v133 v134 v135 v136 v137 v138 v139 v140 v141 v142 v143 v144 v145 v146 v147 v148 v149 v150 v151 v152 v153 v154 v155 v156 v157 v158 v159 v160 v161 v162 v163 v164 v165 v166 v167 v168 v169 v170 v171 v172 v173 v174 v175 v176 v177 v178 v179 v180 v181 v182 v183 v184 v185 v186 v187 v188 v189 v190 v191 v192 v193 v194 v195 v196 v197 v198 v199 v200 v201 v202 v203 v204 v205 v206 v207 v208 v209 v210 v211 v212 v213 v214 v215 v216 v217 v218 v219 v220 v221 v222 v223 v224 v225 v226 v227 v228 v229 v230 v231 v232 v233 v234 v235 v236 v237 v238 v239 v240 v241 : Value)  (w' : World), QSt w0 d g jb cb mb ab nb lb N (lim + 1000) w' → KK ⟨#[.int .i64 N, .slice (some ⟨vb, off, none⟩) len vcap, x2, x3, x4, x5, ptr cb, ptr ab, x8, .slice (some ⟨nb, 0, none⟩) N N, .slice (some ⟨lb, 0, none⟩) N N, .int .i64 i, v12, v13, v14, v15, v16, v17, v18, v19, v20, v21, v22, v23, v24, v25, v26, x27, x28, x29, x30, x31, x32, x33, x34, x35, x36, x37, x38, x39, x40, x41, x42, x43, x44, x45, x46, x47, x48, x49, x50, x51, x52, x53, x54, x55, x56, x57, x58, x59, x60, x61, x62, x63, x64, x65, x66, v67, v68, v69, v70, v71, v72, v73, v74, v75, v76, v77, v78, v79, v80, v81, v82, v83, v84, v85, v86, v87, v88, v89, v90, v91, v92, v93, v94, v95, v96, v97, v98, v99, v100, v101, v102, v103, v104, v105, v106, v107, v108, v109, v110, v111, v112, v113, v114, v115, v116, v117, v118, v119, v120, v121, v122, v123, v124, v125, v126, v127, v128, v129, v130, v131, v132, v133, v134, v135, v136, v137, v138, v139, v140, v141, v142, v143, v144, v145, v146, v147, v148, v149, v150, v151, v152, v153, v154, v155, v156, v157, v158, v159, v160, v161, v162, v163, v164, v165, v166, v167, v168, v169, v170, v171, v172, v173, v174, v175, v176, v177, v178, v179, v180, v181, v182, v183, v184, v185, v186, v187, v188, v189, v190, v191, v192, v193, v194, v195, v196, v197, v198, v199, v200, v201, v202, v203, v204, v205, v206, v207, v208, v209, v210, v211, v212, v213, v214, v215, v216, v217, v218, v219, v220, v221, v222, v223, v224, v225, v226, v227, v228, v229, v230, v231, v232, v233, v234, v235, v236, v237, v238, v239, v240, v241], []⟩ w'))
    (hQp : Hid (∀ x a a' w, Q (.panic x) a w → a.defers = a'.defers → Q (.panic x) a' w)) :
    Code.wp Tryz.prog (((Tryz.f3.body.bind (blockAt 1)).getD .skip)) (Exit.then KK Q) ⟨#[.int .i64 N, .slice (some ⟨vb, off, none⟩) len vcap, x2, x3, x4, x5, ptr cb, ptr ab, x8, .slice (some ⟨nb, 0, none⟩) N N, .slice (some ⟨lb, 0, none⟩) N N, .int .i64 i, x12, x13, x14, x15, x16, x17, x18, x19, x20, x21, x22, x23, x24, x25, x26, x27, x28, x29, x30, x31, x32, x33, x34, x35, x36, x37, x38, x39, x40, x41, x42, x43, x44, x45, x46, x47, x48, x49, x50, x51, x52, x53, x54, x55, x56, x57, x58, x59, x60, x61, x62, x63, x64, x65, x66, x67, x68, x69, x70, x71, x72, x73, x74, x75, x76, x77, x78, x79, x80, x81, x82, x83, x84, x85, x86, x87, x88, x89, x90, x91, x92, x93, x94, x95, x96, x97, x98, x99, x100, x101, x102, x103, x104, x105, x106, x107, x108, x109, x110, x111, x112, x113, x114, x115, x116, x117, x118, x119, x120, x121, x122, x123, x124, x125, x126, x127, x128, x129, x130, x131, x132, x133, x134, x135, x136, x137, x138, x139, x140, x141, x142, x143, x144, x145, x146, x147, x148, x149, x150, x151, x152, x153, x154, x155, x156, x157, x158, x159, x160, x161, x162, x163, x164, x165, x166, x167, x168, x169, x170, x171, x172, x173, x174, x175, x176, x177, x178, x179, x180, x181, x182, x183, x184, x185, x186, x187, x188, x189, x190, x191, x192, x193, x194, x195, x196, x197, x198, x199, x200, x201, x202, x203, x204, x205, x206, x207, x208, x209, x210, x211, x212, x213, x214, x215, x216, x217, x218, x219, x220, x221, x222, x223, x224, x225, x226, x227, x228, x229, x230, x231, x232, x233, x234, x235, x236, x237, x238, x239, x240, x241], []⟩ w := by
  have hu := hQp
  clear hu
  conv => arg 2; whnf
  try dsimp only
  obtain ⟨S, L, hP⟩ := hQ.out.ex
  have hN2 := hP.n2
  replace hP := hidden hP
  clear hQ
  go_upto_region 13 with fail
  have hB5 : Below w.heap.size w (w.alloc (.cells #[.int .i64 kind, .int .i64 no] 35)) := (Below.refl _ _).alloc (Nat.le_refl _) _
  have hO5 : OAt w.heap.size kind no (w.alloc (.cells #[.int .i64 kind, .int .i64 no] 35)) := ⟨by simp, by simp⟩
  have hP5 := hidden (hP.out.more hB5)
  have hob := hidden (show ∀ k ∈ [d, g, jb, cb, mb, ab, nb, lb], k ≠ w.heap.size from fun k hk => by have := hP.out.lts k hk; omega)
  have o0 := hO5.o0
  have o1 := hO5.o1
  replace hO5 := hidden hO5
  clear hP hB5 ho0 ho1
  generalize w.alloc (.cells #[.int .i64 kind, .int .i64 no] 35) = w5 at hO5 hP5 o0 o1 ⊢
  generalize w.heap.size = ob at hO5 hob o0 o1 ⊢
  obtain ⟨IN, hIN⟩ : ∃ IN, IN = decide (15 ≤ no ∧ no < 15 + (N : Int)) := ⟨_, rfl⟩
  replace hIN := hidden hIN
  refine ap_in N ob no IN w5 o1 hIN hN2 _ _ _ _ _ _ _ _ _ _ _ _ _ _ _ _ _ _ _ _ _ _ _ _ _ _ _ _ _ _ _ _ _ _ _ _ _ _ _ _ _ _ _ _ _ _ _ _ _ _ _ _ _ _ _ _ _ _ _ _ _ _ _ _ _ _ _ _ _ _ _ _ _ _ _ _ _ _ _ _ _ _ _ _ _ _ _ _ _ _ _ _ _ _ _ _ _ _ _ _ _ _ _ _ _ _ _ _ _ _ _ _ _ _ _ _ _ _ _ _ _ _ _ _ _ _ _ _ _ _ _ _ _ _ _ _ _ _ _ _ _ _ _ _ _ _ _ _ _ _ _ _ _ _ _ _ _ _ _ _ _ _ _ _ _ _ _ _ _ _ _ _ _ _ _ _ _ _ _ _ _ _ _ _ _ _ _ _ _ _ _ _ _ _ _ _ _ _ _ _ _ _ _ _ _ _ _ _ _ _ _ _ _ _ _ _ _ _ _ _ _ _ _ _ _ _ _ _ _ _ _ _ _ _ _ _ _ _ _ _ _ _ (hidden ?kk) (hidden ?qp)
  case qp =>
    intro _ a a' _ h e
    exact hQp.out _ _ _ _ h e
  case kk =>
    intro v71 v72 v73 v74 v75 v76 v77 v78 v79 v80 _
    dsimp only
    go_upto_block 2 with fail
    refine ap_switch w0 d g jb cb mb ab nb lb N ob kind no IN S L lim w5 hP5 hO5 hob hIN hno hGT hlim _ _ _ _ _ _ _ _ _ _ _ _ _ _ _ _ _ _ _ _ _ _ _ _ _ _ _ _ _ _ _ _ _ _ _ _ _ _ _ _ _ _ _ _ _ _ _ _ _ _ _ _ _ _ _ _ _ _ _ _ _ _ _ _ _ _ _ _ _ _ _ _ _ _ _ _ _ _ _ _ _ _ _ _ _ _ _ _ _ _ _ _ _ _ _ _ _ _ _ _ _ _ _ _ _ _ _ _ _ _ _ _ _ _ _ _ _ _ _ _ _ _ _ _ _ _ _ _ _ _ _ _ _ _ _ _ _ _ _ _ _ _ _ _ _ _ _ _ _ _ _ _ _ _ _ _ _ _ _ _ _ _ _ _ _ _ _ _ _ _ _ _ _ _ _ _ _ _ _ _ _ _ _ _ _ _ _ _ _ _ _ _ _ _ _ _ _ _ _ _ _ _ _ _ _ _ _ _ _ _ _ _ _ _ _ _ _ _ _ _ _ _ _ _ _ _ _ _ _ _ _ _ _ _ _ _ (hidden ?kk) (hidden ?qp)
    case qp =>
      intro _ a a' _ h e
      exact hQp.out _ _ _ _ h e
    case kk =>
      intro v14 v15 v16 v17 v18 v19 v83 v84 v85 v86 v87 v88 v89 v90 v91 v92 v93 v94 v95 v96 v97 v98 v99 v100 v101 v102 v103 v104 v105 v106 v107 v108 v109 v110 v111 v112 v113 v114 v115 v116 v117 v118 v119 v120 v121 v122 v123 v124 v125 v126 v127 v128 v129 v130 v131 v132 v133 v134 v135 v136 v137 v138 v139 v140 v141 v142 v143 v144 v145 v146 v147 v148 v149 v150 v151 v152 v153 v154 v155 v156 v157 v158 v159 v160 v161 v162 v163 v164 v165 v166 v167 v168 v169 v170 v171 v172 v173 v174 v175 v176 v177 v178 v179 v180 v181 v182 v183 v184 v185 v186 v187 v188 v189 v190 v191 v192 v193 v194 v195 v196 v197 v198 w6 hQ6
      obtain ⟨S2, L2, hP6⟩ := hQ6.ex
      replace hP6 := hidden hP6
      clear hQ6 hP5 hO5 hob hIN o0 o1
      dsimp only
      go_upto_block 5 with fail
      refine ap_list w0 d g jb cb mb ab nb lb N S2 L2 (lim + 1000) w6 hP6 _ _ _ _ _ _ _ _ _ _ _ _ _ _ _ _ _ _ _ _ _ _ _ _ _ _ _ _ _ _ _ _ _ _ _ _ _ _ _ _ _ _ _ _ _ _ _ _ _ _ _ _ _ _ _ _ _ _ _ _ _ _ _ _ _ _ _ _ _ _ _ _ _ _ _ _ _ _ _ _ _ _ _ _ _ _ _ _ _ _ _ _ _ _ _ _ _ _ _ _ _ _ _ _ _ _ _ _ _ _ _ _ _ _ _ _ _ _ _ _ _ _ _ _ _ _ _ _ _ _ _ _ _ _ _ _ _ _ _ _ _ _ _ _ _ _ _ _ _ _ _ _ _ _ _ _ _ _ _ _ _ _ _ _ _ _ _ _ _ _ _ _ _ _ _ _ _ _ _ _ _ _ _ _ _ _ _ _ _ _ _ _ _ _ _ _ _ _ _ _ _ _ _ _ _ _ _ _ _ _ _ _ _ _ _ _ _ _ _ _ _ _ _ _ _ _ _ _ _ _ _ _ _ _ _ _ _ _ _ (hidden ?kk) (hidden ?qp)
      case qp =>
        intro _ a a' _ h e
        exact hQp.out _ _ _ _ h e
      case kk =>
        intro v22 v199 v200 v201 v202 v203 v204 v205 v206 v207 v208 v209 v210 v211 v212 v213 v214 lv w7 hE7
        obtain ⟨av7, cv7, rfl, -⟩ := hE7.2.form
        have hC := hidden (hE7.1.count)
        have hK7 := hidden hE7.2
        clear hE7 hP6
        generalize (takenL S2 15 N).length = L7 at hC hK7 ⊢
        dsimp only
        go_wp2_with fail
        refine (hC.out).mono ?_
        rintro ev w8 ⟨rfl, hP8, hB8⟩
        have hA8 := hidden (hP8.list)
        have hK8 := hidden (hK7.out.below hB8)
        clear hC hK7 hB8 hP8
        go_wp2_with fail
        refine (hA8.out).mono ?_
        rintro ev w9 ⟨v9, rfl, hK9, hP9, hB9⟩
        have hS := hidden (same_calls hK9 (hK8.out.below hB9) (by have := takenL_len S2 15 N; omega))
        replace hP9 := hidden hP9
        clear hA8 hK8 hK9 hB9
        go_wp2_with fail
        refine (hS.out).mono ?_
        rintro ev w10 ⟨rfl, hB10⟩
        have hQ10 := hidden (QSt.mk ⟨S2, L2, hP9.out.more hB10⟩)
        clear hS hP9 hB10
        go_wp2
        exact hKK.out _ _ _ _ _ _ _ _ _ _ _ _ _ _ _ _ _ _ _ _ _ _ _ _ _ _ _ _ _ _ _ _ _ _ _ _ _ _ _ _ _ _ _ _ _ _ _ _ _ _ _ _ _ _ _ _ _ _ _ _ _ _ _ _ _ _ _ _ _ _ _ _ _ _ _ _ _ _ _ _ _ _ _ _ _ _ _ _ _ _ _ _ _ _ _ _ _ _ _ _ _ _ _ _ _ _ _ _ _ _ _ _ _ _ _ _ _ _ _ _ _ _ _ _ _ _ _ _ _ _ _ _ _ _ _ _ _ _ _ _ _ _ _ _ _ _ _ _ _ _ _ _ _ _ _ _ _ _ _ _ _ _ _ _ _ _ _ _ _ _ _ _ _ _ _ _ _ _ _ _ _ _ _ _ _ _ _ _ _ _ _ hQ10.out
end Go.Proofs.YtildpgingcmfcaaGreatDoor
