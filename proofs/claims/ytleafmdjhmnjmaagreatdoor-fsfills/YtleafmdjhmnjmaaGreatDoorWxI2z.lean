/- FsFills: a file removed. -/
import Derived.Test.YtleafmdjhmnjmaaGreatDoorWxGz
import Derived.Deep.RegionHeld
namespace Go.Proofs.YtleafmdjhmnjmaaGreatDoor
open Go.RowKit Go.Extern.Stop Go.Stop Go.Extern Go.Maps Go.Sort Go.Shelf
set_option maxRecDepth 1000000
set_option maxHeartbeats 8000000 in
theorem fl34 (w : World) (fb xb : Nat) (TX QX : ByteArray) (k : Nat) (hcat : ⟨#[47, 107]⟩ ++ TX = QX) (hs2 : TX.size <= 20) (kN : Hid (∀ wx : World, Calls Tryz.prog 7 #[.int .i64 (k : Int)] wx fun e w' => e = .returned (.string TX) /\ w' = wx)) (S : World -> Prop) (hx : Hid (∀ wx, S wx -> XAt xb fb wx)) (hB : Hid (∀ wx wy, S wx -> Below wx.heap.size wx wy -> S wy)) (S' : World -> Prop) (hx' : Hid (∀ wx, S' wx -> XAt xb fb wx)) (kP : Hid (∀ wx, S wx -> Calls Tryz.prog 15 #[ptr fb, .string QX] wx fun e w'' => e = .returned .nilIface /\ S' w'')) (hS : Hid (S w))
    (x0 x1 x2 x3 x4 x6 x7 x8 x9 x10 x11 x12 x13 x14 x15 x17 x18 x19 x20 x21 x22 x23 x24 x25 x26 x27 x28 x29 x30 x31 x32 x33 x34 x35 x36 x37 x38 x39 x40 x41 x42 x43 x44 x45 x46 x47 x48 x49 x50 x51 x52 x53 x54 x55 x56 x57 x58 x59 x60 x61 x62 x63 x64 x65 x66 x67 x68 x69 x70 x71 x72 x73 x74 x75 x76 x77 x78 x79 x80 x81 x82 x83 x84 x85 x86 x87 x88 x89 x90 x91 x92 x93 x94 x95 x96 x97 x98 x99 x100 x101 x102 x103 x104 x105 x106 x107 x108 x109 x110 x111 x112 x113 x114 x115 x116 x117 x118 x119 x120 x121 x122 x123 x124 x125 x126 x127 x128 x129 x130 x131 x132 x133 x134 x135 x136 x137 x138 x139 x140 x141 x142 x143 x144 x145 x146 x147 x148 x149 x150 x151 x152 x153 x154 x155 x156 x157 x158 x159 x160 x161 x162 x163 x164 x165 x166 x167 x168 x169 x170 x171 x172 x173 x174 x175 x176 x177 x178 x179 x180 x181 x182 x183 x184 x185 x186 x187 x188 x189 x190 x191 x192 x193 x194 x195 x196 x197 x198 x199 x200 x201 x202 x203 x204 x205 x206 x207 x208 : Value) (KK : Act -> World -> Prop) (Q : Exit -> Act -> World -> Prop)
    (hKK : Hid (∀ (v170 v171 v172 v173 v174 v175 v176 v177 : Value)  (w' : World), S' w' -> KK ⟨#[x0, x1, x2, x3, x4, ptr xb, x6, x7, x8, x9, x10, x11, x12, x13, x14, x15, .int .i64 (k : Int), x17, x18, x19, x20, x21, x22, x23, x24, x25, x26, x27, x28, x29, x30, x31, x32, x33, x34, x35, x36, x37, x38, x39, x40, x41, x42, x43, x44, x45, x46, x47, x48, x49, x50, x51, x52, x53, x54, x55, x56, x57, x58, x59, x60, x61, x62, x63, x64, x65, x66, x67, x68, x69, x70, x71, x72, x73, x74, x75, x76, x77, x78, x79, x80, x81, x82, x83, x84, x85, x86, x87, x88, x89, x90, x91, x92, x93, x94, x95, x96, x97, x98, x99, x100, x101, x102, x103, x104, x105, x106, x107, x108, x109, x110, x111, x112, x113, x114, x115, x116, x117, x118, x119, x120, x121, x122, x123, x124, x125, x126, x127, x128, x129, x130, x131, x132, x133, x134, x135, x136, x137, x138, x139, x140, x141, x142, x143, x144, x145, x146, x147, x148, x149, x150, x151, x152, x153, x154, x155, x156, x157, x158, x159, x160, x161, x162, x163, x164, x165, x166, x167, x168, x169, v170, v171, v172, v173, v174, v175, v176, v177, .bool false, x179, x180, x181, x182, x183, x184, x185, x186, x187, x188, x189, x190, x191, x192, x193, x194, x195, x196, x197, x198, x199, x200, x201, x202, x203, x204, x205, x206, x207, x208], []⟩ w'))
    (hQp : Hid (∀ x a a' w, Q (.panic x) a w -> a.defers = a'.defers -> Q (.panic x) a' w)) :
    Code.wp Tryz.prog (((Tryz.f3.body.bind (regionAt 34)).getD .skip)) (Exit.then KK Q) ⟨#[x0, x1, x2, x3, x4, ptr xb, x6, x7, x8, x9, x10, x11, x12, x13, x14, x15, .int .i64 (k : Int), x17, x18, x19, x20, x21, x22, x23, x24, x25, x26, x27, x28, x29, x30, x31, x32, x33, x34, x35, x36, x37, x38, x39, x40, x41, x42, x43, x44, x45, x46, x47, x48, x49, x50, x51, x52, x53, x54, x55, x56, x57, x58, x59, x60, x61, x62, x63, x64, x65, x66, x67, x68, x69, x70, x71, x72, x73, x74, x75, x76, x77, x78, x79, x80, x81, x82, x83, x84, x85, x86, x87, x88, x89, x90, x91, x92, x93, x94, x95, x96, x97, x98, x99, x100, x101, x102, x103, x104, x105, x106, x107, x108, x109, x110, x111, x112, x113, x114, x115, x116, x117, x118, x119, x120, x121, x122, x123, x124, x125, x126, x127, x128, x129, x130, x131, x132, x133, x134, x135, x136, x137, x138, x139, x140, x141, x142, x143, x144, x145, x146, x147, x148, x149, x150, x151, x152, x153, x154, x155, x156, x157, x158, x159, x160, x161, x162, x163, x164, x165, x166, x167, x168, x169, x170, x171, x172, x173, x174, x175, x176, x177, x178, x179, x180, x181, x182, x183, x184, x185, x186, x187, x188, x189, x190, x191, x192, x193, x194, x195, x196, x197, x198, x199, x200, x201, x202, x203, x204, x205, x206, x207, x208], []⟩ w := by
  have hu := hQp
  clear hu
  conv => arg 2; whnf
  try dsimp only
  have hq1 : ¬ 9223372036854775807 < 2 + TX.size := by omega
  have hSd := hidden (hB.out _ _ hS.out (below_drew1 w))
  have hS0 : Hid (XAt xb fb w.drew) := hidden (hx.out _ hSd.out)
  clear hS
  refine wp_region_held_drew (S := XAt xb fb) (by kernel_rfl) hS0.out ?_
  intro _
  generalize w.drew = wd at *
  refine wpAnyH_take (i := 0) (v := ?_) rfl (by kernel_rfl) (by kernel_rfl) (by kernel_rfl) (fun _ _ _ h => hQp.out _ _ _ _ h rfl) (Or.inl ⟨by rfl, ?_⟩) hS0.out ?_
  rotate_left
  · intro w hw; clear hw; go_simp; try (with_reducible rfl)
  refine wpAnyH_take (i := 1) (v := ?_) rfl (by kernel_rfl) (by kernel_rfl) (by kernel_rfl) (fun _ _ _ h => hQp.out _ _ _ _ h rfl) (Or.inl ⟨by rfl, ?_⟩) hS0.out ?_
  rotate_left
  · intro w hw; clear hw; go_simp; try (with_reducible rfl)
  refine wpAnyH_take (i := 2) (v := ?_) rfl (by kernel_rfl) (by kernel_rfl) (by kernel_rfl) (fun _ _ _ h => hQp.out _ _ _ _ h rfl) (Or.inl ⟨by rfl, ?_⟩) hS0.out ?_
  rotate_left
  · intro w hw; clear hw; go_simp; try (with_reducible rfl)
  refine wpAnyH_take (i := 3) (v := ?_) rfl (by kernel_rfl) (by kernel_rfl) (by kernel_rfl) (fun _ _ _ h => hQp.out _ _ _ _ h rfl) (Or.inl ⟨by rfl, ?_⟩) hS0.out ?_
  rotate_left
  · intro w hw; have c := (hw).out; have lc := lt_of_cell (a := ⟨xb, 1, none⟩) c; clear hw; go_simp; try (with_reducible rfl)
  refine wpAnyH_ready (rs := [4]) (by kernel_rfl) (by simp) ?_
  refine AllReadyH.cons rfl (fun K hK => ?_) AllReadyH.nil
  go_simp
  refine hK.out _ _ hS0.out (fun _ => ?_)
  clear hK K
  refine wpAnyH_ready (rs := [5]) (by kernel_rfl) (by simp) ?_
  refine AllReadyH.cons rfl (fun K hK => ?_) AllReadyH.nil
  go_simp
  go_wp2_with (go_at_call 7; refine (kN.out _).mono ?_; rintro ev wN ⟨rfl, hwN⟩; subst wN)
  refine hK.out _ _ (hS0.out) (fun hSn1 => ?_)
  clear hK K
  refine wpAnyH_ready (rs := [6]) (by kernel_rfl) (by simp) ?_
  refine AllReadyH.cons rfl (fun K hK => ?_) AllReadyH.nil
  go_simp
  refine hK.out _ _ hSn1 (fun _ => ?_)
  clear hK K
  refine wpAnyH_ready (rs := [7]) (by kernel_rfl) (by simp) ?_
  refine AllReadyH.cons rfl (fun K hK => ?_) AllReadyH.nil
  go_simp
  go_wp2_with (go_at_call 15; refine (kP.out _ hSd.out).mono ?_; rintro ev w6 ⟨rfl, hS6⟩)
  refine hK.out _ _ (hx'.out _ hS6) (fun hSn2 => ?_)
  replace hS6 := hidden hS6
  clear kP
  clear hK K
  refine wpAnyH_ready (rs := [8]) (by kernel_rfl) (by simp) ?_
  refine AllReadyH.cons rfl (fun K hK => ?_) AllReadyH.nil
  go_simp
  refine hK.out _ _ hSn2 (fun _ => ?_)
  clear hK K
  refine wpAnyH_done (by kernel_rfl) ?_ _
  refine hKK.out _ _ _ _ _ _ _ _ w6 hS6.out
end Go.Proofs.YtleafmdjhmnjmaaGreatDoor
