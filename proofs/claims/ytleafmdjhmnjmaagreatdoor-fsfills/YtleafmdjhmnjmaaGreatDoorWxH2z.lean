/- FsFills: a file kept. -/
import Derived.Test.YtleafmdjhmnjmaaGreatDoorWxGz
import Derived.Deep.RegionHeld
import Derived.Lib.SlBytesConst
namespace Go.Proofs.YtleafmdjhmnjmaaGreatDoor
open Go.RowKit Go.Extern.Stop Go.Stop Go.Extern Go.Maps Go.Sort Go.Shelf
set_option maxRecDepth 1000000
set_option maxHeartbeats 8000000 in
theorem fl21b (w : World) (fb xb : Nat) (TX QX : ByteArray) (k : Nat) (hk : (k : Int) < 8) (hcat : ⟨#[47, 107]⟩ ++ TX = QX) (hs2 : TX.size <= 20) (kN : Hid (∀ wx : World, Calls Tryz.prog 7 #[.int .i64 (k : Int)] wx fun e w' => e = .returned (.string TX) /\ w' = wx)) (S : World -> Prop) (hx : Hid (∀ wx, S wx -> XAt xb fb wx)) (hB : Hid (∀ wx wy, S wx -> Below wx.heap.size wx wy -> S wy)) (R : Value -> World -> Prop) (S' : World -> Prop) (hR : Hid (∀ v wx, R v wx -> (∃ x, v = flt x) /\ S' wx)) (hx' : Hid (∀ v wx, R v wx -> XAt xb fb wx)) (kK : Hid (∀ wx, S wx -> Calls Tryz.prog 13 #[ptr fb, .string QX, (.slice (some ⟨wx.heap.size, 0, none⟩) 1 1)] (wx.alloc (.cells #[.int .u8 120] 5 (1, 2))) fun e w'' => ∃ ev, e = .returned ev /\ R ev w'')) (hS : Hid (S w))
    (x0 x1 x2 x3 x4 x6 x7 x8 x9 x10 x11 x13 x14 x15 x16 x17 x18 x19 x20 x21 x22 x23 x24 x25 x26 x27 x28 x29 x30 x31 x32 x33 x34 x35 x36 x37 x38 x39 x40 x41 x42 x43 x44 x45 x46 x47 x48 x49 x50 x51 x52 x53 x54 x55 x56 x57 x58 x59 x60 x61 x62 x63 x64 x65 x66 x67 x68 x69 x70 x71 x72 x73 x74 x75 x76 x77 x78 x79 x80 x81 x82 x83 x84 x85 x86 x87 x88 x89 x90 x91 x92 x93 x94 x95 x96 x97 x98 x99 x100 x101 x102 x103 x104 x105 x106 x107 x108 x109 x110 x111 x112 x113 x114 x115 x116 x117 x118 x119 x120 x121 x122 x123 x124 x125 x126 x127 x128 x129 x130 x131 x132 x133 x134 x135 x136 x137 x138 x139 x140 x141 x142 x143 x144 x145 x146 x147 x148 x149 x150 x151 x152 x153 x154 x155 x156 x157 x158 x159 x160 x161 x162 x163 x164 x165 x166 x167 x168 x169 x170 x171 x172 x173 x174 x175 x176 x177 x178 x179 x180 x181 x182 x183 x184 x185 x186 x187 x188 x189 x190 x191 x192 x193 x194 x195 x196 x197 x198 x199 x200 x201 x202 x203 x204 x205 x206 x207 x208 : Value) (KK : Act -> World -> Prop) (Q : Exit -> Act -> World -> Prop)
    (hKK : Hid (∀ (v102 v103 v104 v105 v106 v107 v108 v109 v110 v111 v112 v113 v114 v115 : Value)  (w' : World), S' w' -> KK ⟨#[x0, x1, x2, x3, x4, ptr xb, x6, x7, x8, x9, x10, x11, .int .i64 (k : Int), x13, x14, x15, x16, x17, x18, x19, x20, x21, x22, x23, x24, x25, x26, x27, x28, x29, x30, x31, x32, x33, x34, x35, x36, x37, x38, x39, x40, x41, x42, x43, x44, x45, x46, x47, x48, x49, x50, x51, x52, x53, x54, x55, x56, x57, x58, x59, x60, x61, x62, x63, x64, x65, x66, x67, x68, x69, x70, x71, x72, x73, x74, x75, x76, x77, x78, x79, x80, x81, x82, x83, x84, x85, x86, x87, x88, x89, x90, x91, x92, x93, x94, x95, x96, x97, x98, x99, x100, x101, v102, v103, v104, v105, v106, v107, v108, v109, v110, v111, v112, v113, v114, v115, .bool false, x117, x118, x119, x120, x121, x122, x123, x124, x125, x126, x127, x128, x129, x130, x131, x132, x133, x134, x135, x136, x137, x138, x139, x140, x141, x142, x143, x144, x145, x146, x147, x148, x149, x150, x151, x152, x153, x154, x155, x156, x157, x158, x159, x160, x161, x162, x163, x164, x165, x166, x167, x168, x169, x170, x171, x172, x173, x174, x175, x176, x177, x178, x179, x180, x181, x182, x183, x184, x185, x186, x187, x188, x189, x190, x191, x192, x193, x194, x195, x196, x197, x198, x199, x200, x201, x202, x203, x204, x205, x206, x207, x208], []⟩ w'))
    (hQp : Hid (∀ x a a' w, Q (.panic x) a w -> a.defers = a'.defers -> Q (.panic x) a' w)) :
    Code.wp Tryz.prog (((Tryz.f3.body.bind (regionAt 21)).getD .skip)) (Exit.then KK Q) ⟨#[x0, x1, x2, x3, x4, ptr xb, x6, x7, x8, x9, x10, x11, .int .i64 (k : Int), x13, x14, x15, x16, x17, x18, x19, x20, x21, x22, x23, x24, x25, x26, x27, x28, x29, x30, x31, x32, x33, x34, x35, x36, x37, x38, x39, x40, x41, x42, x43, x44, x45, x46, x47, x48, x49, x50, x51, x52, x53, x54, x55, x56, x57, x58, x59, x60, x61, x62, x63, x64, x65, x66, x67, x68, x69, x70, x71, x72, x73, x74, x75, x76, x77, x78, x79, x80, x81, x82, x83, x84, x85, x86, x87, x88, x89, x90, x91, x92, x93, x94, x95, x96, x97, x98, x99, x100, x101, x102, x103, x104, x105, x106, x107, x108, x109, x110, x111, x112, x113, x114, x115, x116, x117, x118, x119, x120, x121, x122, x123, x124, x125, x126, x127, x128, x129, x130, x131, x132, x133, x134, x135, x136, x137, x138, x139, x140, x141, x142, x143, x144, x145, x146, x147, x148, x149, x150, x151, x152, x153, x154, x155, x156, x157, x158, x159, x160, x161, x162, x163, x164, x165, x166, x167, x168, x169, x170, x171, x172, x173, x174, x175, x176, x177, x178, x179, x180, x181, x182, x183, x184, x185, x186, x187, x188, x189, x190, x191, x192, x193, x194, x195, x196, x197, x198, x199, x200, x201, x202, x203, x204, x205, x206, x207, x208], []⟩ w := by
  have hu := hQp
  clear hu
  conv => arg 2; whnf
  try dsimp only
  have hq1 : ¬ 9223372036854775807 < 2 + TX.size := by omega
  have kv := fun (wx : World) => Lib.run_convert_bytes_const (P := Tryz.prog) wx 34 5 #[.int .u8 120] 1 1 Tryz.underlying34 Tryz.underlying5
  simp only [List.size_toArray, List.length_cons, List.length_nil] at kv
  have hSd := hidden (hB.out _ _ hS.out (below_drew1 w))
  have hS0 : Hid (XAt xb fb w.drew) := hidden (hx.out _ hSd.out)
  clear hS
  refine wp_region_held_drew (S := XAt xb fb) (by kernel_rfl) hS0.out ?_
  intro _
  generalize w.drew = wd at *
  refine wpAnyH_actM (a' := ?_) ?_ ?_
  rotate_left
  · go_simp; try (with_reducible rfl)
  refine wpAnyH_ready (rs := [0]) (by kernel_rfl) (by simp) ?_
  refine AllReadyH.cons rfl (fun K hK => ?_) AllReadyH.nil
  go_simp
  refine hK.out _ _ hS0.out (fun _ => ?_)
  clear hK K
  refine wpAnyH_actM (a' := ?_) ?_ ?_
  rotate_left
  · go_simp; try (with_reducible rfl)
  refine wpAnyH_ready (rs := [1]) (by kernel_rfl) (by simp) ?_
  refine AllReadyH.cons rfl (fun K hK => ?_) AllReadyH.nil
  go_simp
  refine hK.out _ _ hS0.out (fun _ => ?_)
  clear hK K
  refine wpAnyH_actM (a' := ?_) ?_ ?_
  rotate_left
  · go_simp; try (with_reducible rfl)
  refine wpAnyH_ready (rs := [2]) (by kernel_rfl) (by simp) ?_
  refine AllReadyH.cons rfl (fun K hK => ?_) AllReadyH.nil
  go_simp
  refine hK.out _ _ hS0.out (fun _ => ?_)
  clear hK K
  refine wpAnyH_take (i := 3) (v := ?_) rfl (by kernel_rfl) (by kernel_rfl) (by kernel_rfl) (fun _ _ _ h => hQp.out _ _ _ _ h rfl) (Or.inl ⟨by rfl, ?_⟩) hS0.out ?_
  rotate_left
  · intro w hw; clear hw; go_simp; try (with_reducible rfl)
  refine wpAnyH_take (i := 4) (v := ?_) rfl (by kernel_rfl) (by kernel_rfl) (by kernel_rfl) (fun _ _ _ h => hQp.out _ _ _ _ h rfl) (Or.inl ⟨by rfl, ?_⟩) hS0.out ?_
  rotate_left
  · intro w hw; clear hw; go_simp; try (with_reducible rfl)
  refine wpAnyH_take (i := 5) (v := ?_) rfl (by kernel_rfl) (by kernel_rfl) (by kernel_rfl) (fun _ _ _ h => hQp.out _ _ _ _ h rfl) (Or.inl ⟨by rfl, ?_⟩) hS0.out ?_
  rotate_left
  · intro w hw; clear hw; go_simp; try (with_reducible rfl)
  refine wpAnyH_take (i := 6) (v := ?_) rfl (by kernel_rfl) (by kernel_rfl) (by kernel_rfl) (fun _ _ _ h => hQp.out _ _ _ _ h rfl) (Or.inl ⟨by rfl, ?_⟩) hS0.out ?_
  rotate_left
  · intro w hw; have c := (hw).out; have lc := lt_of_cell (a := ⟨xb, 1, none⟩) c; clear hw; go_simp; try (with_reducible rfl)
  refine wpAnyH_take (i := 7) (v := ?_) rfl (by kernel_rfl) (by kernel_rfl) (by kernel_rfl) (fun _ _ _ h => hQp.out _ _ _ _ h rfl) (Or.inl ⟨by rfl, ?_⟩) hS0.out ?_
  rotate_left
  · intro w hw; clear hw; go_simp; try (with_reducible rfl)
  refine wpAnyH_actM (a' := ?_) ?_ ?_
  rotate_left
  · go_simp; try (with_reducible rfl)
  refine wpAnyH_ready (rs := [8, 10]) (by kernel_rfl) (by simp) ?_
  refine AllReadyH.cons rfl (fun K hK => ?_) ?_
  · go_simp
    go_wp2_with (go_at_call 7; refine (kN.out _).mono ?_; rintro ev wN ⟨rfl, hwN⟩; subst wN)
    refine hK.out _ _ (hS0.out) (fun hSn1 => ?_)
    clear hK K
    refine wpAnyH_take (i := 9) (v := ?_) rfl (by kernel_rfl) (by kernel_rfl) (by kernel_rfl) (fun _ _ _ h => hQp.out _ _ _ _ h rfl) (Or.inl ⟨by rfl, ?_⟩) hSn1 ?_
    rotate_left
    · intro w hw; clear hw; go_simp; try (with_reducible rfl)
    refine wpAnyH_actM (a' := ?_) ?_ ?_
    rotate_left
    · go_simp; try (with_reducible rfl)
    refine wpAnyH_ready (rs := [10]) (by kernel_rfl) (by simp) ?_
    refine AllReadyH.cons rfl (fun K hK => ?_) AllReadyH.nil
    go_simp
    refine hK.out _ _ (XAt.alloc hSn1) (fun hSn2 => ?_)
    clear hK K
    refine wpAnyH_actM (a' := ?_) ?_ ?_
    rotate_left
    · go_simp; try (with_reducible rfl)
    refine wpAnyH_ready (rs := [11]) (by kernel_rfl) (by simp) ?_
    refine AllReadyH.cons rfl (fun K hK => ?_) AllReadyH.nil
    go_simp
    refine hK.out _ _ (XAt.alloc hS0.out) (fun hSn3 => ?_)
    clear hK K
    refine wpAnyH_actM (a' := ?_) ?_ ?_
    rotate_left
    · go_simp; try (with_reducible rfl)
    refine wpAnyH_ready (rs := [12]) (by kernel_rfl) (by simp) ?_
    refine AllReadyH.cons rfl (fun K hK => ?_) AllReadyH.nil
    go_simp
    go_wp2_with (go_at_call 13; refine (kK.out _ hSd.out).mono ?_; rintro ev w6 ⟨er, rfl, hS6⟩)
    refine hK.out _ _ (hx'.out _ _ hS6) (fun hSn4 => ?_)
    obtain ⟨hev, hS7⟩ := hR.out _ _ hS6
    replace hS7 := hidden hS7
    clear hS6 kK
    obtain ⟨bx, rfl⟩ := hev
    clear hK K
    refine wpAnyH_actM (a' := ?_) ?_ ?_
    rotate_left
    · go_simp; try (with_reducible rfl)
    refine wpAnyH_ready (rs := [13]) (by kernel_rfl) (by simp) ?_
    refine AllReadyH.cons rfl (fun K hK => ?_) AllReadyH.nil
    go_simp
    refine hK.out _ _ hSn4 (fun _ => ?_)
    clear hK K
    refine wpAnyH_actM (a' := ?_) ?_ ?_
    rotate_left
    · go_simp; try (with_reducible rfl)
    refine wpAnyH_ready (rs := [14]) (by kernel_rfl) (by simp) ?_
    refine AllReadyH.cons rfl (fun K hK => ?_) AllReadyH.nil
    go_simp
    refine hK.out _ _ hSn4 (fun _ => ?_)
    clear hK K
    refine wpAnyH_done (by kernel_rfl) ?_ _
    refine hKK.out _ _ _ _ _ _ _ _ _ _ _ _ _ _ w6 hS7.out
  refine AllReadyH.cons rfl (fun K hK => ?_) ?_
  · go_simp
    refine hK.out _ _ (XAt.alloc hS0.out) (fun hSn5 => ?_)
    clear hK K
    refine wpAnyH_actM (a' := ?_) ?_ ?_
    rotate_left
    · go_simp; try (with_reducible rfl)
    refine wpAnyH_ready (rs := [8, 11]) (by kernel_rfl) (by simp) ?_
    refine AllReadyH.cons rfl (fun K hK => ?_) ?_
    · go_simp
      go_wp2_with (go_at_call 7; refine (kN.out _).mono ?_; rintro ev wN ⟨rfl, hwN⟩; subst wN)
      refine hK.out _ _ (hSn5) (fun hSn6 => ?_)
      clear hK K
      refine wpAnyH_take (i := 9) (v := ?_) rfl (by kernel_rfl) (by kernel_rfl) (by kernel_rfl) (fun _ _ _ h => hQp.out _ _ _ _ h rfl) (Or.inl ⟨by rfl, ?_⟩) hSn6 ?_
      rotate_left
      · intro w hw; clear hw; go_simp; try (with_reducible rfl)
      refine wpAnyH_actM (a' := ?_) ?_ ?_
      rotate_left
      · go_simp; try (with_reducible rfl)
      refine wpAnyH_ready (rs := [11]) (by kernel_rfl) (by simp) ?_
      refine AllReadyH.cons rfl (fun K hK => ?_) AllReadyH.nil
      go_simp
      refine hK.out _ _ (XAt.alloc hS0.out) (fun hSn7 => ?_)
      clear hK K
      refine wpAnyH_actM (a' := ?_) ?_ ?_
      rotate_left
      · go_simp; try (with_reducible rfl)
      refine wpAnyH_ready (rs := [12]) (by kernel_rfl) (by simp) ?_
      refine AllReadyH.cons rfl (fun K hK => ?_) AllReadyH.nil
      go_simp
      go_wp2_with (go_at_call 13; refine (kK.out _ hSd.out).mono ?_; rintro ev w6 ⟨er, rfl, hS6⟩)
      refine hK.out _ _ (hx'.out _ _ hS6) (fun hSn8 => ?_)
      obtain ⟨hev, hS7⟩ := hR.out _ _ hS6
      replace hS7 := hidden hS7
      clear hS6 kK
      obtain ⟨bx, rfl⟩ := hev
      clear hK K
      refine wpAnyH_actM (a' := ?_) ?_ ?_
      rotate_left
      · go_simp; try (with_reducible rfl)
      refine wpAnyH_ready (rs := [13]) (by kernel_rfl) (by simp) ?_
      refine AllReadyH.cons rfl (fun K hK => ?_) AllReadyH.nil
      go_simp
      refine hK.out _ _ hSn8 (fun _ => ?_)
      clear hK K
      refine wpAnyH_actM (a' := ?_) ?_ ?_
      rotate_left
      · go_simp; try (with_reducible rfl)
      refine wpAnyH_ready (rs := [14]) (by kernel_rfl) (by simp) ?_
      refine AllReadyH.cons rfl (fun K hK => ?_) AllReadyH.nil
      go_simp
      refine hK.out _ _ hSn8 (fun _ => ?_)
      clear hK K
      refine wpAnyH_done (by kernel_rfl) ?_ _
      refine hKK.out _ _ _ _ _ _ _ _ _ _ _ _ _ _ w6 hS7.out
    refine AllReadyH.cons rfl (fun K hK => ?_) ?_
    · go_simp
      refine hK.out _ _ (XAt.alloc hS0.out) (fun hSn9 => ?_)
      clear hK K
      refine wpAnyH_actM (a' := ?_) ?_ ?_
      rotate_left
      · go_simp; try (with_reducible rfl)
      refine wpAnyH_ready (rs := [8]) (by kernel_rfl) (by simp) ?_
      refine AllReadyH.cons rfl (fun K hK => ?_) AllReadyH.nil
      go_simp
      go_wp2_with (go_at_call 7; refine (kN.out _).mono ?_; rintro ev wN ⟨rfl, hwN⟩; subst wN)
      refine hK.out _ _ (hSn9) (fun hSn10 => ?_)
      clear hK K
      refine wpAnyH_actM (a' := ?_) ?_ ?_
      rotate_left
      · go_simp; try (with_reducible rfl)
      refine wpAnyH_ready (rs := [9]) (by kernel_rfl) (by simp) ?_
      refine AllReadyH.cons rfl (fun K hK => ?_) AllReadyH.nil
      go_simp
      refine hK.out _ _ hSn10 (fun _ => ?_)
      clear hK K
      refine wpAnyH_actM (a' := ?_) ?_ ?_
      rotate_left
      · go_simp; try (with_reducible rfl)
      refine wpAnyH_ready (rs := [12]) (by kernel_rfl) (by simp) ?_
      refine AllReadyH.cons rfl (fun K hK => ?_) AllReadyH.nil
      go_simp
      go_wp2_with (go_at_call 13; refine (kK.out _ hSd.out).mono ?_; rintro ev w6 ⟨er, rfl, hS6⟩)
      refine hK.out _ _ (hx'.out _ _ hS6) (fun hSn11 => ?_)
      obtain ⟨hev, hS7⟩ := hR.out _ _ hS6
      replace hS7 := hidden hS7
      clear hS6 kK
      obtain ⟨bx, rfl⟩ := hev
      clear hK K
      refine wpAnyH_actM (a' := ?_) ?_ ?_
      rotate_left
      · go_simp; try (with_reducible rfl)
      refine wpAnyH_ready (rs := [13]) (by kernel_rfl) (by simp) ?_
      refine AllReadyH.cons rfl (fun K hK => ?_) AllReadyH.nil
      go_simp
      refine hK.out _ _ hSn11 (fun _ => ?_)
      clear hK K
      refine wpAnyH_actM (a' := ?_) ?_ ?_
      rotate_left
      · go_simp; try (with_reducible rfl)
      refine wpAnyH_ready (rs := [14]) (by kernel_rfl) (by simp) ?_
      refine AllReadyH.cons rfl (fun K hK => ?_) AllReadyH.nil
      go_simp
      refine hK.out _ _ hSn11 (fun _ => ?_)
      clear hK K
      refine wpAnyH_done (by kernel_rfl) ?_ _
      refine hKK.out _ _ _ _ _ _ _ _ _ _ _ _ _ _ w6 hS7.out
    exact AllReadyH.nil
  exact AllReadyH.nil
end Go.Proofs.YtleafmdjhmnjmaaGreatDoor
