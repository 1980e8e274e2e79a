/- CachePlays, cut into declarations: a Write, and any call of the script. -/
import Derived.Test.YtkaippiblpedhaaGreatDoorCqA
import Derived.Deep.CutBlock
import Derived.Deep.RegionHeld
namespace Go.Proofs.YtkaippiblpedhaaGreatDoor
open Go.RowKit Go.Extern.Stop Go.Stop Go.Extern
set_option maxRecDepth 1000000


set_option maxHeartbeats 8000000 in
theorem cp_insert (w : World) (d g jb cb mb nb lb ob most : Nat) (o : OpV) (M : Chg) (f fl : Nat → ByteArray) (mem : Nat → Int) (wrr : Int) (w5 : World) (hR : Hid (Rc w d g jb cb mb nb lb ob most o M f fl mem wrr w5)) (base : Nat) (a : Option Addr) (cap : Nat) (ks : List Int) (hV : Hid (Kept base w5 (.slice a ks.length cap) ks)) (hks : ks.length ≤ 8) (k : Nat) (hk : k ≤ ks.length) (hbs : base ≤ w5.heap.size)
    (x0 x1 x2 x3 x4 x5 x6 x7 x8 x9 x11 x13 x14 x15 x16 x18 x19 x20 x21 x22 x23 x24 x25 x26 x27 x28 x29 x30 x31 x32 x33 x34 x35 x36 x37 x38 x39 x40 x41 x42 x43 x44 x45 x46 x47 x48 x49 x50 x51 x52 x53 x54 x55 x56 x57 x58 x59 x60 x61 x62 x63 x64 x65 x66 x67 x68 x69 x70 x71 x72 x73 x74 x75 x76 x77 x78 x79 x80 x81 x82 x83 x84 x85 x86 x87 x88 x89 x90 x91 x92 x93 x94 x95 x96 x97 x98 x99 x100 x101 x102 x103 x104 x105 x106 x107 x108 x109 x110 x111 x112 x113 x114 x115 x116 x117 x118 x119 x120 x121 x122 x123 x124 x125 x126 x127 x128 x129 x130 x131 x132 x133 x134 x135 x136 x137 x138 x139 x140 x141 x142 x143 x144 x145 x146 x147 x148 x149 x150 x151 x152 x153 x154 x155 x156 x157 x158 x159 x160 x161 x162 x163 x164 x165 x166 x167 x168 x169 x170 x171 x172 x173 x174 x175 x176 x177 x178 x179 x180 x181 x182 x183 x184 x185 x186 x187 x188 x189 x190 x191 x192 x193 x194 x195 x196 x197 x198 x199 x200 x201 x202 x203 x204 x205 x206 x207 x208 x209 x210 x211 x212 x213 x214 x215 x216 x217 x218 x219 x220 x221 x222 x223 x224 x225 x226 x227 x228 x229 x230 x231 x232 x233 x234 x235 x236 x237 x238 x239 x240 x241 x242 x243 x244 x245 x246 x247 x248 x249 x250 x251 x252 x253 x254 x255 x256 x257 x258 x259 x260 x261 x262 x263 x264 x265 x266 x267 x268 x269 x270 x271 x272 x273 x274 x275 x276 x277 x278 x279 : Value) (KK : Act → World → Prop) (Q : Exit → Act → World → Prop)
    (hKK : Hid (∀ (v187 v188 v189 v190 v191 v192 v193 v194 v195 v196 v197 v198 v199 : Value) (v' : Value) (w' : World), Kept base w' v' (ks.take k ++ o.no :: ks.drop k) → Below w5.heap.size w5 w' → KK ⟨#[x0, x1, x2, x3, x4, x5, x6, x7, x8, x9, v', x11, ptr ob, x13, x14, x15, x16, .int .i64 k, x18, x19, x20, x21, x22, x23, x24, x25, x26, x27, x28, x29, x30, x31, x32, x33, x34, x35, x36, x37, x38, x39, x40, x41, x42, x43, x44, x45, x46, x47, x48, x49, x50, x51, x52, x53, x54, x55, x56, x57, x58, x59, x60, x61, x62, x63, x64, x65, x66, x67, x68, x69, x70, x71, x72, x73, x74, x75, x76, x77, x78, x79, x80, x81, x82, x83, x84, x85, x86, x87, x88, x89, x90, x91, x92, x93, x94, x95, x96, x97, x98, x99, x100, x101, x102, x103, x104, x105, x106, x107, x108, x109, x110, x111, x112, x113, x114, x115, x116, x117, x118, x119, x120, x121, x122, x123, x124, x125, x126, x127, x128, x129, x130, x131, x132, x133, x134, x135, x136, x137, x138, x139, x140, x141, x142, x143, x144, x145, x146, x147, x148, x149, x150, x151, x152, x153, x154, x155, x156, x157, x158, x159, x160, x161, x162, x163, x164, x165, x166, x167, x168, x169, x170, x171, x172, x173, x174, x175, x176, x177, x178, x179, x180, x181, x182, x183, x184, x185, x186, v187, v188, v189, v190, v191, v192, v193, v194, v195, v196, v197, v198, v199, x200, x201, x202, x203, x204, x205, x206, x207, x208, x209, x210, x211, x212, x213, x214, x215, x216, x217, x218, x219, x220, x221, x222, x223, x224, x225, x226, x227, x228, x229, x230, x231, x232, x233, x234, x235, x236, x237, x238, x239, x240, x241, x242, x243, x244, x245, x246, x247, x248, x249, x250, x251, x252, x253, x254, x255, x256, x257, x258, x259, x260, x261, x262, x263, x264, x265, x266, x267, x268, x269, x270, x271, x272, x273, x274, x275, x276, x277, x278, x279], []⟩ w'))
    (hQp : Hid (∀ x a a' w, Q (.panic x) a w → a.defers = a'.defers → Q (.panic x) a' w)) :
    Code.wp Tryz.prog (((Tryz.f3.body.bind (regionAt 39)).getD .skip)) (Exit.then KK Q) ⟨#[x0, x1, x2, x3, x4, x5, x6, x7, x8, x9, .slice a ks.length cap, x11, ptr ob, x13, x14, x15, x16, .int .i64 k, x18, x19, x20, x21, x22, x23, x24, x25, x26, x27, x28, x29, x30, x31, x32, x33, x34, x35, x36, x37, x38, x39, x40, x41, x42, x43, x44, x45, x46, x47, x48, x49, x50, x51, x52, x53, x54, x55, x56, x57, x58, x59, x60, x61, x62, x63, x64, x65, x66, x67, x68, x69, x70, x71, x72, x73, x74, x75, x76, x77, x78, x79, x80, x81, x82, x83, x84, x85, x86, x87, x88, x89, x90, x91, x92, x93, x94, x95, x96, x97, x98, x99, x100, x101, x102, x103, x104, x105, x106, x107, x108, x109, x110, x111, x112, x113, x114, x115, x116, x117, x118, x119, x120, x121, x122, x123, x124, x125, x126, x127, x128, x129, x130, x131, x132, x133, x134, x135, x136, x137, x138, x139, x140, x141, x142, x143, x144, x145, x146, x147, x148, x149, x150, x151, x152, x153, x154, x155, x156, x157, x158, x159, x160, x161, x162, x163, x164, x165, x166, x167, x168, x169, x170, x171, x172, x173, x174, x175, x176, x177, x178, x179, x180, x181, x182, x183, x184, x185, x186, x187, x188, x189, x190, x191, x192, x193, x194, x195, x196, x197, x198, x199, x200, x201, x202, x203, x204, x205, x206, x207, x208, x209, x210, x211, x212, x213, x214, x215, x216, x217, x218, x219, x220, x221, x222, x223, x224, x225, x226, x227, x228, x229, x230, x231, x232, x233, x234, x235, x236, x237, x238, x239, x240, x241, x242, x243, x244, x245, x246, x247, x248, x249, x250, x251, x252, x253, x254, x255, x256, x257, x258, x259, x260, x261, x262, x263, x264, x265, x266, x267, x268, x269, x270, x271, x272, x273, x274, x275, x276, x277, x278, x279], []⟩ w5 := by
  have hu := hQp
  clear hu
  conv => arg 2; whnf
  try dsimp only
  have hu2 := And.intro hks hk
  clear hu2
  have hS0 : Below w5.heap.size w5 w5.drew := (Below.refl _ _).drew
  have k1 := hidden (fun wx (hx : Below w5.heap.size w5 wx) => (hR.out.below hx).o1)
  generalize o.no = no at k1 hKK
  rcases hV.out.row.2 with ⟨hv, h0⟩ | ⟨gb, cap', cur, hv, h1, hh, h2, h3, h4, h5⟩
  · obtain ⟨rfl, -, rfl⟩ := Value.slice.inj hv
    have hk0 : ks = [] := List.length_eq_zero_iff.1 h0
    subst hk0
    obtain rfl : k = 0 := by simpa using hk
    clear hR hV hv h0
    refine wp_region_held_drew (S := fun w' => Below w5.heap.size w5 w') (by kernel_rfl) hS0 ?_
    intro _
    refine wpAnyH_take (i := 1) (v := ?_) rfl (by kernel_rfl) (by kernel_rfl) (by kernel_rfl) (fun _ _ _ h => hQp.out _ _ _ _ h rfl) (Or.inl ⟨by rfl, ?_⟩) hS0 ?_
    rotate_left
    · intro w hw; clear hw; go_simp; try (with_reducible rfl)
    refine wpAnyH_take (i := 2) (v := ?_) rfl (by kernel_rfl) (by kernel_rfl) (by kernel_rfl) (fun _ _ _ h => hQp.out _ _ _ _ h rfl) (Or.inl ⟨by rfl, ?_⟩) hS0 ?_
    rotate_left
    · intro w hw; clear hw; go_simp; try (with_reducible rfl)
    refine wpAnyH_take (i := 3) (v := ?_) rfl (by kernel_rfl) (by kernel_rfl) (by kernel_rfl) (fun _ _ _ h => hQp.out _ _ _ _ h rfl) (Or.inl ⟨by rfl, ?_⟩) hS0 ?_
    rotate_left
    · intro w hw; clear hw; go_simp; try (with_reducible rfl)
    refine wpAnyH_take (i := 5) (v := ?_) rfl (by kernel_rfl) (by kernel_rfl) (by kernel_rfl) (fun _ _ _ h => hQp.out _ _ _ _ h rfl) (Or.inl ⟨by rfl, ?_⟩) hS0 ?_
    rotate_left
    · intro w hw; clear hw; go_simp; try (with_reducible rfl)
    refine wpAnyH_take (i := 6) (v := ?_) rfl (by kernel_rfl) (by kernel_rfl) (by kernel_rfl) (fun _ _ _ h => hQp.out _ _ _ _ h rfl) (Or.inl ⟨by rfl, ?_⟩) hS0 ?_
    rotate_left
    · intro w hw; have c1 := k1.out _ hw; clear hw; go_simp; try (with_reducible rfl)
    refine wpAnyH_take (i := 9) (v := ?_) rfl (by kernel_rfl) (by kernel_rfl) (by kernel_rfl) (fun _ _ _ h => hQp.out _ _ _ _ h rfl) (Or.inl ⟨by rfl, ?_⟩) hS0 ?_
    rotate_left
    · intro w hw; clear hw; go_simp; try (with_reducible rfl)
    refine wpAnyH_take (i := 10) (v := ?_) rfl (by kernel_rfl) (by kernel_rfl) (by kernel_rfl) (fun _ _ _ h => hQp.out _ _ _ _ h rfl) (Or.inl ⟨by rfl, ?_⟩) hS0 ?_
    rotate_left
    · intro w hw; clear hw; go_simp; try (with_reducible rfl)
    refine wpAnyH_take (i := 11) (v := ?_) rfl (by kernel_rfl) (by kernel_rfl) (by kernel_rfl) (fun _ _ _ h => hQp.out _ _ _ _ h rfl) (Or.inl ⟨by rfl, ?_⟩) hS0 ?_
    rotate_left
    · intro w hw; clear hw; go_simp; try (with_reducible rfl)
    refine wpAnyH_ready (rs := [0, 7]) (by kernel_rfl) (by simp) ?_
    refine AllReadyH.cons rfl (fun K hK => ?_) ?_
    · go_simp
      refine hK.out _ _ ((hS0).alloc (hS0).size _) (fun hSn1 => ?_)
      have hq0 := hidden (kept_new (base := w5.heap.size) w5.drew (w5.heap.size) (by simp) (hS0).size)
      try (replace hz7 := hidden (((show Below (w5.drew).heap.size w5.drew ((w5.drew).alloc (.cells #[] 3)) from (Below.refl _ _).alloc (Nat.le_refl _) _).cell (p := ⟨_, 0, none⟩) (lt_of_cell (a := ⟨_, 0, none⟩) hz7.out)).trans hz7.out))
      clear hK K
      go_simp
      refine wpAnyH_ready (rs := [4, 7]) (by kernel_rfl) (by simp) ?_
      refine AllReadyH.cons rfl (fun K hK => ?_) ?_
      · have hr1 := kept_append_none hq0.out 30
        refine any_append rfl rfl _ _ _ _ rfl rfl hr1 ?_
        refine hK.out _ _ (hSn1) (fun hSn2 => ?_)
        have hq1 := hidden hq0.out
        clear hK K
        refine wpAnyH_ready (rs := [7]) (by kernel_rfl) (by simp) ?_
        refine AllReadyH.cons rfl (fun K hK => ?_) AllReadyH.nil
        go_simp
        refine hK.out _ _ ((hSn2).alloc (hSn2).size _) (fun hSn3 => ?_)
        have hz7 := hidden (one_cell ((w5.drew).alloc (.cells #[] 3)) (.int .i64 no) (w5.heap.size + 1) (by simp))
        try (replace hq0 := hidden (hq0.out.below (w' := ((((w5.drew).alloc (.cells #[] 3))).alloc (.cells #[.int .i64 no] 3))) ((Below.refl _ _).alloc (Nat.le_refl _) _)))
        try (replace hq1 := hidden (hq1.out.below (w' := ((((w5.drew).alloc (.cells #[] 3))).alloc (.cells #[.int .i64 no] 3))) ((Below.refl _ _).alloc (Nat.le_refl _) _)))
        clear hK K
        go_simp
        refine wpAnyH_ready (rs := [8]) (by kernel_rfl) (by simp) ?_
        refine AllReadyH.cons rfl (fun K hK => ?_) AllReadyH.nil
        have hz8 : ∀ j, j < 1 → (((((w5.drew).alloc (.cells #[] 3))).alloc (.cells #[.int .i64 no] 3))).cell? (Addr.add ⟨_, 0, none⟩ j) = some (.int .i64 (([no] : List Int).getD j 0)) := fun j hj => by (obtain rfl : j = 0 := by omega); exact hz7.out
        obtain ⟨v2, w2, hr2, hq2, hb2, hkp2⟩ := kept_append hq1.out _ 1 1 [no] rfl hz8 (by (try simp) <;> omega) (hSn3).size 30
        refine any_append rfl rfl _ _ _ _ rfl rfl hr2 ?_
        refine hK.out _ _ ((hSn3).trans hb2) (fun hSn4 => ?_)
        replace hq2 := hidden hq2
        clear hq1 hz7 hz8
        clear hK K
        go_simp
        refine wpAnyH_ready (rs := [12]) (by kernel_rfl) (by simp) ?_
        refine AllReadyH.cons rfl (fun K hK => ?_) AllReadyH.nil
        have hr3 := kept_append_none hq2.out 30
        refine any_append rfl rfl _ _ _ _ rfl rfl hr3 ?_
        refine hK.out _ _ (hSn4) (fun hSn5 => ?_)
        have hq3 := hidden hq2.out
        clear hK K
        refine wpAnyH_ready (rs := [13]) (by kernel_rfl) (by simp) ?_
        refine AllReadyH.cons rfl (fun K hK => ?_) AllReadyH.nil
        go_simp
        refine hK.out _ _ hSn5 (fun _ => ?_)
        clear hK K
        refine wpAnyH_done (by kernel_rfl) ?_ _
        go_wp2_with fail
        exact hKK.out _ _ _ _ _ _ _ _ _ _ _ _ _ _ _ (by have := hq3.out.mono hbs; simpa using this) hSn5
      refine AllReadyH.cons rfl (fun K hK => ?_) ?_
      · go_simp
        refine hK.out _ _ ((hSn1).alloc (hSn1).size _) (fun hSn6 => ?_)
        have hz7 := hidden (one_cell ((w5.drew).alloc (.cells #[] 3)) (.int .i64 no) (w5.heap.size + 1) (by simp))
        try (replace hq0 := hidden (hq0.out.below (w' := ((((w5.drew).alloc (.cells #[] 3))).alloc (.cells #[.int .i64 no] 3))) ((Below.refl _ _).alloc (Nat.le_refl _) _)))
        try (replace hq1 := hidden (hq1.out.below (w' := ((((w5.drew).alloc (.cells #[] 3))).alloc (.cells #[.int .i64 no] 3))) ((Below.refl _ _).alloc (Nat.le_refl _) _)))
        clear hK K
        go_simp
        refine wpAnyH_ready (rs := [4]) (by kernel_rfl) (by simp) ?_
        refine AllReadyH.cons rfl (fun K hK => ?_) AllReadyH.nil
        have hr1 := kept_append_none hq0.out 30
        refine any_append rfl rfl _ _ _ _ rfl rfl hr1 ?_
        refine hK.out _ _ (hSn6) (fun hSn7 => ?_)
        have hq1 := hidden hq0.out
        clear hK K
        go_simp
        refine wpAnyH_ready (rs := [8]) (by kernel_rfl) (by simp) ?_
        refine AllReadyH.cons rfl (fun K hK => ?_) AllReadyH.nil
        have hz8 : ∀ j, j < 1 → (((((w5.drew).alloc (.cells #[] 3))).alloc (.cells #[.int .i64 no] 3))).cell? (Addr.add ⟨_, 0, none⟩ j) = some (.int .i64 (([no] : List Int).getD j 0)) := fun j hj => by (obtain rfl : j = 0 := by omega); exact hz7.out
        obtain ⟨v2, w2, hr2, hq2, hb2, hkp2⟩ := kept_append hq1.out _ 1 1 [no] rfl hz8 (by (try simp) <;> omega) (hSn7).size 30
        refine any_append rfl rfl _ _ _ _ rfl rfl hr2 ?_
        refine hK.out _ _ ((hSn7).trans hb2) (fun hSn8 => ?_)
        replace hq2 := hidden hq2
        clear hq1 hz7 hz8
        clear hK K
        go_simp
        refine wpAnyH_ready (rs := [12]) (by kernel_rfl) (by simp) ?_
        refine AllReadyH.cons rfl (fun K hK => ?_) AllReadyH.nil
        have hr3 := kept_append_none hq2.out 30
        refine any_append rfl rfl _ _ _ _ rfl rfl hr3 ?_
        refine hK.out _ _ (hSn8) (fun hSn9 => ?_)
        have hq3 := hidden hq2.out
        clear hK K
        refine wpAnyH_ready (rs := [13]) (by kernel_rfl) (by simp) ?_
        refine AllReadyH.cons rfl (fun K hK => ?_) AllReadyH.nil
        go_simp
        refine hK.out _ _ hSn9 (fun _ => ?_)
        clear hK K
        refine wpAnyH_done (by kernel_rfl) ?_ _
        go_wp2_with fail
        exact hKK.out _ _ _ _ _ _ _ _ _ _ _ _ _ _ _ (by have := hq3.out.mono hbs; simpa using this) hSn9
      exact AllReadyH.nil
    refine AllReadyH.cons rfl (fun K hK => ?_) ?_
    · go_simp
      refine hK.out _ _ ((hS0).alloc (hS0).size _) (fun hSn10 => ?_)
      have hz7 := hidden (one_cell w5.drew (.int .i64 no) (w5.heap.size) (by simp))
      try (replace hq0 := hidden (hq0.out.below (w' := ((w5.drew).alloc (.cells #[.int .i64 no] 3))) ((Below.refl _ _).alloc (Nat.le_refl _) _)))
      try (replace hq1 := hidden (hq1.out.below (w' := ((w5.drew).alloc (.cells #[.int .i64 no] 3))) ((Below.refl _ _).alloc (Nat.le_refl _) _)))
      clear hK K
      refine wpAnyH_ready (rs := [0]) (by kernel_rfl) (by simp) ?_
      refine AllReadyH.cons rfl (fun K hK => ?_) AllReadyH.nil
      go_simp
      refine hK.out _ _ ((hSn10).alloc (hSn10).size _) (fun hSn11 => ?_)
      have hq0 := hidden (kept_new (base := w5.heap.size) ((w5.drew).alloc (.cells #[.int .i64 no] 3)) (w5.heap.size + 1) (by simp) (hSn10).size)
      try (replace hz7 := hidden (((show Below (((w5.drew).alloc (.cells #[.int .i64 no] 3))).heap.size ((w5.drew).alloc (.cells #[.int .i64 no] 3)) ((((w5.drew).alloc (.cells #[.int .i64 no] 3))).alloc (.cells #[] 3)) from (Below.refl _ _).alloc (Nat.le_refl _) _).cell (p := ⟨_, 0, none⟩) (lt_of_cell (a := ⟨_, 0, none⟩) hz7.out)).trans hz7.out))
      clear hK K
      go_simp
      refine wpAnyH_ready (rs := [4]) (by kernel_rfl) (by simp) ?_
      refine AllReadyH.cons rfl (fun K hK => ?_) AllReadyH.nil
      have hr1 := kept_append_none hq0.out 30
      refine any_append rfl rfl _ _ _ _ rfl rfl hr1 ?_
      refine hK.out _ _ (hSn11) (fun hSn12 => ?_)
      have hq1 := hidden hq0.out
      clear hK K
      go_simp
      refine wpAnyH_ready (rs := [8]) (by kernel_rfl) (by simp) ?_
      refine AllReadyH.cons rfl (fun K hK => ?_) AllReadyH.nil
      have hz8 : ∀ j, j < 1 → (((((w5.drew).alloc (.cells #[.int .i64 no] 3))).alloc (.cells #[] 3))).cell? (Addr.add ⟨_, 0, none⟩ j) = some (.int .i64 (([no] : List Int).getD j 0)) := fun j hj => by (obtain rfl : j = 0 := by omega); exact hz7.out
      obtain ⟨v2, w2, hr2, hq2, hb2, hkp2⟩ := kept_append hq1.out _ 1 1 [no] rfl hz8 (by (try simp) <;> omega) (hSn12).size 30
      refine any_append rfl rfl _ _ _ _ rfl rfl hr2 ?_
      refine hK.out _ _ ((hSn12).trans hb2) (fun hSn13 => ?_)
      replace hq2 := hidden hq2
      clear hq1 hz7 hz8
      clear hK K
      go_simp
      refine wpAnyH_ready (rs := [12]) (by kernel_rfl) (by simp) ?_
      refine AllReadyH.cons rfl (fun K hK => ?_) AllReadyH.nil
      have hr3 := kept_append_none hq2.out 30
      refine any_append rfl rfl _ _ _ _ rfl rfl hr3 ?_
      refine hK.out _ _ (hSn13) (fun hSn14 => ?_)
      have hq3 := hidden hq2.out
      clear hK K
      refine wpAnyH_ready (rs := [13]) (by kernel_rfl) (by simp) ?_
      refine AllReadyH.cons rfl (fun K hK => ?_) AllReadyH.nil
      go_simp
      refine hK.out _ _ hSn14 (fun _ => ?_)
      clear hK K
      refine wpAnyH_done (by kernel_rfl) ?_ _
      go_wp2_with fail
      exact hKK.out _ _ _ _ _ _ _ _ _ _ _ _ _ _ _ (by have := hq3.out.mono hbs; simpa using this) hSn14
    exact AllReadyH.nil
  · obtain ⟨rfl, -, rfl⟩ := Value.slice.inj hv
    have hncap : ks.length ≤ cap := h2
    have kC := hidden (fun wx (hx : Below w5.heap.size w5 wx) (j : Nat) (hj : j < ks.length) => show wx.cell? ⟨gb, j, none⟩ = some (.int .i64 (ks.getD j 0)) by
      obtain ⟨a2, cap2, e2, hf2⟩ := (hV.out.below hx).form
      obtain ⟨rfl, -, -⟩ := Value.slice.inj e2
      obtain ⟨b2, e3, -, -, hcl2⟩ := hf2 (by intro e; rw [e] at hj; simp at hj)
      obtain ⟨rfl, -, -⟩ := Addr.mk.inj (Option.some.inj e3)
      exact hcl2 j hj)
    have hk1 : (k : Int) ≤ (cap : Int) := by omega
    have hk2 : (k : Int) ≤ (ks.length : Int) := by omega
    clear hR hV hv h1 hh h3 h4 h5
    by_cases hck : cap = k
    · obtain rfl : k = ks.length := by omega
      have e1 : cap - ks.length = 0 := by omega
      refine wp_region_held_drew (S := fun w' => Below w5.heap.size w5 w') (by kernel_rfl) hS0 ?_
      intro _
      refine wpAnyH_take (i := 1) (v := ?_) rfl (by kernel_rfl) (by kernel_rfl) (by kernel_rfl) (fun _ _ _ h => hQp.out _ _ _ _ h rfl) (Or.inl ⟨by rfl, ?_⟩) hS0 ?_
      rotate_left
      · intro w hw; clear hw; go_simp; try (with_reducible rfl)
      refine wpAnyH_take (i := 2) (v := ?_) rfl (by kernel_rfl) (by kernel_rfl) (by kernel_rfl) (fun _ _ _ h => hQp.out _ _ _ _ h rfl) (Or.inl ⟨by rfl, ?_⟩) hS0 ?_
      rotate_left
      · intro w hw; clear hw; go_simp; try (with_reducible rfl)
      refine wpAnyH_take (i := 3) (v := ?_) rfl (by kernel_rfl) (by kernel_rfl) (by kernel_rfl) (fun _ _ _ h => hQp.out _ _ _ _ h rfl) (Or.inl ⟨by rfl, ?_⟩) hS0 ?_
      rotate_left
      · intro w hw; clear hw; go_simp; try (with_reducible rfl)
      refine wpAnyH_take (i := 5) (v := ?_) rfl (by kernel_rfl) (by kernel_rfl) (by kernel_rfl) (fun _ _ _ h => hQp.out _ _ _ _ h rfl) (Or.inl ⟨by rfl, ?_⟩) hS0 ?_
      rotate_left
      · intro w hw; clear hw; go_simp; try (with_reducible rfl)
      refine wpAnyH_take (i := 6) (v := ?_) rfl (by kernel_rfl) (by kernel_rfl) (by kernel_rfl) (fun _ _ _ h => hQp.out _ _ _ _ h rfl) (Or.inl ⟨by rfl, ?_⟩) hS0 ?_
      rotate_left
      · intro w hw; have c1 := k1.out _ hw; clear hw; go_simp; try (with_reducible rfl)
      refine wpAnyH_take (i := 9) (v := ?_) rfl (by kernel_rfl) (by kernel_rfl) (by kernel_rfl) (fun _ _ _ h => hQp.out _ _ _ _ h rfl) (Or.inl ⟨by rfl, ?_⟩) hS0 ?_
      rotate_left
      · intro w hw; clear hw; go_simp; try (with_reducible rfl)
      refine wpAnyH_take (i := 10) (v := ?_) rfl (by kernel_rfl) (by kernel_rfl) (by kernel_rfl) (fun _ _ _ h => hQp.out _ _ _ _ h rfl) (Or.inl ⟨by rfl, ?_⟩) hS0 ?_
      rotate_left
      · intro w hw; clear hw; go_simp; try (with_reducible rfl)
      refine wpAnyH_take (i := 11) (v := ?_) rfl (by kernel_rfl) (by kernel_rfl) (by kernel_rfl) (fun _ _ _ h => hQp.out _ _ _ _ h rfl) (Or.inl ⟨by rfl, ?_⟩) hS0 ?_
      rotate_left
      · intro w hw; clear hw; go_simp; try (with_reducible rfl)
      refine wpAnyH_ready (rs := [0, 7]) (by kernel_rfl) (by simp) ?_
      refine AllReadyH.cons rfl (fun K hK => ?_) ?_
      · go_simp
        refine hK.out _ _ ((hS0).alloc (hS0).size _) (fun hSn1 => ?_)
        have hq0 := hidden (kept_new (base := w5.heap.size) w5.drew (w5.heap.size) (by simp) (hS0).size)
        try (replace hz7 := hidden (((show Below (w5.drew).heap.size w5.drew ((w5.drew).alloc (.cells #[] 3)) from (Below.refl _ _).alloc (Nat.le_refl _) _).cell (p := ⟨_, 0, none⟩) (lt_of_cell (a := ⟨_, 0, none⟩) hz7.out)).trans hz7.out))
        clear hK K
        go_simp
        refine wpAnyH_ready (rs := [4, 7]) (by kernel_rfl) (by simp) ?_
        refine AllReadyH.cons rfl (fun K hK => ?_) ?_
        · obtain ⟨v1, w1, hr1, hq1, hb1, hkp1⟩ := kept_append hq0.out ⟨gb, 0, none⟩ ks.length cap (ks.take ks.length) (by simp) (fun j hj => by rw [Go.WideShapes.add_plain, Nat.zero_add]; exact (show (((w5.drew).alloc (.cells #[] 3))).cell? ⟨gb, j, none⟩ = some (.int .i64 (ks.getD j 0)) from kC.out _ hSn1 j (by omega)).trans (by simp [List.getD, hj])) (by (try simp) <;> omega) (hSn1).size 30
          refine any_append rfl rfl _ _ _ _ rfl rfl hr1 ?_
          refine hK.out _ _ ((hSn1).trans hb1) (fun hSn2 => ?_)
          replace hq1 := hidden hq1
          try (replace hz7 := hidden ((World.cell?_of_block (hkp1 _ (lt_of_cell (a := ⟨_, 0, none⟩) hz7.out) (by simp [Value.ownBlock]))).trans hz7.out))
          clear hK K
          refine wpAnyH_ready (rs := [7]) (by kernel_rfl) (by simp) ?_
          refine AllReadyH.cons rfl (fun K hK => ?_) AllReadyH.nil
          go_simp
          refine hK.out _ _ ((hSn2).alloc (hSn2).size _) (fun hSn3 => ?_)
          have hz7 := hidden (one_cell w1 (.int .i64 no) (w1.heap.size) (by simp))
          try (replace hq0 := hidden (hq0.out.below (w' := ((w1).alloc (.cells #[.int .i64 no] 3))) ((Below.refl _ _).alloc (Nat.le_refl _) _)))
          try (replace hq1 := hidden (hq1.out.below (w' := ((w1).alloc (.cells #[.int .i64 no] 3))) ((Below.refl _ _).alloc (Nat.le_refl _) _)))
          clear hK K
          go_simp
          refine wpAnyH_ready (rs := [8]) (by kernel_rfl) (by simp) ?_
          refine AllReadyH.cons rfl (fun K hK => ?_) AllReadyH.nil
          have hz8 : ∀ j, j < 1 → (((w1).alloc (.cells #[.int .i64 no] 3))).cell? (Addr.add ⟨_, 0, none⟩ j) = some (.int .i64 (([no] : List Int).getD j 0)) := fun j hj => by (obtain rfl : j = 0 := by omega); exact hz7.out
          obtain ⟨v2, w2, hr2, hq2, hb2, hkp2⟩ := kept_append hq1.out _ 1 1 [no] rfl hz8 (by (try simp) <;> omega) (hSn3).size 30
          refine any_append rfl rfl _ _ _ _ rfl rfl hr2 ?_
          refine hK.out _ _ ((hSn3).trans hb2) (fun hSn4 => ?_)
          replace hq2 := hidden hq2
          clear hK K
          go_simp
          refine wpAnyH_ready (rs := [12]) (by kernel_rfl) (by simp) ?_
          refine AllReadyH.cons rfl (fun K hK => ?_) AllReadyH.nil
          obtain ⟨v3, w3, hr3, hq3, hb3, -⟩ := kept_append hq2.out ⟨gb, 0, none⟩ 0 0 [] (rfl) (fun j hj => by omega) (by (try simp) <;> omega) (hSn4).size 30
          refine any_append rfl rfl _ _ _ _ rfl rfl hr3 ?_
          refine hK.out _ _ ((hSn4).trans hb3) (fun hSn5 => ?_)
          replace hq3 := hidden hq3
          clear hK K
          refine wpAnyH_ready (rs := [13]) (by kernel_rfl) (by simp) ?_
          refine AllReadyH.cons rfl (fun K hK => ?_) AllReadyH.nil
          go_simp
          refine hK.out _ _ hSn5 (fun _ => ?_)
          clear hK K
          refine wpAnyH_done (by kernel_rfl) ?_ _
          go_wp2_with fail
          exact hKK.out _ _ _ _ _ _ _ _ _ _ _ _ _ _ _ (by have := hq3.out.mono hbs; simpa using this) hSn5
        refine AllReadyH.cons rfl (fun K hK => ?_) ?_
        · go_simp
          refine hK.out _ _ ((hSn1).alloc (hSn1).size _) (fun hSn6 => ?_)
          have hz7 := hidden (one_cell ((w5.drew).alloc (.cells #[] 3)) (.int .i64 no) (w5.heap.size + 1) (by simp))
          try (replace hq0 := hidden (hq0.out.below (w' := ((((w5.drew).alloc (.cells #[] 3))).alloc (.cells #[.int .i64 no] 3))) ((Below.refl _ _).alloc (Nat.le_refl _) _)))
          try (replace hq1 := hidden (hq1.out.below (w' := ((((w5.drew).alloc (.cells #[] 3))).alloc (.cells #[.int .i64 no] 3))) ((Below.refl _ _).alloc (Nat.le_refl _) _)))
          clear hK K
          go_simp
          refine wpAnyH_ready (rs := [4]) (by kernel_rfl) (by simp) ?_
          refine AllReadyH.cons rfl (fun K hK => ?_) AllReadyH.nil
          obtain ⟨v1, w1, hr1, hq1, hb1, hkp1⟩ := kept_append hq0.out ⟨gb, 0, none⟩ ks.length cap (ks.take ks.length) (by simp) (fun j hj => by rw [Go.WideShapes.add_plain, Nat.zero_add]; exact (show (((((w5.drew).alloc (.cells #[] 3))).alloc (.cells #[.int .i64 no] 3))).cell? ⟨gb, j, none⟩ = some (.int .i64 (ks.getD j 0)) from kC.out _ hSn6 j (by omega)).trans (by simp [List.getD, hj])) (by (try simp) <;> omega) (hSn6).size 30
          refine any_append rfl rfl _ _ _ _ rfl rfl hr1 ?_
          refine hK.out _ _ ((hSn6).trans hb1) (fun hSn7 => ?_)
          replace hq1 := hidden hq1
          try (replace hz7 := hidden ((World.cell?_of_block (hkp1 _ (lt_of_cell (a := ⟨_, 0, none⟩) hz7.out) (by simp [Value.ownBlock]))).trans hz7.out))
          clear hK K
          go_simp
          refine wpAnyH_ready (rs := [8]) (by kernel_rfl) (by simp) ?_
          refine AllReadyH.cons rfl (fun K hK => ?_) AllReadyH.nil
          have hz8 : ∀ j, j < 1 → (w1).cell? (Addr.add ⟨_, 0, none⟩ j) = some (.int .i64 (([no] : List Int).getD j 0)) := fun j hj => by (obtain rfl : j = 0 := by omega); exact hz7.out
          obtain ⟨v2, w2, hr2, hq2, hb2, hkp2⟩ := kept_append hq1.out _ 1 1 [no] rfl hz8 (by (try simp) <;> omega) (hSn7).size 30
          refine any_append rfl rfl _ _ _ _ rfl rfl hr2 ?_
          refine hK.out _ _ ((hSn7).trans hb2) (fun hSn8 => ?_)
          replace hq2 := hidden hq2
          clear hK K
          go_simp
          refine wpAnyH_ready (rs := [12]) (by kernel_rfl) (by simp) ?_
          refine AllReadyH.cons rfl (fun K hK => ?_) AllReadyH.nil
          obtain ⟨v3, w3, hr3, hq3, hb3, -⟩ := kept_append hq2.out ⟨gb, 0, none⟩ 0 0 [] (rfl) (fun j hj => by omega) (by (try simp) <;> omega) (hSn8).size 30
          refine any_append rfl rfl _ _ _ _ rfl rfl hr3 ?_
          refine hK.out _ _ ((hSn8).trans hb3) (fun hSn9 => ?_)
          replace hq3 := hidden hq3
          clear hK K
          refine wpAnyH_ready (rs := [13]) (by kernel_rfl) (by simp) ?_
          refine AllReadyH.cons rfl (fun K hK => ?_) AllReadyH.nil
          go_simp
          refine hK.out _ _ hSn9 (fun _ => ?_)
          clear hK K
          refine wpAnyH_done (by kernel_rfl) ?_ _
          go_wp2_with fail
          exact hKK.out _ _ _ _ _ _ _ _ _ _ _ _ _ _ _ (by have := hq3.out.mono hbs; simpa using this) hSn9
        exact AllReadyH.nil
      refine AllReadyH.cons rfl (fun K hK => ?_) ?_
      · go_simp
        refine hK.out _ _ ((hS0).alloc (hS0).size _) (fun hSn10 => ?_)
        have hz7 := hidden (one_cell w5.drew (.int .i64 no) (w5.heap.size) (by simp))
        try (replace hq0 := hidden (hq0.out.below (w' := ((w5.drew).alloc (.cells #[.int .i64 no] 3))) ((Below.refl _ _).alloc (Nat.le_refl _) _)))
        try (replace hq1 := hidden (hq1.out.below (w' := ((w5.drew).alloc (.cells #[.int .i64 no] 3))) ((Below.refl _ _).alloc (Nat.le_refl _) _)))
        clear hK K
        refine wpAnyH_ready (rs := [0]) (by kernel_rfl) (by simp) ?_
        refine AllReadyH.cons rfl (fun K hK => ?_) AllReadyH.nil
        go_simp
        refine hK.out _ _ ((hSn10).alloc (hSn10).size _) (fun hSn11 => ?_)
        have hq0 := hidden (kept_new (base := w5.heap.size) ((w5.drew).alloc (.cells #[.int .i64 no] 3)) (w5.heap.size + 1) (by simp) (hSn10).size)
        try (replace hz7 := hidden (((show Below (((w5.drew).alloc (.cells #[.int .i64 no] 3))).heap.size ((w5.drew).alloc (.cells #[.int .i64 no] 3)) ((((w5.drew).alloc (.cells #[.int .i64 no] 3))).alloc (.cells #[] 3)) from (Below.refl _ _).alloc (Nat.le_refl _) _).cell (p := ⟨_, 0, none⟩) (lt_of_cell (a := ⟨_, 0, none⟩) hz7.out)).trans hz7.out))
        clear hK K
        go_simp
        refine wpAnyH_ready (rs := [4]) (by kernel_rfl) (by simp) ?_
        refine AllReadyH.cons rfl (fun K hK => ?_) AllReadyH.nil
        obtain ⟨v1, w1, hr1, hq1, hb1, hkp1⟩ := kept_append hq0.out ⟨gb, 0, none⟩ ks.length cap (ks.take ks.length) (by simp) (fun j hj => by rw [Go.WideShapes.add_plain, Nat.zero_add]; exact (show (((((w5.drew).alloc (.cells #[.int .i64 no] 3))).alloc (.cells #[] 3))).cell? ⟨gb, j, none⟩ = some (.int .i64 (ks.getD j 0)) from kC.out _ hSn11 j (by omega)).trans (by simp [List.getD, hj])) (by (try simp) <;> omega) (hSn11).size 30
        refine any_append rfl rfl _ _ _ _ rfl rfl hr1 ?_
        refine hK.out _ _ ((hSn11).trans hb1) (fun hSn12 => ?_)
        replace hq1 := hidden hq1
        try (replace hz7 := hidden ((World.cell?_of_block (hkp1 _ (lt_of_cell (a := ⟨_, 0, none⟩) hz7.out) (by simp [Value.ownBlock]))).trans hz7.out))
        clear hK K
        go_simp
        refine wpAnyH_ready (rs := [8]) (by kernel_rfl) (by simp) ?_
        refine AllReadyH.cons rfl (fun K hK => ?_) AllReadyH.nil
        have hz8 : ∀ j, j < 1 → (w1).cell? (Addr.add ⟨_, 0, none⟩ j) = some (.int .i64 (([no] : List Int).getD j 0)) := fun j hj => by (obtain rfl : j = 0 := by omega); exact hz7.out
        obtain ⟨v2, w2, hr2, hq2, hb2, hkp2⟩ := kept_append hq1.out _ 1 1 [no] rfl hz8 (by (try simp) <;> omega) (hSn12).size 30
        refine any_append rfl rfl _ _ _ _ rfl rfl hr2 ?_
        refine hK.out _ _ ((hSn12).trans hb2) (fun hSn13 => ?_)
        replace hq2 := hidden hq2
        clear hK K
        go_simp
        refine wpAnyH_ready (rs := [12]) (by kernel_rfl) (by simp) ?_
        refine AllReadyH.cons rfl (fun K hK => ?_) AllReadyH.nil
        obtain ⟨v3, w3, hr3, hq3, hb3, -⟩ := kept_append hq2.out ⟨gb, 0, none⟩ 0 0 [] (rfl) (fun j hj => by omega) (by (try simp) <;> omega) (hSn13).size 30
        refine any_append rfl rfl _ _ _ _ rfl rfl hr3 ?_
        refine hK.out _ _ ((hSn13).trans hb3) (fun hSn14 => ?_)
        replace hq3 := hidden hq3
        clear hK K
        refine wpAnyH_ready (rs := [13]) (by kernel_rfl) (by simp) ?_
        refine AllReadyH.cons rfl (fun K hK => ?_) AllReadyH.nil
        go_simp
        refine hK.out _ _ hSn14 (fun _ => ?_)
        clear hK K
        refine wpAnyH_done (by kernel_rfl) ?_ _
        go_wp2_with fail
        exact hKK.out _ _ _ _ _ _ _ _ _ _ _ _ _ _ _ (by have := hq3.out.mono hbs; simpa using this) hSn14
      exact AllReadyH.nil
    · skip
      refine wp_region_held_drew (S := fun w' => Below w5.heap.size w5 w') (by kernel_rfl) hS0 ?_
      intro _
      refine wpAnyH_take (i := 1) (v := ?_) rfl (by kernel_rfl) (by kernel_rfl) (by kernel_rfl) (fun _ _ _ h => hQp.out _ _ _ _ h rfl) (Or.inl ⟨by rfl, ?_⟩) hS0 ?_
      rotate_left
      · intro w hw; clear hw; go_simp; try (with_reducible rfl)
      refine wpAnyH_take (i := 2) (v := ?_) rfl (by kernel_rfl) (by kernel_rfl) (by kernel_rfl) (fun _ _ _ h => hQp.out _ _ _ _ h rfl) (Or.inl ⟨by rfl, ?_⟩) hS0 ?_
      rotate_left
      · intro w hw; clear hw; go_simp; try (with_reducible rfl)
      refine wpAnyH_take (i := 3) (v := ?_) rfl (by kernel_rfl) (by kernel_rfl) (by kernel_rfl) (fun _ _ _ h => hQp.out _ _ _ _ h rfl) (Or.inl ⟨by rfl, ?_⟩) hS0 ?_
      rotate_left
      · intro w hw; clear hw; go_simp; try (with_reducible rfl)
      refine wpAnyH_take (i := 5) (v := ?_) rfl (by kernel_rfl) (by kernel_rfl) (by kernel_rfl) (fun _ _ _ h => hQp.out _ _ _ _ h rfl) (Or.inl ⟨by rfl, ?_⟩) hS0 ?_
      rotate_left
      · intro w hw; clear hw; go_simp; try (with_reducible rfl)
      refine wpAnyH_take (i := 6) (v := ?_) rfl (by kernel_rfl) (by kernel_rfl) (by kernel_rfl) (fun _ _ _ h => hQp.out _ _ _ _ h rfl) (Or.inl ⟨by rfl, ?_⟩) hS0 ?_
      rotate_left
      · intro w hw; have c1 := k1.out _ hw; clear hw; go_simp; try (with_reducible rfl)
      refine wpAnyH_take (i := 9) (v := ?_) rfl (by kernel_rfl) (by kernel_rfl) (by kernel_rfl) (fun _ _ _ h => hQp.out _ _ _ _ h rfl) (Or.inl ⟨by rfl, ?_⟩) hS0 ?_
      rotate_left
      · intro w hw; clear hw; go_simp; try (with_reducible rfl)
      refine wpAnyH_take (i := 10) (v := ?_) rfl (by kernel_rfl) (by kernel_rfl) (by kernel_rfl) (fun _ _ _ h => hQp.out _ _ _ _ h rfl) (Or.inl ⟨by rfl, ?_⟩) hS0 ?_
      rotate_left
      · intro w hw; clear hw; go_simp; try (with_reducible rfl)
      refine wpAnyH_take (i := 11) (v := ?_) rfl (by kernel_rfl) (by kernel_rfl) (by kernel_rfl) (fun _ _ _ h => hQp.out _ _ _ _ h rfl) (Or.inl ⟨by rfl, ?_⟩) hS0 ?_
      rotate_left
      · intro w hw; clear hw; go_simp; try (with_reducible rfl)
      refine wpAnyH_ready (rs := [0, 7]) (by kernel_rfl) (by simp) ?_
      refine AllReadyH.cons rfl (fun K hK => ?_) ?_
      · go_simp
        refine hK.out _ _ ((hS0).alloc (hS0).size _) (fun hSn1 => ?_)
        have hq0 := hidden (kept_new (base := w5.heap.size) w5.drew (w5.heap.size) (by simp) (hS0).size)
        try (replace hz7 := hidden (((show Below (w5.drew).heap.size w5.drew ((w5.drew).alloc (.cells #[] 3)) from (Below.refl _ _).alloc (Nat.le_refl _) _).cell (p := ⟨_, 0, none⟩) (lt_of_cell (a := ⟨_, 0, none⟩) hz7.out)).trans hz7.out))
        clear hK K
        go_simp
        refine wpAnyH_ready (rs := [4, 7]) (by kernel_rfl) (by simp) ?_
        refine AllReadyH.cons rfl (fun K hK => ?_) ?_
        · obtain ⟨v1, w1, hr1, hq1, hb1, hkp1⟩ := kept_append hq0.out ⟨gb, 0, none⟩ k cap (ks.take k) (by simp; omega) (fun j hj => by rw [Go.WideShapes.add_plain, Nat.zero_add]; exact (show (((w5.drew).alloc (.cells #[] 3))).cell? ⟨gb, j, none⟩ = some (.int .i64 (ks.getD j 0)) from kC.out _ hSn1 j (by omega)).trans (by simp [List.getD, hj])) (by (try simp) <;> omega) (hSn1).size 30
          refine any_append rfl rfl _ _ _ _ rfl rfl hr1 ?_
          refine hK.out _ _ ((hSn1).trans hb1) (fun hSn2 => ?_)
          replace hq1 := hidden hq1
          try (replace hz7 := hidden ((World.cell?_of_block (hkp1 _ (lt_of_cell (a := ⟨_, 0, none⟩) hz7.out) (by simp [Value.ownBlock]))).trans hz7.out))
          clear hK K
          refine wpAnyH_ready (rs := [7]) (by kernel_rfl) (by simp) ?_
          refine AllReadyH.cons rfl (fun K hK => ?_) AllReadyH.nil
          go_simp
          refine hK.out _ _ ((hSn2).alloc (hSn2).size _) (fun hSn3 => ?_)
          have hz7 := hidden (one_cell w1 (.int .i64 no) (w1.heap.size) (by simp))
          try (replace hq0 := hidden (hq0.out.below (w' := ((w1).alloc (.cells #[.int .i64 no] 3))) ((Below.refl _ _).alloc (Nat.le_refl _) _)))
          try (replace hq1 := hidden (hq1.out.below (w' := ((w1).alloc (.cells #[.int .i64 no] 3))) ((Below.refl _ _).alloc (Nat.le_refl _) _)))
          clear hK K
          go_simp
          refine wpAnyH_ready (rs := [8]) (by kernel_rfl) (by simp) ?_
          refine AllReadyH.cons rfl (fun K hK => ?_) AllReadyH.nil
          have hz8 : ∀ j, j < 1 → (((w1).alloc (.cells #[.int .i64 no] 3))).cell? (Addr.add ⟨_, 0, none⟩ j) = some (.int .i64 (([no] : List Int).getD j 0)) := fun j hj => by (obtain rfl : j = 0 := by omega); exact hz7.out
          obtain ⟨v2, w2, hr2, hq2, hb2, hkp2⟩ := kept_append hq1.out _ 1 1 [no] rfl hz8 (by (try simp) <;> omega) (hSn3).size 30
          refine any_append rfl rfl _ _ _ _ rfl rfl hr2 ?_
          refine hK.out _ _ ((hSn3).trans hb2) (fun hSn4 => ?_)
          replace hq2 := hidden hq2
          clear hK K
          go_simp
          refine wpAnyH_ready (rs := [12]) (by kernel_rfl) (by simp) ?_
          refine AllReadyH.cons rfl (fun K hK => ?_) AllReadyH.nil
          obtain ⟨v3, w3, hr3, hq3, hb3, -⟩ := kept_append hq2.out ⟨gb, k, none⟩ (ks.length - k) (cap - k) (ks.drop k) (by simp) (fun j hj => by rw [Go.WideShapes.add_plain]; exact (show (w2).cell? ⟨gb, k + j, none⟩ = some (.int .i64 (ks.getD (k + j) 0)) from kC.out _ hSn4 (k + j) (by omega)).trans (by simp [List.getD])) (by (try simp) <;> omega) (hSn4).size 30
          refine any_append rfl rfl _ _ _ _ rfl rfl hr3 ?_
          refine hK.out _ _ ((hSn4).trans hb3) (fun hSn5 => ?_)
          replace hq3 := hidden hq3
          clear hK K
          refine wpAnyH_ready (rs := [13]) (by kernel_rfl) (by simp) ?_
          refine AllReadyH.cons rfl (fun K hK => ?_) AllReadyH.nil
          go_simp
          refine hK.out _ _ hSn5 (fun _ => ?_)
          clear hK K
          refine wpAnyH_done (by kernel_rfl) ?_ _
          go_wp2_with fail
          exact hKK.out _ _ _ _ _ _ _ _ _ _ _ _ _ _ _ (by have := hq3.out.mono hbs; simpa using this) hSn5
        refine AllReadyH.cons rfl (fun K hK => ?_) ?_
        · go_simp
          refine hK.out _ _ ((hSn1).alloc (hSn1).size _) (fun hSn6 => ?_)
          have hz7 := hidden (one_cell ((w5.drew).alloc (.cells #[] 3)) (.int .i64 no) (w5.heap.size + 1) (by simp))
          try (replace hq0 := hidden (hq0.out.below (w' := ((((w5.drew).alloc (.cells #[] 3))).alloc (.cells #[.int .i64 no] 3))) ((Below.refl _ _).alloc (Nat.le_refl _) _)))
          try (replace hq1 := hidden (hq1.out.below (w' := ((((w5.drew).alloc (.cells #[] 3))).alloc (.cells #[.int .i64 no] 3))) ((Below.refl _ _).alloc (Nat.le_refl _) _)))
          clear hK K
          go_simp
          refine wpAnyH_ready (rs := [4]) (by kernel_rfl) (by simp) ?_
          refine AllReadyH.cons rfl (fun K hK => ?_) AllReadyH.nil
          obtain ⟨v1, w1, hr1, hq1, hb1, hkp1⟩ := kept_append hq0.out ⟨gb, 0, none⟩ k cap (ks.take k) (by simp; omega) (fun j hj => by rw [Go.WideShapes.add_plain, Nat.zero_add]; exact (show (((((w5.drew).alloc (.cells #[] 3))).alloc (.cells #[.int .i64 no] 3))).cell? ⟨gb, j, none⟩ = some (.int .i64 (ks.getD j 0)) from kC.out _ hSn6 j (by omega)).trans (by simp [List.getD, hj])) (by (try simp) <;> omega) (hSn6).size 30
          refine any_append rfl rfl _ _ _ _ rfl rfl hr1 ?_
          refine hK.out _ _ ((hSn6).trans hb1) (fun hSn7 => ?_)
          replace hq1 := hidden hq1
          try (replace hz7 := hidden ((World.cell?_of_block (hkp1 _ (lt_of_cell (a := ⟨_, 0, none⟩) hz7.out) (by simp [Value.ownBlock]))).trans hz7.out))
          clear hK K
          go_simp
          refine wpAnyH_ready (rs := [8]) (by kernel_rfl) (by simp) ?_
          refine AllReadyH.cons rfl (fun K hK => ?_) AllReadyH.nil
          have hz8 : ∀ j, j < 1 → (w1).cell? (Addr.add ⟨_, 0, none⟩ j) = some (.int .i64 (([no] : List Int).getD j 0)) := fun j hj => by (obtain rfl : j = 0 := by omega); exact hz7.out
          obtain ⟨v2, w2, hr2, hq2, hb2, hkp2⟩ := kept_append hq1.out _ 1 1 [no] rfl hz8 (by (try simp) <;> omega) (hSn7).size 30
          refine any_append rfl rfl _ _ _ _ rfl rfl hr2 ?_
          refine hK.out _ _ ((hSn7).trans hb2) (fun hSn8 => ?_)
          replace hq2 := hidden hq2
          clear hK K
          go_simp
          refine wpAnyH_ready (rs := [12]) (by kernel_rfl) (by simp) ?_
          refine AllReadyH.cons rfl (fun K hK => ?_) AllReadyH.nil
          obtain ⟨v3, w3, hr3, hq3, hb3, -⟩ := kept_append hq2.out ⟨gb, k, none⟩ (ks.length - k) (cap - k) (ks.drop k) (by simp) (fun j hj => by rw [Go.WideShapes.add_plain]; exact (show (w2).cell? ⟨gb, k + j, none⟩ = some (.int .i64 (ks.getD (k + j) 0)) from kC.out _ hSn8 (k + j) (by omega)).trans (by simp [List.getD])) (by (try simp) <;> omega) (hSn8).size 30
          refine any_append rfl rfl _ _ _ _ rfl rfl hr3 ?_
          refine hK.out _ _ ((hSn8).trans hb3) (fun hSn9 => ?_)
          replace hq3 := hidden hq3
          clear hK K
          refine wpAnyH_ready (rs := [13]) (by kernel_rfl) (by simp) ?_
          refine AllReadyH.cons rfl (fun K hK => ?_) AllReadyH.nil
          go_simp
          refine hK.out _ _ hSn9 (fun _ => ?_)
          clear hK K
          refine wpAnyH_done (by kernel_rfl) ?_ _
          go_wp2_with fail
          exact hKK.out _ _ _ _ _ _ _ _ _ _ _ _ _ _ _ (by have := hq3.out.mono hbs; simpa using this) hSn9
        exact AllReadyH.nil
      refine AllReadyH.cons rfl (fun K hK => ?_) ?_
      · go_simp
        refine hK.out _ _ ((hS0).alloc (hS0).size _) (fun hSn10 => ?_)
        have hz7 := hidden (one_cell w5.drew (.int .i64 no) (w5.heap.size) (by simp))
        try (replace hq0 := hidden (hq0.out.below (w' := ((w5.drew).alloc (.cells #[.int .i64 no] 3))) ((Below.refl _ _).alloc (Nat.le_refl _) _)))
        try (replace hq1 := hidden (hq1.out.below (w' := ((w5.drew).alloc (.cells #[.int .i64 no] 3))) ((Below.refl _ _).alloc (Nat.le_refl _) _)))
        clear hK K
        refine wpAnyH_ready (rs := [0]) (by kernel_rfl) (by simp) ?_
        refine AllReadyH.cons rfl (fun K hK => ?_) AllReadyH.nil
        go_simp
        refine hK.out _ _ ((hSn10).alloc (hSn10).size _) (fun hSn11 => ?_)
        have hq0 := hidden (kept_new (base := w5.heap.size) ((w5.drew).alloc (.cells #[.int .i64 no] 3)) (w5.heap.size + 1) (by simp) (hSn10).size)
        try (replace hz7 := hidden (((show Below (((w5.drew).alloc (.cells #[.int .i64 no] 3))).heap.size ((w5.drew).alloc (.cells #[.int .i64 no] 3)) ((((w5.drew).alloc (.cells #[.int .i64 no] 3))).alloc (.cells #[] 3)) from (Below.refl _ _).alloc (Nat.le_refl _) _).cell (p := ⟨_, 0, none⟩) (lt_of_cell (a := ⟨_, 0, none⟩) hz7.out)).trans hz7.out))
        clear hK K
        go_simp
        refine wpAnyH_ready (rs := [4]) (by kernel_rfl) (by simp) ?_
        refine AllReadyH.cons rfl (fun K hK => ?_) AllReadyH.nil
        obtain ⟨v1, w1, hr1, hq1, hb1, hkp1⟩ := kept_append hq0.out ⟨gb, 0, none⟩ k cap (ks.take k) (by simp; omega) (fun j hj => by rw [Go.WideShapes.add_plain, Nat.zero_add]; exact (show (((((w5.drew).alloc (.cells #[.int .i64 no] 3))).alloc (.cells #[] 3))).cell? ⟨gb, j, none⟩ = some (.int .i64 (ks.getD j 0)) from kC.out _ hSn11 j (by omega)).trans (by simp [List.getD, hj])) (by (try simp) <;> omega) (hSn11).size 30
        refine any_append rfl rfl _ _ _ _ rfl rfl hr1 ?_
        refine hK.out _ _ ((hSn11).trans hb1) (fun hSn12 => ?_)
        replace hq1 := hidden hq1
        try (replace hz7 := hidden ((World.cell?_of_block (hkp1 _ (lt_of_cell (a := ⟨_, 0, none⟩) hz7.out) (by simp [Value.ownBlock]))).trans hz7.out))
        clear hK K
        go_simp
        refine wpAnyH_ready (rs := [8]) (by kernel_rfl) (by simp) ?_
        refine AllReadyH.cons rfl (fun K hK => ?_) AllReadyH.nil
        have hz8 : ∀ j, j < 1 → (w1).cell? (Addr.add ⟨_, 0, none⟩ j) = some (.int .i64 (([no] : List Int).getD j 0)) := fun j hj => by (obtain rfl : j = 0 := by omega); exact hz7.out
        obtain ⟨v2, w2, hr2, hq2, hb2, hkp2⟩ := kept_append hq1.out _ 1 1 [no] rfl hz8 (by (try simp) <;> omega) (hSn12).size 30
        refine any_append rfl rfl _ _ _ _ rfl rfl hr2 ?_
        refine hK.out _ _ ((hSn12).trans hb2) (fun hSn13 => ?_)
        replace hq2 := hidden hq2
        clear hK K
        go_simp
        refine wpAnyH_ready (rs := [12]) (by kernel_rfl) (by simp) ?_
        refine AllReadyH.cons rfl (fun K hK => ?_) AllReadyH.nil
        obtain ⟨v3, w3, hr3, hq3, hb3, -⟩ := kept_append hq2.out ⟨gb, k, none⟩ (ks.length - k) (cap - k) (ks.drop k) (by simp) (fun j hj => by rw [Go.WideShapes.add_plain]; exact (show (w2).cell? ⟨gb, k + j, none⟩ = some (.int .i64 (ks.getD (k + j) 0)) from kC.out _ hSn13 (k + j) (by omega)).trans (by simp [List.getD])) (by (try simp) <;> omega) (hSn13).size 30
        refine any_append rfl rfl _ _ _ _ rfl rfl hr3 ?_
        refine hK.out _ _ ((hSn13).trans hb3) (fun hSn14 => ?_)
        replace hq3 := hidden hq3
        clear hK K
        refine wpAnyH_ready (rs := [13]) (by kernel_rfl) (by simp) ?_
        refine AllReadyH.cons rfl (fun K hK => ?_) AllReadyH.nil
        go_simp
        refine hK.out _ _ hSn14 (fun _ => ?_)
        clear hK K
        refine wpAnyH_done (by kernel_rfl) ?_ _
        go_wp2_with fail
        exact hKK.out _ _ _ _ _ _ _ _ _ _ _ _ _ _ _ (by have := hq3.out.mono hbs; simpa using this) hSn14
      exact AllReadyH.nil

set_option maxHeartbeats 8000000 in
theorem cp_note (w : World) (d g jb cb mb nb lb ob most : Nat) (o : OpV) (M M0 : Chg) (f fl : Nat → ByteArray) (mem : Nat → Int) (wrr : Int) (w5 : World) (hR : Hid (Rc w d g jb cb mb nb lb ob most o M f fl mem wrr w5)) (base : Nat) (a : Option Addr) (cap : Nat) (ks : List Int) (hkM : Hid (ks = keysM M0)) (hV : Hid (Kept base w5 (.slice a ks.length cap) ks)) (hks : ks.length ≤ 8) (hbs : base ≤ w5.heap.size) (hnb : nb < base) (hN : Hid (∀ j, j < 12 → f j = ofBytes (nowM mem M0 j))) (ht : Hid (Tidy M0)) (hmr : Hid (∀ i, 0 ≤ mem i ∧ mem i ≤ 255)) (bb L : Nat) (zs : List Int) (hby : Hid (BytesAt w5 (.slice (some ⟨bb, 0, none⟩) L 128) zs)) (hzl : zs.length = L) (hbn : bb ≠ nb) (k : Nat) (hk : k ≤ ks.length) (hlo : Hid (∀ j, j < k → ks.getD j 0 < o.no)) (hhi : Hid (k < ks.length → ¬ ks.getD k 0 < o.no)) (is : Bool) (his : Hid (is = hasM o.no M0)) (c : Bool) (hyes : Hid (c = true → ((0 ≤ o.no ∧ o.no < 12) ∧ 0 ≤ o.at1 ∧ o.at1 + L ≤ 128) ∧ M = putM o.no (layL (nowM mem M0 o.no.toNat) o.at1.toNat zs) M0)) (hnot : Hid (c = false → M = M0))
    (x0 x1 x2 x3 x4 x5 x6 x8 x9 x11 x13 x14 x16 x19 x20 x21 x22 x23 x24 x25 x26 x27 x28 x29 x30 x31 x32 x33 x34 x35 x36 x37 x38 x39 x40 x41 x42 x43 x44 x45 x46 x47 x48 x49 x50 x51 x52 x53 x54 x55 x56 x57 x58 x59 x60 x61 x62 x63 x64 x65 x66 x67 x68 x69 x70 x71 x72 x73 x74 x75 x76 x77 x78 x79 x80 x81 x82 x83 x84 x85 x86 x87 x88 x89 x90 x91 x92 x93 x94 x95 x96 x97 x98 x99 x100 x101 x102 x103 x104 x105 x106 x107 x108 x109 x110 x111 x112 x113 x114 x115 x116 x117 x118 x119 x120 x121 x122 x123 x124 x125 x126 x127 x128 x129 x130 x131 x132 x133 x134 x135 x136 x137 x138 x139 x140 x141 x142 x143 x144 x145 x146 x147 x148 x149 x150 x151 x152 x153 x154 x155 x156 x157 x158 x159 x161 x162 x163 x164 x165 x166 x167 x168 x169 x170 x171 x172 x173 x174 x175 x176 x177 x178 x179 x180 x181 x182 x183 x184 x185 x186 x187 x188 x189 x190 x191 x192 x193 x194 x195 x196 x197 x198 x199 x200 x201 x202 x203 x204 x205 x206 x207 x208 x209 x210 x211 x212 x213 x214 x215 x216 x217 x218 x219 x220 x221 x222 x223 x224 x225 x226 x227 x228 x229 x230 x231 x232 x233 x234 x235 x236 x237 x238 x239 x240 x241 x242 x243 x244 x245 x246 x247 x248 x249 x250 x251 x252 x253 x254 x255 x256 x257 x258 x259 x260 x261 x262 x263 x264 x265 x266 x267 x268 x269 x270 x271 x272 x273 x274 x275 x276 x277 x278 x279 : Value) (KK : Act → World → Prop) (Q : Exit → Act → World → Prop)
    (hKK : Hid (∀ (v161 v162 v163 v164 v165 v166 v167 v168 v169 v170 v171 v172 v173 v174 v175 v176 v177 v178 v179 v180 v181 v182 v183 v184 v185 v186 v187 v188 v189 v190 v191 v192 v193 v194 v195 v196 v197 v198 v199 : Value) (v' : Value) (f' : Nat → ByteArray) (w' : World), Rc w d g jb cb mb nb lb ob most o M f' fl mem wrr w' → (∀ j, j < 12 → f' j = ofBytes (nowM mem M j)) → Kept base w' v' (keysM M) → KK ⟨#[x0, x1, x2, x3, x4, x5, x6, ptr nb, x8, x9, v', x11, ptr ob, x13, x14, .slice (some ⟨bb, 0, none⟩) L 128, x16, .int .i64 k, .bool is, x19, x20, x21, x22, x23, x24, x25, x26, x27, x28, x29, x30, x31, x32, x33, x34, x35, x36, x37, x38, x39, x40, x41, x42, x43, x44, x45, x46, x47, x48, x49, x50, x51, x52, x53, x54, x55, x56, x57, x58, x59, x60, x61, x62, x63, x64, x65, x66, x67, x68, x69, x70, x71, x72, x73, x74, x75, x76, x77, x78, x79, x80, x81, x82, x83, x84, x85, x86, x87, x88, x89, x90, x91, x92, x93, x94, x95, x96, x97, x98, x99, x100, x101, x102, x103, x104, x105, x106, x107, x108, x109, x110, x111, x112, x113, x114, x115, x116, x117, x118, x119, x120, x121, x122, x123, x124, x125, x126, x127, x128, x129, x130, x131, x132, x133, x134, x135, x136, x137, x138, x139, x140, x141, x142, x143, x144, x145, x146, x147, x148, x149, x150, x151, x152, x153, x154, x155, x156, x157, x158, x159, .bool c, v161, v162, v163, v164, v165, v166, v167, v168, v169, v170, v171, v172, v173, v174, v175, v176, v177, v178, v179, v180, v181, v182, v183, v184, v185, v186, v187, v188, v189, v190, v191, v192, v193, v194, v195, v196, v197, v198, v199, x200, x201, x202, x203, x204, x205, x206, x207, x208, x209, x210, x211, x212, x213, x214, x215, x216, x217, x218, x219, x220, x221, x222, x223, x224, x225, x226, x227, x228, x229, x230, x231, x232, x233, x234, x235, x236, x237, x238, x239, x240, x241, x242, x243, x244, x245, x246, x247, x248, x249, x250, x251, x252, x253, x254, x255, x256, x257, x258, x259, x260, x261, x262, x263, x264, x265, x266, x267, x268, x269, x270, x271, x272, x273, x274, x275, x276, x277, x278, x279], []⟩ w'))
    (hQp : Hid (∀ x a a' w, Q (.panic x) a w → a.defers = a'.defers → Q (.panic x) a' w)) :
    Code.wp Tryz.prog (((Tryz.f3.body.bind (condAt 160)).getD .skip)) (Exit.then KK Q) ⟨#[x0, x1, x2, x3, x4, x5, x6, ptr nb, x8, x9, .slice a ks.length cap, x11, ptr ob, x13, x14, .slice (some ⟨bb, 0, none⟩) L 128, x16, .int .i64 k, .bool is, x19, x20, x21, x22, x23, x24, x25, x26, x27, x28, x29, x30, x31, x32, x33, x34, x35, x36, x37, x38, x39, x40, x41, x42, x43, x44, x45, x46, x47, x48, x49, x50, x51, x52, x53, x54, x55, x56, x57, x58, x59, x60, x61, x62, x63, x64, x65, x66, x67, x68, x69, x70, x71, x72, x73, x74, x75, x76, x77, x78, x79, x80, x81, x82, x83, x84, x85, x86, x87, x88, x89, x90, x91, x92, x93, x94, x95, x96, x97, x98, x99, x100, x101, x102, x103, x104, x105, x106, x107, x108, x109, x110, x111, x112, x113, x114, x115, x116, x117, x118, x119, x120, x121, x122, x123, x124, x125, x126, x127, x128, x129, x130, x131, x132, x133, x134, x135, x136, x137, x138, x139, x140, x141, x142, x143, x144, x145, x146, x147, x148, x149, x150, x151, x152, x153, x154, x155, x156, x157, x158, x159, .bool c, x161, x162, x163, x164, x165, x166, x167, x168, x169, x170, x171, x172, x173, x174, x175, x176, x177, x178, x179, x180, x181, x182, x183, x184, x185, x186, x187, x188, x189, x190, x191, x192, x193, x194, x195, x196, x197, x198, x199, x200, x201, x202, x203, x204, x205, x206, x207, x208, x209, x210, x211, x212, x213, x214, x215, x216, x217, x218, x219, x220, x221, x222, x223, x224, x225, x226, x227, x228, x229, x230, x231, x232, x233, x234, x235, x236, x237, x238, x239, x240, x241, x242, x243, x244, x245, x246, x247, x248, x249, x250, x251, x252, x253, x254, x255, x256, x257, x258, x259, x260, x261, x262, x263, x264, x265, x266, x267, x268, x269, x270, x271, x272, x273, x274, x275, x276, x277, x278, x279], []⟩ w5 := by
  have hu := hQp
  clear hu
  conv => arg 2; whnf
  try dsimp only
  have hu2 := And.intro hbs (And.intro hlo (And.intro hhi (And.intro hks hk)))
  clear hu2
  cases c with
  | false =>
    obtain rfl := hnot.out rfl
    go_wp2_with fail
    exact hKK.out _ _ _ _ _ _ _ _ _ _ _ _ _ _ _ _ _ _ _ _ _ _ _ _ _ _ _ _ _ _ _ _ _ _ _ _ _ _ _ _ f _ hR.out hN.out (by rw [← hkM.out]; exact hV.out)
  | true =>
    obtain ⟨hin, hM⟩ := hyes.out rfl
    obtain ⟨no, hno⟩ : ∃ no : Nat, o.no = (no : Int) := ⟨o.no.toNat, by omega⟩
    obtain ⟨A, hA⟩ : ∃ A : Nat, o.at1 = (A : Int) := ⟨o.at1.toNat, by omega⟩
    have hn12 : no < 12 := by omega
    have hAL : A + L ≤ 128 := by omega
    have hrow := nowM_row (mem := mem) ht.out hmr.out no
    have hrow2 := hidden (layL_row (zs := zs) (at_ := A) hrow (by obtain ⟨_, _, _, hr, _⟩ := hby.out; exact hr) (by omega))
    have hM2 : Hid (M = putM (no : Int) (layL (nowM mem M0 no) A zs) M0) := hidden (by rw [hM, hno, hA]; rfl)
    have hfin : Hid (∀ j, j < 12 → (if j = no then ofBytes (layL (nowM mem M0 no) A zs) else f j) = ofBytes (nowM mem M j)) := hidden (fun j hj => by
      rw [hM2.out, nowM_put ht.out no _ hrow2.out]
      by_cases e : j = no
      · rw [if_pos e, if_pos e]
      · rw [if_neg e, if_neg e]; exact hN.out j hj)
    clear hM
    go_upto_region 37 with fail
    refine cp_text w d g jb cb mb nb lb ob most o M f fl mem wrr w5 hR no A bb L hno hn12 hA (nowM mem M0 no) zs hrow.1 (hidden (hN.out no hn12)) hby hzl hAL hbn _ _ _ _ _ _ _ _ _ _ _ _ _ _ _ _ _ _ _ _ _ _ _ _ _ _ _ _ _ _ _ _ _ _ _ _ _ _ _ _ _ _ _ _ _ _ _ _ _ _ _ _ _ _ _ _ _ _ _ _ _ _ _ _ _ _ _ _ _ _ _ _ _ _ _ _ _ _ _ _ _ _ _ _ _ _ _ _ _ _ _ _ _ _ _ _ _ _ _ _ _ _ _ _ _ _ _ _ _ _ _ _ _ _ _ _ _ _ _ _ _ _ _ _ _ _ _ _ _ _ _ _ _ _ _ _ _ _ _ _ _ _ _ _ _ _ _ _ _ _ _ _ _ _ _ _ _ _ _ _ _ _ _ _ _ _ _ _ _ _ _ _ _ _ _ _ _ _ _ _ _ _ _ _ _ _ _ _ _ _ _ _ _ _ _ _ _ _ _ _ _ _ _ _ _ _ _ _ _ _ _ _ _ _ _ _ _ _ _ _ _ _ _ _ _ _ _ _ _ _ _ _ _ _ _ _ _ _ _ _ _ _ _ _ _ _ _ _ _ _ _ _ _ _ _ _ _ _ _ _ _ _ _ _ _ _ _ _ _ _ _ _ _ _ _ _ _ _ _ (hidden ?kk) (hidden ?qp)
    case qp => exact fun x a a' w h e => hQp.out x a a' w h e
    case kk =>
      intro v161 v162 v163 v164 v165 v166 v167 v168 v169 v170 v171 v172 v173 v174 v175 v176 v177 v178 v179 v180 v181 v182 v183 v184 w6 hR6 hA6
      have hV6 := hidden (hV.out.keep hA6 (by simpa using hnb))
      have hs6 := hA6.size
      replace hR6 := hidden hR6
      cases is with
      | true =>
        have hkeys : Hid (keysM M = keysM M0) := hidden (by rw [hM2.out]; refine put_keys_old _ ht.out.up ?_; rw [← hno]; exact his.out.symm)
        go_wp2_with fail
        exact hKK.out _ _ _ _ _ _ _ _ _ _ _ _ _ _ _ _ _ _ _ _ _ _ _ _ _ _ _ _ _ _ _ _ _ _ _ _ _ _ _ _ _ _ hR6.out hfin.out (by rw [hkeys.out, ← hkM.out]; exact hV6.out)
      | false =>
        have hkeys : Hid (keysM M = (keysM M0).take k ++ o.no :: (keysM M0).drop k) := hidden (by
          have hl : ks.length = M0.length := by rw [hkM.out]; simp [keysM]
          have hlo' := hlo.out
          have hhi' := hhi.out
          rw [hkM.out] at hlo' hhi'
          have := put_keys_new (M := M0) (no := o.no) (k := k) (layL (nowM mem M0 no) A zs) (by omega) hlo' (fun h => hhi' (by rw [← hkM.out]; omega)) his.out.symm
          rw [hM2.out, ← hno]
          exact this)
        have hbs6 : base ≤ w6.heap.size := by omega
        go_upto_region 39 with fail
        refine wp_last (cp_insert w d g jb cb mb nb lb ob most o M _ fl mem wrr w6 hR6 base a cap ks hV6 hks k hk hbs6 _ _ _ _ _ _ _ _ _ _ _ _ _ _ _ _ _ _ _ _ _ _ _ _ _ _ _ _ _ _ _ _ _ _ _ _ _ _ _ _ _ _ _ _ _ _ _ _ _ _ _ _ _ _ _ _ _ _ _ _ _ _ _ _ _ _ _ _ _ _ _ _ _ _ _ _ _ _ _ _ _ _ _ _ _ _ _ _ _ _ _ _ _ _ _ _ _ _ _ _ _ _ _ _ _ _ _ _ _ _ _ _ _ _ _ _ _ _ _ _ _ _ _ _ _ _ _ _ _ _ _ _ _ _ _ _ _ _ _ _ _ _ _ _ _ _ _ _ _ _ _ _ _ _ _ _ _ _ _ _ _ _ _ _ _ _ _ _ _ _ _ _ _ _ _ _ _ _ _ _ _ _ _ _ _ _ _ _ _ _ _ _ _ _ _ _ _ _ _ _ _ _ _ _ _ _ _ _ _ _ _ _ _ _ _ _ _ _ _ _ _ _ _ _ _ _ _ _ _ _ _ _ _ _ _ _ _ _ _ _ _ _ _ _ _ _ _ _ _ _ _ _ _ _ _ _ _ _ _ _ _ _ _ _ _ _ _ _ _ _ _ _ _ _ _ _ _ _ _ (hidden ?kk) (hidden ?qp))
        case qp => exact fun x a a' w h e => hQp.out x a a' w h e
        case kk =>
          intro v187 v188 v189 v190 v191 v192 v193 v194 v195 v196 v197 v198 v199 v' w7 hK7 hB7
          have hE := hidden (And.intro (hR6.out.below hB7) hK7)
          go_wp2_with fail
          exact hKK.out _ _ _ _ _ _ _ _ _ _ _ _ _ _ _ _ _ _ _ _ _ _ _ _ _ _ _ _ _ _ _ _ _ _ _ _ _ _ _ v' _ _ hE.out.1 hfin.out (by rw [hkeys.out, ← hkM.out]; exact hE.out.2)

set_option maxHeartbeats 8000000 in
theorem cp_write (w : World) (d g jb cb mb nb lb ob most : Nat) (o : OpV) (M : Chg) (f fl : Nat → ByteArray) (mem : Nat → Int) (wrr : Int) (w5 : World) (hR : Hid (Rc w d g jb cb mb nb lb ob most o M f fl mem wrr w5)) (base : Nat) (v : Value) (hV : Hid (Kept base w5 v (M.map (·.1)))) (hb : (d < base ∧ g < base ∧ mb < base) ∧ nb < base ∧ lb < base) (hO : Hid (Ok most M mem)) (hm : 1 ≤ most ∧ most ≤ 8) (hw : 0 ≤ wrr ∧ wrr < 300000000) (hN : Hid (∀ j, j < 12 → f j = ofBytes (nowM mem M j))) (hF : Hid (∀ j, j < 12 → fl j = ofBytes (blockL mem j))) (hi : i64 o.no ∧ i64 o.at1 ∧ i64 o.long ∧ i64 o.n) (hGT : Hid (GT w5)) (kd : Int) (inn : Bool) (hinn : Hid (inn = decide (0 ≤ o.no ∧ o.no < 12))) (sN : ByteArray) (hsN : Hid (sN = itoaB o.no)) (hbs : base ≤ w5.heap.size) (hk : kd = 0)
    (x1 x2 x3 x4 x5 x9 x11 x15 x16 x17 x18 x19 x20 x21 x22 x23 x24 x25 x26 x27 x28 x29 x30 x31 x32 x33 x34 x35 x36 x37 x38 x39 x40 x41 x42 x43 x44 x45 x46 x47 x48 x49 x50 x51 x52 x53 x54 x55 x56 x57 x58 x59 x60 x61 x62 x63 x64 x65 x66 x67 x68 x69 x70 x71 x72 x73 x74 x76 x77 x78 x79 x80 x81 x82 x83 x84 x85 x86 x87 x88 x89 x90 x91 x92 x93 x94 x95 x96 x97 x98 x99 x100 x101 x102 x103 x104 x105 x106 x107 x108 x109 x110 x111 x112 x113 x114 x115 x116 x117 x118 x119 x120 x121 x122 x123 x124 x125 x126 x127 x128 x129 x130 x131 x132 x133 x134 x135 x136 x137 x138 x139 x140 x141 x142 x143 x144 x145 x146 x147 x148 x149 x150 x151 x152 x153 x154 x155 x156 x157 x158 x159 x160 x161 x162 x163 x164 x165 x166 x167 x168 x169 x170 x171 x172 x173 x174 x175 x176 x177 x178 x179 x180 x181 x182 x183 x184 x185 x186 x187 x188 x189 x190 x191 x192 x193 x194 x195 x196 x197 x198 x199 x200 x201 x202 x203 x204 x205 x206 x207 x208 x209 x210 x211 x212 x213 x214 x215 x216 x217 x218 x219 x220 x221 x222 x223 x224 x225 x226 x227 x228 x229 x230 x231 x232 x233 x234 x235 x236 x237 x238 x239 x240 x241 x242 x243 x244 x245 x246 x247 x248 x249 x250 x251 x252 x253 x254 x255 x256 x257 x258 x259 x260 x261 x262 x263 x264 x265 x266 x267 x268 x269 x270 x271 x272 x273 x274 x275 x276 x277 x278 x279 : Value) (KK : Act → World → Prop) (Q : Exit → Act → World → Prop)
    (hKK : Hid (∀ (v4 v15 v16 v17 v18 v19 v20 v76 v77 v78 v79 v80 v81 v82 v83 v84 v85 v86 v87 v88 v89 v90 v91 v92 v93 v94 v95 v96 v97 v98 v99 v100 v101 v102 v103 v104 v105 v106 v107 v108 v109 v110 v111 v112 v113 v114 v115 v116 v117 v118 v119 v120 v121 v122 v123 v124 v125 v126 v127 v128 v129 v130 v131 v132 v133 v134 v135 v136 v137 v138 v139 v140 v141 v142 v143 v144 v145 v146 v147 v148 v149 v150 v151 v152 v153 v154 v155 v156 v157 v158 v159 v160 v161 v162 v163 v164 v165 v166 v167 v168 v169 v170 v171 v172 v173 v174 v175 v176 v177 v178 v179 v180 v181 v182 v183 v184 v185 v186 v187 v188 v189 v190 v191 v192 v193 v194 v195 v196 v197 v198 v199 v200 v201 v202 v203 v204 v205 v206 v207 v208 v209 v210 v211 v212 v213 v214 v215 v216 v217 v218 v219 v220 v221 v222 v223 v224 v225 v226 v227 v228 v229 v230 v231 v232 v233 v234 v235 v236 : Value) (v' : Value) (M' : Chg) (f' fl' : Nat → ByteArray) (mem' : Nat → Int) (wr' : Int) (w' : World), Rc w d g jb cb mb nb lb ob most o M' f' fl' mem' wr' w' → (∀ j, j < 12 → f' j = ofBytes (nowM mem' M' j)) → (∀ j, j < 12 → fl' j = ofBytes (blockL mem' j)) → Kept base w' v' (M'.map (·.1)) → Ok most M' mem' → wrr ≤ wr' ∧ wr' ≤ wrr + 1000 → KK ⟨#[.int .i64 most, x1, x2, x3, v4, x5, ptr cb, ptr nb, ptr lb, x9, v', x11, ptr ob, .bool inn, .string sN, v15, v16, v17, v18, v19, v20, x21, x22, x23, x24, x25, x26, x27, x28, x29, x30, x31, x32, x33, x34, x35, x36, x37, x38, x39, x40, x41, x42, x43, x44, x45, x46, x47, x48, x49, x50, x51, x52, x53, x54, x55, x56, x57, x58, x59, x60, x61, x62, x63, x64, x65, x66, x67, x68, x69, x70, x71, x72, x73, x74, .int .i64 kd, v76, v77, v78, v79, v80, v81, v82, v83, v84, v85, v86, v87, v88, v89, v90, v91, v92, v93, v94, v95, v96, v97, v98, v99, v100, v101, v102, v103, v104, v105, v106, v107, v108, v109, v110, v111, v112, v113, v114, v115, v116, v117, v118, v119, v120, v121, v122, v123, v124, v125, v126, v127, v128, v129, v130, v131, v132, v133, v134, v135, v136, v137, v138, v139, v140, v141, v142, v143, v144, v145, v146, v147, v148, v149, v150, v151, v152, v153, v154, v155, v156, v157, v158, v159, v160, v161, v162, v163, v164, v165, v166, v167, v168, v169, v170, v171, v172, v173, v174, v175, v176, v177, v178, v179, v180, v181, v182, v183, v184, v185, v186, v187, v188, v189, v190, v191, v192, v193, v194, v195, v196, v197, v198, v199, v200, v201, v202, v203, v204, v205, v206, v207, v208, v209, v210, v211, v212, v213, v214, v215, v216, v217, v218, v219, v220, v221, v222, v223, v224, v225, v226, v227, v228, v229, v230, v231, v232, v233, v234, v235, v236, x237, x238, x239, x240, x241, x242, x243, x244, x245, x246, x247, x248, x249, x250, x251, x252, x253, x254, x255, x256, x257, x258, x259, x260, x261, x262, x263, x264, x265, x266, x267, x268, x269, x270, x271, x272, x273, x274, x275, x276, x277, x278, x279], []⟩ w'))
    (hQp : Hid (∀ x a a' w, Q (.panic x) a w → a.defers = a'.defers → Q (.panic x) a' w)) :
    Code.wp Tryz.prog (((Tryz.f3.body.bind (blockAt 4)).getD .skip)) (Exit.then KK Q) ⟨#[.int .i64 most, x1, x2, x3, x4, x5, ptr cb, ptr nb, ptr lb, x9, v, x11, ptr ob, .bool inn, .string sN, x15, x16, x17, x18, x19, x20, x21, x22, x23, x24, x25, x26, x27, x28, x29, x30, x31, x32, x33, x34, x35, x36, x37, x38, x39, x40, x41, x42, x43, x44, x45, x46, x47, x48, x49, x50, x51, x52, x53, x54, x55, x56, x57, x58, x59, x60, x61, x62, x63, x64, x65, x66, x67, x68, x69, x70, x71, x72, x73, x74, .int .i64 kd, x76, x77, x78, x79, x80, x81, x82, x83, x84, x85, x86, x87, x88, x89, x90, x91, x92, x93, x94, x95, x96, x97, x98, x99, x100, x101, x102, x103, x104, x105, x106, x107, x108, x109, x110, x111, x112, x113, x114, x115, x116, x117, x118, x119, x120, x121, x122, x123, x124, x125, x126, x127, x128, x129, x130, x131, x132, x133, x134, x135, x136, x137, x138, x139, x140, x141, x142, x143, x144, x145, x146, x147, x148, x149, x150, x151, x152, x153, x154, x155, x156, x157, x158, x159, x160, x161, x162, x163, x164, x165, x166, x167, x168, x169, x170, x171, x172, x173, x174, x175, x176, x177, x178, x179, x180, x181, x182, x183, x184, x185, x186, x187, x188, x189, x190, x191, x192, x193, x194, x195, x196, x197, x198, x199, x200, x201, x202, x203, x204, x205, x206, x207, x208, x209, x210, x211, x212, x213, x214, x215, x216, x217, x218, x219, x220, x221, x222, x223, x224, x225, x226, x227, x228, x229, x230, x231, x232, x233, x234, x235, x236, x237, x238, x239, x240, x241, x242, x243, x244, x245, x246, x247, x248, x249, x250, x251, x252, x253, x254, x255, x256, x257, x258, x259, x260, x261, x262, x263, x264, x265, x266, x267, x268, x269, x270, x271, x272, x273, x274, x275, x276, x277, x278, x279], []⟩ w5 := by
  have hu := hQp
  clear hu
  conv => arg 2; whnf
  try dsimp only
  have hu2 := And.intro hV (And.intro hb (And.intro hO (And.intro hm (And.intro hw (And.intro hN (And.intro hF (And.intro hi (And.intro hGT (And.intro hinn (And.intro hsN hbs))))))))))
  clear hu2
  subst hk
  have hlen := hO.out.len
  obtain ⟨ks, hkM0⟩ : ∃ ks, keysM M = ks := ⟨_, rfl⟩
  have hkM : Hid (ks = keysM M) := hidden hkM0.symm
  have hkl0 : Hid (ks.length = M.length) := hidden (by rw [← hkM0]; simp [keysM])
  have hks : ks.length ≤ 8 := by have := hkl0.out; omega
  have hV0 : Hid (Kept base w5 v ks) := hidden (by rw [hkM.out]; exact hV.out)
  replace hV := hV0
  clear hV0 hkM0
  obtain ⟨a, cap, hv, -⟩ := hV.out.form
  subst hv
  have ht := hidden hR.out.st.map.tidy
  have hmr := hidden hR.out.st.sys.disk.range
  go_upto_region 24 with fail
  refine cp_bytes w d g jb cb mb nb lb ob most o M f fl mem wrr w5 hR _ _ _ _ _ _ _ _ _ _ _ _ _ _ _ _ _ _ _ _ _ _ _ _ _ _ _ _ _ _ _ _ _ _ _ _ _ _ _ _ _ _ _ _ _ _ _ _ _ _ _ _ _ _ _ _ _ _ _ _ _ _ _ _ _ _ _ _ _ _ _ _ _ _ _ _ _ _ _ _ _ _ _ _ _ _ _ _ _ _ _ _ _ _ _ _ _ _ _ _ _ _ _ _ _ _ _ _ _ _ _ _ _ _ _ _ _ _ _ _ _ _ _ _ _ _ _ _ _ _ _ _ _ _ _ _ _ _ _ _ _ _ _ _ _ _ _ _ _ _ _ _ _ _ _ _ _ _ _ _ _ _ _ _ _ _ _ _ _ _ _ _ _ _ _ _ _ _ _ _ _ _ _ _ _ _ _ _ _ _ _ _ _ _ _ _ _ _ _ _ _ _ _ _ _ _ _ _ _ _ _ _ _ _ _ _ _ _ _ _ _ _ _ _ _ _ _ _ _ _ _ _ _ _ _ _ _ _ _ _ _ _ _ _ _ _ _ _ _ _ _ _ _ _ _ _ _ _ _ _ _ _ _ _ _ _ _ _ _ _ _ _ _ _ _ _ _ _ _ _ _ (hidden ?kk) (hidden ?qp)
  case qp => exact fun x a a' w h e => hQp.out x a a' w h e
  case kk =>
  intro v81 v82 v83 v84 v85 v86 v87 v88 v89 bb L zs w6 hL hby hzl hbb hB6
  have hR6 := hidden (hR.out.below hB6)
  have hV6 := hidden (hV.out.below hB6)
  have hGT6 := hidden (hGT.out.below hB6)
  have hs6 := hB6.size
  replace hby := hidden hby
  clear hB6
  go_upto_block 5 with fail
  refine cp_place w d g jb cb mb nb lb ob most o M f fl mem wrr w6 hR6 base a cap ks hV6 hks _ _ _ _ _ _ _ _ _ _ _ _ _ _ _ _ _ _ _ _ _ _ _ _ _ _ _ _ _ _ _ _ _ _ _ _ _ _ _ _ _ _ _ _ _ _ _ _ _ _ _ _ _ _ _ _ _ _ _ _ _ _ _ _ _ _ _ _ _ _ _ _ _ _ _ _ _ _ _ _ _ _ _ _ _ _ _ _ _ _ _ _ _ _ _ _ _ _ _ _ _ _ _ _ _ _ _ _ _ _ _ _ _ _ _ _ _ _ _ _ _ _ _ _ _ _ _ _ _ _ _ _ _ _ _ _ _ _ _ _ _ _ _ _ _ _ _ _ _ _ _ _ _ _ _ _ _ _ _ _ _ _ _ _ _ _ _ _ _ _ _ _ _ _ _ _ _ _ _ _ _ _ _ _ _ _ _ _ _ _ _ _ _ _ _ _ _ _ _ _ _ _ _ _ _ _ _ _ _ _ _ _ _ _ _ _ _ _ _ _ _ _ _ _ _ _ _ _ _ _ _ _ _ _ _ _ _ _ _ _ _ _ _ _ _ _ _ _ _ _ _ _ _ _ _ _ _ _ _ _ _ _ _ _ _ _ _ _ _ _ _ _ _ _ _ _ _ _ _ (hidden ?kk) (hidden ?qp)
  case qp => exact fun x a a' w h e => hQp.out x a a' w h e
  case kk =>
  intro v90 v91 v92 v93 v94 v95 v96 v97 v98 v99 v100 v101 v102 v103 v104 k w7 hkl hlo hhi hB7
  have hR7 := hidden (hR6.out.below hB7)
  have hV7 := hidden (hV6.out.below hB7)
  have hGT7 := hidden (hGT6.out.below hB7)
  have hby7 := hidden (hby.out.below hB7)
  have hs7 := hB7.size
  replace hlo := hidden hlo
  replace hhi := hidden hhi
  clear hB7 hR6 hV6 hGT6 hby
  go_upto_region 29 with fail
  refine cp_is w d g jb cb mb nb lb ob most o M f fl mem wrr w7 hR7 base a cap ks hV7 hks k hkl _ _ _ _ _ _ _ _ _ _ _ _ _ _ _ _ _ _ _ _ _ _ _ _ _ _ _ _ _ _ _ _ _ _ _ _ _ _ _ _ _ _ _ _ _ _ _ _ _ _ _ _ _ _ _ _ _ _ _ _ _ _ _ _ _ _ _ _ _ _ _ _ _ _ _ _ _ _ _ _ _ _ _ _ _ _ _ _ _ _ _ _ _ _ _ _ _ _ _ _ _ _ _ _ _ _ _ _ _ _ _ _ _ _ _ _ _ _ _ _ _ _ _ _ _ _ _ _ _ _ _ _ _ _ _ _ _ _ _ _ _ _ _ _ _ _ _ _ _ _ _ _ _ _ _ _ _ _ _ _ _ _ _ _ _ _ _ _ _ _ _ _ _ _ _ _ _ _ _ _ _ _ _ _ _ _ _ _ _ _ _ _ _ _ _ _ _ _ _ _ _ _ _ _ _ _ _ _ _ _ _ _ _ _ _ _ _ _ _ _ _ _ _ _ _ _ _ _ _ _ _ _ _ _ _ _ _ _ _ _ _ _ _ _ _ _ _ _ _ _ _ _ _ _ _ _ _ _ _ _ _ _ _ _ _ _ _ _ _ _ _ _ _ _ _ _ _ _ _ (hidden ?kk) (hidden ?qp)
  case qp => exact fun x a a' w h e => hQp.out x a a' w h e
  case kk =>
  intro v105 v106 v107 v108 v109 v110 v111 v112 v113 v114 v115 v116 v117 is w8 his hB8
  have his2 : Hid (is = hasM o.no M) := hidden (by
    have hlo' := hlo.out
    have hhi' := hhi.out
    rw [hkM.out] at hlo' hhi'
    rw [his, has_at ht.out (no := o.no) (k := k) (fun j hj _ => hlo' j hj) (fun h => hhi' (by rw [← hkM.out, hkl0.out]; exact h)), hkM.out]
    simp [keysM])
  have hR8 := hidden (hR7.out.below hB8)
  have hV8 := hidden (hV7.out.below hB8)
  have hGT8 := hidden (hGT7.out.below hB8)
  have hby8 := hidden (hby7.out.below hB8)
  have hs8 := hB8.size
  clear hB8 hR7 hV7 hGT7 hby7 his
  go_upto_block 7 with fail
  refine cp_want w d g jb cb mb nb lb ob most o M f fl mem wrr w8 hR8 hi.2.1 a ks.length cap bb L hks hm.2 hL is inn _ _ _ _ _ _ _ _ _ _ _ _ _ _ _ _ _ _ _ _ _ _ _ _ _ _ _ _ _ _ _ _ _ _ _ _ _ _ _ _ _ _ _ _ _ _ _ _ _ _ _ _ _ _ _ _ _ _ _ _ _ _ _ _ _ _ _ _ _ _ _ _ _ _ _ _ _ _ _ _ _ _ _ _ _ _ _ _ _ _ _ _ _ _ _ _ _ _ _ _ _ _ _ _ _ _ _ _ _ _ _ _ _ _ _ _ _ _ _ _ _ _ _ _ _ _ _ _ _ _ _ _ _ _ _ _ _ _ _ _ _ _ _ _ _ _ _ _ _ _ _ _ _ _ _ _ _ _ _ _ _ _ _ _ _ _ _ _ _ _ _ _ _ _ _ _ _ _ _ _ _ _ _ _ _ _ _ _ _ _ _ _ _ _ _ _ _ _ _ _ _ _ _ _ _ _ _ _ _ _ _ _ _ _ _ _ _ _ _ _ _ _ _ _ _ _ _ _ _ _ _ _ _ _ _ _ _ _ _ _ _ _ _ _ _ _ _ _ _ _ _ _ _ _ _ _ _ _ _ _ _ _ _ _ _ _ _ _ _ _ _ _ _ _ _ (hidden ?kk) (hidden ?qp)
  case qp => exact fun x a a' w h e => hQp.out x a a' w h e
  case kk =>
  intro v118 v119 v120 v121 v122 v123 v124 v125 v126 v127 v128 v129 v130 v131 v132 v133 v134 v135 v136 v137 v138 v139 v140 v141 v142 v143 v144 v145 v146 v147 want hwant
  have hwant2 : Hid (want = 1 ∧ ¬ ((0 ≤ o.no ∧ o.no < 12) ∧ 0 ≤ o.at1 ∧ o.at1 + L ≤ 128) ∨ want = 5 ∧ ((0 ≤ o.no ∧ o.no < 12) ∧ 0 ≤ o.at1 ∧ o.at1 + L ≤ 128) ∧ hasM o.no M = false ∧ M.length = most ∨ want = 0 ∧ ((0 ≤ o.no ∧ o.no < 12) ∧ 0 ≤ o.at1 ∧ o.at1 + L ≤ 128) ∧ (hasM o.no M = true ∨ M.length ≠ most)) := hidden (by
    have hi1 : inn = true ↔ (0 ≤ o.no ∧ o.no < 12) := by rw [hinn.out]; exact decide_eq_true_iff
    rw [hi1, hkl0.out, his2.out] at hwant
    exact hwant)
  clear hwant
  go_upto_region 34 with fail
  refine cp_call w d g jb cb mb nb lb ob most o M f fl mem wrr w8 hR8 hO hm ⟨hi.1, hi.2.1⟩ hGT8 sN hsN bb L zs hby8 hzl want hwant2 _ _ _ _ _ _ _ _ _ _ _ _ _ _ _ _ _ _ _ _ _ _ _ _ _ _ _ _ _ _ _ _ _ _ _ _ _ _ _ _ _ _ _ _ _ _ _ _ _ _ _ _ _ _ _ _ _ _ _ _ _ _ _ _ _ _ _ _ _ _ _ _ _ _ _ _ _ _ _ _ _ _ _ _ _ _ _ _ _ _ _ _ _ _ _ _ _ _ _ _ _ _ _ _ _ _ _ _ _ _ _ _ _ _ _ _ _ _ _ _ _ _ _ _ _ _ _ _ _ _ _ _ _ _ _ _ _ _ _ _ _ _ _ _ _ _ _ _ _ _ _ _ _ _ _ _ _ _ _ _ _ _ _ _ _ _ _ _ _ _ _ _ _ _ _ _ _ _ _ _ _ _ _ _ _ _ _ _ _ _ _ _ _ _ _ _ _ _ _ _ _ _ _ _ _ _ _ _ _ _ _ _ _ _ _ _ _ _ _ _ _ _ _ _ _ _ _ _ _ _ _ _ _ _ _ _ _ _ _ _ _ _ _ _ _ _ _ _ _ _ _ _ _ _ _ _ _ _ _ _ _ _ _ _ _ _ _ _ _ _ _ _ _ _ _ _ _ (hidden ?kk) (hidden ?qp)
  case qp => exact fun x a a' w h e => hQp.out x a a' w h e
  case kk =>
  intro v148 v149 v150 v151 v152 v153 v154 v155 v156 v157 M1 w9 hM1 hM2 hR9 hA9
  have hV9 := hidden (hV8.out.keep hA9 (by simpa using hb.1.2.2))
  have hmbb : bb ≠ mb := by have := hb.1.2.2; omega
  have hby9 := hidden (hby8.out.keepB hA9 hmbb)
  have hs9 := hA9.size
  replace hR9 := hidden hR9
  replace hM1 := hidden hM1
  replace hM2 := hidden hM2
  clear hR8 hV8 hGT8 hby8 hA9
  go_upto_region 36 with fail
  refine cp_zero w9 want _ _ _ _ _ _ _ _ _ _ _ _ _ _ _ _ _ _ _ _ _ _ _ _ _ _ _ _ _ _ _ _ _ _ _ _ _ _ _ _ _ _ _ _ _ _ _ _ _ _ _ _ _ _ _ _ _ _ _ _ _ _ _ _ _ _ _ _ _ _ _ _ _ _ _ _ _ _ _ _ _ _ _ _ _ _ _ _ _ _ _ _ _ _ _ _ _ _ _ _ _ _ _ _ _ _ _ _ _ _ _ _ _ _ _ _ _ _ _ _ _ _ _ _ _ _ _ _ _ _ _ _ _ _ _ _ _ _ _ _ _ _ _ _ _ _ _ _ _ _ _ _ _ _ _ _ _ _ _ _ _ _ _ _ _ _ _ _ _ _ _ _ _ _ _ _ _ _ _ _ _ _ _ _ _ _ _ _ _ _ _ _ _ _ _ _ _ _ _ _ _ _ _ _ _ _ _ _ _ _ _ _ _ _ _ _ _ _ _ _ _ _ _ _ _ _ _ _ _ _ _ _ _ _ _ _ _ _ _ _ _ _ _ _ _ _ _ _ _ _ _ _ _ _ _ _ _ _ _ _ _ _ _ _ _ _ _ _ _ _ _ _ _ _ _ _ _ _ _ _ _ (hidden ?kk) (hidden ?qp)
  case qp => exact fun x a a' w h e => hQp.out x a a' w h e
  case kk =>
  intro v159 c hc
  have hc1 : Hid (c = true → ((0 ≤ o.no ∧ o.no < 12) ∧ 0 ≤ o.at1 ∧ o.at1 + L ≤ 128) ∧ M1 = putM o.no (layL (nowM mem M o.no.toNat) o.at1.toNat zs) M) := hidden (fun h => by
    have h0 : want = 0 := of_decide_eq_true (hc.symm.trans h)
    refine ⟨?_, hM2.out h0⟩
    rcases hwant2.out with ⟨h1, -⟩ | ⟨h1, -⟩ | ⟨-, h1, -⟩
    · omega
    · omega
    · exact h1)
  have hc0 : Hid (c = false → M1 = M) := hidden (fun h => hM1.out (of_decide_eq_false (hc.symm.trans h)))
  have hO1 : Hid (Ok most M1 mem) := hidden (by
    by_cases h0 : want = 0
    · obtain ⟨hin, hM⟩ := hc1.out (by rw [hc]; exact decide_eq_true h0)
      rw [hM]
      refine hO.out.put ht.out o.no _ hin.1 ?_
      rcases hwant2.out with ⟨h1, -⟩ | ⟨h1, -⟩ | ⟨-, -, h1⟩
      · omega
      · omega
      · rcases h1 with h | h
        · rw [h]; rfl
        · rw [decide_eq_true (show M.length < most by omega)]; simp
    · rw [hM1.out h0]; exact hO.out)
  have hbnb : bb ≠ nb := by have := hb.2.1; omega
  have hbs9 : base ≤ w9.heap.size := by omega
  clear hc hM1 hM2 hwant2
  go_upto_if 160 with fail
  refine wp_last (cp_note w d g jb cb mb nb lb ob most o M1 M f fl mem wrr w9 hR9 base a cap ks hkM hV9 hks hbs9 hb.2.1 hN ht hmr bb L zs hby9 hzl hbnb k hkl hlo hhi is his2 c hc1 hc0 _ _ _ _ _ _ _ _ _ _ _ _ _ _ _ _ _ _ _ _ _ _ _ _ _ _ _ _ _ _ _ _ _ _ _ _ _ _ _ _ _ _ _ _ _ _ _ _ _ _ _ _ _ _ _ _ _ _ _ _ _ _ _ _ _ _ _ _ _ _ _ _ _ _ _ _ _ _ _ _ _ _ _ _ _ _ _ _ _ _ _ _ _ _ _ _ _ _ _ _ _ _ _ _ _ _ _ _ _ _ _ _ _ _ _ _ _ _ _ _ _ _ _ _ _ _ _ _ _ _ _ _ _ _ _ _ _ _ _ _ _ _ _ _ _ _ _ _ _ _ _ _ _ _ _ _ _ _ _ _ _ _ _ _ _ _ _ _ _ _ _ _ _ _ _ _ _ _ _ _ _ _ _ _ _ _ _ _ _ _ _ _ _ _ _ _ _ _ _ _ _ _ _ _ _ _ _ _ _ _ _ _ _ _ _ _ _ _ _ _ _ _ _ _ _ _ _ _ _ _ _ _ _ _ _ _ _ _ _ _ _ _ _ _ _ _ _ _ _ _ _ _ _ _ _ _ _ _ _ _ _ _ _ _ _ _ _ _ _ _ _ _ _ _ _ (hidden ?kk) (hidden ?qp))
  case qp => exact fun x a a' w h e => hQp.out x a a' w h e
  case kk =>
  intro v161 v162 v163 v164 v165 v166 v167 v168 v169 v170 v171 v172 v173 v174 v175 v176 v177 v178 v179 v180 v181 v182 v183 v184 v185 v186 v187 v188 v189 v190 v191 v192 v193 v194 v195 v196 v197 v198 v199 v' f' w10 hR10 hf10 hK10
  have hE := hidden (And.intro hR10 (And.intro hf10 hK10))
  clear hR10 hf10 hK10
  go_wp2_with fail
  exact hKK.out _ _ _ _ _ _ _ _ _ _ _ _ _ _ _ _ _ _ _ _ _ _ _ _ _ _ _ _ _ _ _ _ _ _ _ _ _ _ _ _ _ _ _ _ _ _ _ _ _ _ _ _ _ _ _ _ _ _ _ _ _ _ _ _ _ _ _ _ _ _ _ _ _ _ _ _ _ _ _ _ _ _ _ _ _ _ _ _ _ _ _ _ _ _ _ _ _ _ _ _ _ _ _ _ _ _ _ _ _ _ _ _ _ _ _ _ _ _ _ _ _ _ _ _ _ _ _ _ _ _ _ _ _ _ _ _ _ _ _ _ _ _ _ _ _ _ _ _ _ _ _ _ _ _ _ _ _ _ _ _ _ _ _ _ _ _ _ _ v' M1 f' fl mem wrr _ hE.out.1 hE.out.2.1 hF.out hE.out.2.2 hO1.out ⟨Int.le_refl _, by omega⟩

set_option maxHeartbeats 8000000 in
theorem cp_switch (w : World) (d g jb cb mb nb lb ob most : Nat) (o : OpV) (M : Chg) (f fl : Nat → ByteArray) (mem : Nat → Int) (wrr : Int) (w5 : World) (hR : Hid (Rc w d g jb cb mb nb lb ob most o M f fl mem wrr w5)) (base : Nat) (v : Value) (hV : Hid (Kept base w5 v (M.map (·.1)))) (hb : (d < base ∧ g < base ∧ mb < base) ∧ nb < base ∧ lb < base) (hO : Hid (Ok most M mem)) (hm : 1 ≤ most ∧ most ≤ 8) (hw : 0 ≤ wrr ∧ wrr < 300000000) (hN : Hid (∀ j, j < 12 → f j = ofBytes (nowM mem M j))) (hF : Hid (∀ j, j < 12 → fl j = ofBytes (blockL mem j))) (hi : i64 o.no ∧ i64 o.at1 ∧ i64 o.long ∧ i64 o.n) (hGT : Hid (GT w5)) (kd : Int) (inn : Bool) (hinn : Hid (inn = decide (0 ≤ o.no ∧ o.no < 12))) (sN : ByteArray) (hsN : Hid (sN = itoaB o.no)) (hbs : base ≤ w5.heap.size)
    (x1 x2 x3 x4 x5 x9 x11 x15 x16 x17 x18 x19 x20 x21 x22 x23 x24 x25 x26 x27 x28 x29 x30 x31 x32 x33 x34 x35 x36 x37 x38 x39 x40 x41 x42 x43 x44 x45 x46 x47 x48 x49 x50 x51 x52 x53 x54 x55 x56 x57 x58 x59 x60 x61 x62 x63 x64 x65 x66 x67 x68 x69 x70 x71 x72 x73 x74 x76 x77 x78 x79 x80 x81 x82 x83 x84 x85 x86 x87 x88 x89 x90 x91 x92 x93 x94 x95 x96 x97 x98 x99 x100 x101 x102 x103 x104 x105 x106 x107 x108 x109 x110 x111 x112 x113 x114 x115 x116 x117 x118 x119 x120 x121 x122 x123 x124 x125 x126 x127 x128 x129 x130 x131 x132 x133 x134 x135 x136 x137 x138 x139 x140 x141 x142 x143 x144 x145 x146 x147 x148 x149 x150 x151 x152 x153 x154 x155 x156 x157 x158 x159 x160 x161 x162 x163 x164 x165 x166 x167 x168 x169 x170 x171 x172 x173 x174 x175 x176 x177 x178 x179 x180 x181 x182 x183 x184 x185 x186 x187 x188 x189 x190 x191 x192 x193 x194 x195 x196 x197 x198 x199 x200 x201 x202 x203 x204 x205 x206 x207 x208 x209 x210 x211 x212 x213 x214 x215 x216 x217 x218 x219 x220 x221 x222 x223 x224 x225 x226 x227 x228 x229 x230 x231 x232 x233 x234 x235 x236 x237 x238 x239 x240 x241 x242 x243 x244 x245 x246 x247 x248 x249 x250 x251 x252 x253 x254 x255 x256 x257 x258 x259 x260 x261 x262 x263 x264 x265 x266 x267 x268 x269 x270 x271 x272 x273 x274 x275 x276 x277 x278 x279 : Value) (KK : Act → World → Prop) (Q : Exit → Act → World → Prop)
    (hKK : Hid (∀ (v4 v15 v16 v17 v18 v19 v20 v76 v77 v78 v79 v80 v81 v82 v83 v84 v85 v86 v87 v88 v89 v90 v91 v92 v93 v94 v95 v96 v97 v98 v99 v100 v101 v102 v103 v104 v105 v106 v107 v108 v109 v110 v111 v112 v113 v114 v115 v116 v117 v118 v119 v120 v121 v122 v123 v124 v125 v126 v127 v128 v129 v130 v131 v132 v133 v134 v135 v136 v137 v138 v139 v140 v141 v142 v143 v144 v145 v146 v147 v148 v149 v150 v151 v152 v153 v154 v155 v156 v157 v158 v159 v160 v161 v162 v163 v164 v165 v166 v167 v168 v169 v170 v171 v172 v173 v174 v175 v176 v177 v178 v179 v180 v181 v182 v183 v184 v185 v186 v187 v188 v189 v190 v191 v192 v193 v194 v195 v196 v197 v198 v199 v200 v201 v202 v203 v204 v205 v206 v207 v208 v209 v210 v211 v212 v213 v214 v215 v216 v217 v218 v219 v220 v221 v222 v223 v224 v225 v226 v227 v228 v229 v230 v231 v232 v233 v234 v235 v236 : Value) (v' : Value) (M' : Chg) (f' fl' : Nat → ByteArray) (mem' : Nat → Int) (wr' : Int) (w' : World), Rc w d g jb cb mb nb lb ob most o M' f' fl' mem' wr' w' → (∀ j, j < 12 → f' j = ofBytes (nowM mem' M' j)) → (∀ j, j < 12 → fl' j = ofBytes (blockL mem' j)) → Kept base w' v' (M'.map (·.1)) → Ok most M' mem' → wrr ≤ wr' ∧ wr' ≤ wrr + 1000 → KK ⟨#[.int .i64 most, x1, x2, x3, v4, x5, ptr cb, ptr nb, ptr lb, x9, v', x11, ptr ob, .bool inn, .string sN, v15, v16, v17, v18, v19, v20, x21, x22, x23, x24, x25, x26, x27, x28, x29, x30, x31, x32, x33, x34, x35, x36, x37, x38, x39, x40, x41, x42, x43, x44, x45, x46, x47, x48, x49, x50, x51, x52, x53, x54, x55, x56, x57, x58, x59, x60, x61, x62, x63, x64, x65, x66, x67, x68, x69, x70, x71, x72, x73, x74, .int .i64 kd, v76, v77, v78, v79, v80, v81, v82, v83, v84, v85, v86, v87, v88, v89, v90, v91, v92, v93, v94, v95, v96, v97, v98, v99, v100, v101, v102, v103, v104, v105, v106, v107, v108, v109, v110, v111, v112, v113, v114, v115, v116, v117, v118, v119, v120, v121, v122, v123, v124, v125, v126, v127, v128, v129, v130, v131, v132, v133, v134, v135, v136, v137, v138, v139, v140, v141, v142, v143, v144, v145, v146, v147, v148, v149, v150, v151, v152, v153, v154, v155, v156, v157, v158, v159, v160, v161, v162, v163, v164, v165, v166, v167, v168, v169, v170, v171, v172, v173, v174, v175, v176, v177, v178, v179, v180, v181, v182, v183, v184, v185, v186, v187, v188, v189, v190, v191, v192, v193, v194, v195, v196, v197, v198, v199, v200, v201, v202, v203, v204, v205, v206, v207, v208, v209, v210, v211, v212, v213, v214, v215, v216, v217, v218, v219, v220, v221, v222, v223, v224, v225, v226, v227, v228, v229, v230, v231, v232, v233, v234, v235, v236, x237, x238, x239, x240, x241, x242, x243, x244, x245, x246, x247, x248, x249, x250, x251, x252, x253, x254, x255, x256, x257, x258, x259, x260, x261, x262, x263, x264, x265, x266, x267, x268, x269, x270, x271, x272, x273, x274, x275, x276, x277, x278, x279], []⟩ w'))
    (hQp : Hid (∀ x a a' w, Q (.panic x) a w → a.defers = a'.defers → Q (.panic x) a' w)) :
    Code.wp Tryz.prog (((Tryz.f3.body.bind (blockAt 4)).getD .skip)) (Exit.then KK Q) ⟨#[.int .i64 most, x1, x2, x3, x4, x5, ptr cb, ptr nb, ptr lb, x9, v, x11, ptr ob, .bool inn, .string sN, x15, x16, x17, x18, x19, x20, x21, x22, x23, x24, x25, x26, x27, x28, x29, x30, x31, x32, x33, x34, x35, x36, x37, x38, x39, x40, x41, x42, x43, x44, x45, x46, x47, x48, x49, x50, x51, x52, x53, x54, x55, x56, x57, x58, x59, x60, x61, x62, x63, x64, x65, x66, x67, x68, x69, x70, x71, x72, x73, x74, .int .i64 kd, x76, x77, x78, x79, x80, x81, x82, x83, x84, x85, x86, x87, x88, x89, x90, x91, x92, x93, x94, x95, x96, x97, x98, x99, x100, x101, x102, x103, x104, x105, x106, x107, x108, x109, x110, x111, x112, x113, x114, x115, x116, x117, x118, x119, x120, x121, x122, x123, x124, x125, x126, x127, x128, x129, x130, x131, x132, x133, x134, x135, x136, x137, x138, x139, x140, x141, x142, x143, x144, x145, x146, x147, x148, x149, x150, x151, x152, x153, x154, x155, x156, x157, x158, x159, x160, x161, x162, x163, x164, x165, x166, x167, x168, x169, x170, x171, x172, x173, x174, x175, x176, x177, x178, x179, x180, x181, x182, x183, x184, x185, x186, x187, x188, x189, x190, x191, x192, x193, x194, x195, x196, x197, x198, x199, x200, x201, x202, x203, x204, x205, x206, x207, x208, x209, x210, x211, x212, x213, x214, x215, x216, x217, x218, x219, x220, x221, x222, x223, x224, x225, x226, x227, x228, x229, x230, x231, x232, x233, x234, x235, x236, x237, x238, x239, x240, x241, x242, x243, x244, x245, x246, x247, x248, x249, x250, x251, x252, x253, x254, x255, x256, x257, x258, x259, x260, x261, x262, x263, x264, x265, x266, x267, x268, x269, x270, x271, x272, x273, x274, x275, x276, x277, x278, x279], []⟩ w5 := by
  have hu := hQp
  clear hu
  conv => arg 2; whnf
  try dsimp only
  by_cases h0 : kd = 0
  · exact cp_write w d g jb cb mb nb lb ob most o M f fl mem wrr w5 hR base v hV hb hO hm hw hN hF hi hGT kd inn hinn sN hsN hbs h0 x1 x2 x3 x4 x5 x9 x11 x15 x16 x17 x18 x19 x20 x21 x22 x23 x24 x25 x26 x27 x28 x29 x30 x31 x32 x33 x34 x35 x36 x37 x38 x39 x40 x41 x42 x43 x44 x45 x46 x47 x48 x49 x50 x51 x52 x53 x54 x55 x56 x57 x58 x59 x60 x61 x62 x63 x64 x65 x66 x67 x68 x69 x70 x71 x72 x73 x74 x76 x77 x78 x79 x80 x81 x82 x83 x84 x85 x86 x87 x88 x89 x90 x91 x92 x93 x94 x95 x96 x97 x98 x99 x100 x101 x102 x103 x104 x105 x106 x107 x108 x109 x110 x111 x112 x113 x114 x115 x116 x117 x118 x119 x120 x121 x122 x123 x124 x125 x126 x127 x128 x129 x130 x131 x132 x133 x134 x135 x136 x137 x138 x139 x140 x141 x142 x143 x144 x145 x146 x147 x148 x149 x150 x151 x152 x153 x154 x155 x156 x157 x158 x159 x160 x161 x162 x163 x164 x165 x166 x167 x168 x169 x170 x171 x172 x173 x174 x175 x176 x177 x178 x179 x180 x181 x182 x183 x184 x185 x186 x187 x188 x189 x190 x191 x192 x193 x194 x195 x196 x197 x198 x199 x200 x201 x202 x203 x204 x205 x206 x207 x208 x209 x210 x211 x212 x213 x214 x215 x216 x217 x218 x219 x220 x221 x222 x223 x224 x225 x226 x227 x228 x229 x230 x231 x232 x233 x234 x235 x236 x237 x238 x239 x240 x241 x242 x243 x244 x245 x246 x247 x248 x249 x250 x251 x252 x253 x254 x255 x256 x257 x258 x259 x260 x261 x262 x263 x264 x265 x266 x267 x268 x269 x270 x271 x272 x273 x274 x275 x276 x277 x278 x279 KK Q hKK hQp
  by_cases h1 : kd = 1
  · exact cp_read w d g jb cb mb nb lb ob most o M f fl mem wrr w5 hR base v hV hb hO hm hw hN hF hi hGT kd inn hinn sN hsN hbs h1 x1 x2 x3 x4 x5 x9 x11 x15 x16 x17 x18 x19 x20 x21 x22 x23 x24 x25 x26 x27 x28 x29 x30 x31 x32 x33 x34 x35 x36 x37 x38 x39 x40 x41 x42 x43 x44 x45 x46 x47 x48 x49 x50 x51 x52 x53 x54 x55 x56 x57 x58 x59 x60 x61 x62 x63 x64 x65 x66 x67 x68 x69 x70 x71 x72 x73 x74 x76 x77 x78 x79 x80 x81 x82 x83 x84 x85 x86 x87 x88 x89 x90 x91 x92 x93 x94 x95 x96 x97 x98 x99 x100 x101 x102 x103 x104 x105 x106 x107 x108 x109 x110 x111 x112 x113 x114 x115 x116 x117 x118 x119 x120 x121 x122 x123 x124 x125 x126 x127 x128 x129 x130 x131 x132 x133 x134 x135 x136 x137 x138 x139 x140 x141 x142 x143 x144 x145 x146 x147 x148 x149 x150 x151 x152 x153 x154 x155 x156 x157 x158 x159 x160 x161 x162 x163 x164 x165 x166 x167 x168 x169 x170 x171 x172 x173 x174 x175 x176 x177 x178 x179 x180 x181 x182 x183 x184 x185 x186 x187 x188 x189 x190 x191 x192 x193 x194 x195 x196 x197 x198 x199 x200 x201 x202 x203 x204 x205 x206 x207 x208 x209 x210 x211 x212 x213 x214 x215 x216 x217 x218 x219 x220 x221 x222 x223 x224 x225 x226 x227 x228 x229 x230 x231 x232 x233 x234 x235 x236 x237 x238 x239 x240 x241 x242 x243 x244 x245 x246 x247 x248 x249 x250 x251 x252 x253 x254 x255 x256 x257 x258 x259 x260 x261 x262 x263 x264 x265 x266 x267 x268 x269 x270 x271 x272 x273 x274 x275 x276 x277 x278 x279 KK Q hKK hQp
  by_cases h2 : kd = 2
  · exact cp_flush w d g jb cb mb nb lb ob most o M f fl mem wrr w5 hR base v hV hb hO hm hw hN hF hi hGT kd inn hinn sN hsN hbs h2 x1 x2 x3 x4 x5 x9 x11 x15 x16 x17 x18 x19 x20 x21 x22 x23 x24 x25 x26 x27 x28 x29 x30 x31 x32 x33 x34 x35 x36 x37 x38 x39 x40 x41 x42 x43 x44 x45 x46 x47 x48 x49 x50 x51 x52 x53 x54 x55 x56 x57 x58 x59 x60 x61 x62 x63 x64 x65 x66 x67 x68 x69 x70 x71 x72 x73 x74 x76 x77 x78 x79 x80 x81 x82 x83 x84 x85 x86 x87 x88 x89 x90 x91 x92 x93 x94 x95 x96 x97 x98 x99 x100 x101 x102 x103 x104 x105 x106 x107 x108 x109 x110 x111 x112 x113 x114 x115 x116 x117 x118 x119 x120 x121 x122 x123 x124 x125 x126 x127 x128 x129 x130 x131 x132 x133 x134 x135 x136 x137 x138 x139 x140 x141 x142 x143 x144 x145 x146 x147 x148 x149 x150 x151 x152 x153 x154 x155 x156 x157 x158 x159 x160 x161 x162 x163 x164 x165 x166 x167 x168 x169 x170 x171 x172 x173 x174 x175 x176 x177 x178 x179 x180 x181 x182 x183 x184 x185 x186 x187 x188 x189 x190 x191 x192 x193 x194 x195 x196 x197 x198 x199 x200 x201 x202 x203 x204 x205 x206 x207 x208 x209 x210 x211 x212 x213 x214 x215 x216 x217 x218 x219 x220 x221 x222 x223 x224 x225 x226 x227 x228 x229 x230 x231 x232 x233 x234 x235 x236 x237 x238 x239 x240 x241 x242 x243 x244 x245 x246 x247 x248 x249 x250 x251 x252 x253 x254 x255 x256 x257 x258 x259 x260 x261 x262 x263 x264 x265 x266 x267 x268 x269 x270 x271 x272 x273 x274 x275 x276 x277 x278 x279 KK Q hKK hQp
  · exact cp_drop w d g jb cb mb nb lb ob most o M f fl mem wrr w5 hR base v hV hb hO hm hw hN hF hi hGT kd inn hinn sN hsN hbs ⟨h0, h1, h2⟩ x1 x2 x3 x4 x5 x9 x11 x15 x16 x17 x18 x19 x20 x21 x22 x23 x24 x25 x26 x27 x28 x29 x30 x31 x32 x33 x34 x35 x36 x37 x38 x39 x40 x41 x42 x43 x44 x45 x46 x47 x48 x49 x50 x51 x52 x53 x54 x55 x56 x57 x58 x59 x60 x61 x62 x63 x64 x65 x66 x67 x68 x69 x70 x71 x72 x73 x74 x76 x77 x78 x79 x80 x81 x82 x83 x84 x85 x86 x87 x88 x89 x90 x91 x92 x93 x94 x95 x96 x97 x98 x99 x100 x101 x102 x103 x104 x105 x106 x107 x108 x109 x110 x111 x112 x113 x114 x115 x116 x117 x118 x119 x120 x121 x122 x123 x124 x125 x126 x127 x128 x129 x130 x131 x132 x133 x134 x135 x136 x137 x138 x139 x140 x141 x142 x143 x144 x145 x146 x147 x148 x149 x150 x151 x152 x153 x154 x155 x156 x157 x158 x159 x160 x161 x162 x163 x164 x165 x166 x167 x168 x169 x170 x171 x172 x173 x174 x175 x176 x177 x178 x179 x180 x181 x182 x183 x184 x185 x186 x187 x188 x189 x190 x191 x192 x193 x194 x195 x196 x197 x198 x199 x200 x201 x202 x203 x204 x205 x206 x207 x208 x209 x210 x211 x212 x213 x214 x215 x216 x217 x218 x219 x220 x221 x222 x223 x224 x225 x226 x227 x228 x229 x230 x231 x232 x233 x234 x235 x236 x237 x238 x239 x240 x241 x242 x243 x244 x245 x246 x247 x248 x249 x250 x251 x252 x253 x254 x255 x256 x257 x258 x259 x260 x261 x262 x263 x264 x265 x266 x267 x268 x269 x270 x271 x272 x273 x274 x275 x276 x277 x278 x279 KK Q hKK hQp
end Go.Proofs.YtkaippiblpedhaaGreatDoor
