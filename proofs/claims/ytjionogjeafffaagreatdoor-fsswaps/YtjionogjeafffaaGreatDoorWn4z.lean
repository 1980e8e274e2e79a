/- FsSwaps: what is left. -/
import Derived.Test.YtjionogjeafffaaGreatDoorGWm
import Derived.Deep.RegionHeld
namespace Go.Proofs.YtjionogjeafffaaGreatDoor
open Go.RowKit Go.Extern.Stop Go.Stop Go.Extern Go.Maps Go.Sort Go.Shelf
set_option maxRecDepth 1000000

/-- What region 15 reads. -/
structure SwV (xb fb rb B : Nat) (v : Value) (zs : List Int) (f : Int) (w : World) : Prop where
  x : w.cell? ⟨xb, 1, none⟩ = some (ptr fb)
  r : RmAt w rb f 0 10 131
  b : OwnV B w v zs
  l : B ≤ rb
theorem SwV.below {xb fb rb B : Nat} {v : Value} {zs : List Int} {f : Int} {w w' : World} (h : SwV xb fb rb B v zs f w) (hB : Below w.heap.size w w') : SwV xb fb rb B v zs f w' := ⟨(hB.cell (p := ⟨xb, 1, none⟩) (lt_of_cell (a := ⟨xb, 1, none⟩) h.x)).trans h.x, h.r.below hB, h.b.below hB, h.l⟩
theorem SwV.turn {xb fb rb B : Nat} {v : Value} {zs : List Int} {f : Int} {w w' : World} {bs : List Nat} (h : SwV xb fb rb B v zs f w) (hA : Apart bs w w') (hlow : ∀ k ∈ bs, k < B) (hx : xb ∉ bs) : SwV xb fb rb B v zs f w' := ⟨(hA.cell (p := ⟨xb, 1, none⟩) (lt_of_cell (a := ⟨xb, 1, none⟩) h.x) hx).trans h.x, h.r.keep hA (fun hm => by have := hlow _ hm; have := h.l; omega), h.b.keep hA hlow, h.l⟩
set_option maxHeartbeats 8000000 in
theorem sw15 (w : World) (fb hb xb rb B : Nat) (E : TE) (lim : Nat) (ys : List Int) (TY : ByteArray) (ba : Option Addr) (bn bc : Nat) (FI BI : Int) (SY : Nat) (hTY : Hid (ofBytes ys = TY)) (hSY : TY.size = SY) (hYL : Hid (ys.length = SY)) (hBI : Hid (blk (SY : Int) = BI)) (hFI : Hid (FI = 130 - BI)) (hlim : Hid (lim ≤ 200000000)) (hGT : Hid (GT E.w0)) (hR : Hid (SwR fb hb xb E lim (.left ys) w)) (hlow : Hid (∀ k ∈ [E.d, E.g, E.mb, fb], k < B)) (hS : Hid (SwV xb fb rb B (.slice ba bn bc) ys FI w))
    (x0 x1 x2 x3 x4 x6 x8 x9 x10 x11 x16 x17 x18 x19 x20 x21 x22 x23 x24 x25 x26 x27 x28 x29 x30 x31 x32 x33 x34 x35 x36 x37 x38 x39 x40 x41 x42 x43 x44 x45 x46 x47 x48 x49 x50 x51 x52 x53 x54 x55 x56 x57 x58 x59 x60 x61 x62 x63 x64 x65 x66 x67 x68 x69 x70 x71 x72 x73 x74 x75 x76 x77 x78 x79 x80 x81 x82 x83 x84 x85 x86 x87 x88 x89 x90 x91 x92 x93 x94 x95 x96 x97 x98 x99 x100 x101 x102 x103 x104 x105 x106 x107 x108 x109 x110 x111 x112 x113 x114 x115 x116 x117 x118 x119 x120 x121 x122 x123 x124 x125 x126 x127 x128 x129 x130 x131 x132 x133 x134 x135 x136 x137 x138 x139 x140 x141 x142 x143 x144 x145 x146 x147 x148 x149 x150 x151 x152 x153 x154 x155 x156 x157 x158 x159 x160 x161 x162 x163 x164 : Value) (KK : Act → World → Prop) (Q : Exit → Act → World → Prop)
    (hKK : Hid (∀ (v125 v126 v127 v128 v129 v130 v131 v132 v133 v134 v135 v136 v137 v138 v139 v140 v141 v142 v143 v144 v145 v146 v147 v148 v149 v150 v151 v152 v153 v154 v155 v156 v157 v158 v159 v160 v161 v162 v163 v164 : Value)  (w' : World), Below E.w0.heap.size E.w0 w' → KK ⟨#[x0, x1, x2, x3, .bool true, ptr xb, x6, .string TY, x8, x9, x10, x11, .slice ba bn bc, .nilIface, ptr rb, .nilIface, x16, x17, x18, x19, x20, x21, x22, x23, x24, x25, x26, x27, x28, x29, x30, x31, x32, x33, x34, x35, x36, x37, x38, x39, x40, x41, x42, x43, x44, x45, x46, x47, x48, x49, x50, x51, x52, x53, x54, x55, x56, x57, x58, x59, x60, x61, x62, x63, x64, x65, x66, x67, x68, x69, x70, x71, x72, x73, x74, x75, x76, x77, x78, x79, x80, x81, x82, x83, x84, x85, x86, x87, x88, x89, x90, x91, x92, x93, x94, x95, x96, x97, x98, x99, x100, x101, x102, x103, x104, x105, x106, x107, x108, x109, x110, x111, x112, x113, x114, x115, x116, x117, x118, x119, x120, x121, x122, x123, x124, v125, v126, v127, v128, v129, v130, v131, v132, v133, v134, v135, v136, v137, v138, v139, v140, v141, v142, v143, v144, v145, v146, v147, v148, v149, v150, v151, v152, v153, v154, v155, v156, v157, v158, v159, v160, v161, v162, v163, v164], []⟩ w'))
    (hQp : Hid (∀ x a a' w, Q (.panic x) a w → a.defers = a'.defers → Q (.panic x) a' w)) :
    Code.wp Tryz.prog (((Tryz.f4.body.bind (regionAt 15)).getD .skip)) (Exit.then KK Q) ⟨#[x0, x1, x2, x3, x4, ptr xb, x6, .string TY, x8, x9, x10, x11, .slice ba bn bc, .nilIface, ptr rb, .nilIface, x16, x17, x18, x19, x20, x21, x22, x23, x24, x25, x26, x27, x28, x29, x30, x31, x32, x33, x34, x35, x36, x37, x38, x39, x40, x41, x42, x43, x44, x45, x46, x47, x48, x49, x50, x51, x52, x53, x54, x55, x56, x57, x58, x59, x60, x61, x62, x63, x64, x65, x66, x67, x68, x69, x70, x71, x72, x73, x74, x75, x76, x77, x78, x79, x80, x81, x82, x83, x84, x85, x86, x87, x88, x89, x90, x91, x92, x93, x94, x95, x96, x97, x98, x99, x100, x101, x102, x103, x104, x105, x106, x107, x108, x109, x110, x111, x112, x113, x114, x115, x116, x117, x118, x119, x120, x121, x122, x123, x124, x125, x126, x127, x128, x129, x130, x131, x132, x133, x134, x135, x136, x137, x138, x139, x140, x141, x142, x143, x144, x145, x146, x147, x148, x149, x150, x151, x152, x153, x154, x155, x156, x157, x158, x159, x160, x161, x162, x163, x164], []⟩ w := by
  have hu := hQp
  clear hu
  conv => arg 2; whnf
  try dsimp only
  have hu2 := hYL
  clear hu2
  have hRd := hidden (hR.out.below (below_drew1 w))
  have hS0 := hidden (hS.out.below (below_drew1 w))
  have hxn := hidden (show xb ∉ [E.d, E.g, E.mb, fb] from by have := hR.out.xn; simp; omega)
  have hcB := hidden (fun (wx : World) (hx : SwV xb fb rb B (.slice ba bn bc) ys FI wx) => show (convert 42 9 (.slice ba bn bc)).run Tryz.prog wx = .ok (.string TY) wx from by rw [← hTY.out]; exact conv_bytes _ _ _ (ownV_at hx.b))
  have kBl := fun (wx : World) => refblocks_calls (SY : Int) wx
  rw [hBI.out] at kBl
  replace kBl := hidden kBl
  have hbr := blk_range (SY : Int)
  rw [hBI.out] at hbr
  have e1 : IntKind.i64.wrap (130 : Int) = 130 := by decide
  have e2 : IntKind.i64.wrap ((130 : Int) - BI) = FI := by rw [wrap_pos _ (by omega) (by omega)]; exact hFI.out.symm
  clear hR hS
  refine wp_region_held_drew (S := SwV xb fb rb B (.slice ba bn bc) ys FI) (by kernel_rfl) hS0.out ?_
  intro _
  generalize w.drew = wd at *
  refine wpAnyH_ready (rs := [0]) (by kernel_rfl) (by simp) ?_
  refine AllReadyH.cons rfl (fun K hK => ?_) AllReadyH.nil
  go_simp
  refine hK.out _ _ hS0.out (fun _ => ?_)
  clear hK K
  refine wpAnyH_ready (rs := [1]) (by kernel_rfl) (by simp) ?_
  refine AllReadyH.cons rfl (fun K hK => ?_) AllReadyH.nil
  go_simp
  refine hK.out _ _ hS0.out (fun _ => ?_)
  clear hK K
  refine wpAnyH_ready (rs := [2]) (by kernel_rfl) (by simp) ?_
  refine AllReadyH.cons rfl (fun K hK => ?_) AllReadyH.nil
  go_simp
  refine hK.out _ _ hS0.out (fun _ => ?_)
  clear hK K
  refine wpAnyH_take (i := 3) (v := ?_) rfl (by kernel_rfl) (by kernel_rfl) (by kernel_rfl) (fun _ _ _ h => hQp.out _ _ _ _ h rfl) (Or.inl ⟨by rfl, ?_⟩) hS0.out ?_
  rotate_left
  · intro w hw; clear hw; go_simp; try (with_reducible rfl)
  refine wpAnyH_take (i := 4) (v := ?_) rfl (by kernel_rfl) (by kernel_rfl) (by kernel_rfl) (fun _ _ _ h => hQp.out _ _ _ _ h rfl) (Or.inl ⟨by rfl, ?_⟩) hS0.out ?_
  rotate_left
  · intro w hw; have c := hcB.out _ hw; clear hw; go_simp; try (with_reducible rfl)
  refine wpAnyH_ready (rs := [5]) (by kernel_rfl) (by simp) ?_
  refine AllReadyH.cons rfl (fun K hK => ?_) AllReadyH.nil
  go_simp
  refine hK.out _ _ hS0.out (fun _ => ?_)
  clear hK K
  refine wpAnyH_ready (rs := [6]) (by kernel_rfl) (by simp) ?_
  refine AllReadyH.cons rfl (fun K hK => ?_) AllReadyH.nil
  go_simp
  refine hK.out _ _ hS0.out (fun _ => ?_)
  clear hK K
  refine wpAnyH_ready (rs := [7]) (by kernel_rfl) (by simp) ?_
  refine AllReadyH.cons rfl (fun K hK => ?_) AllReadyH.nil
  go_simp
  refine hK.out _ _ hS0.out (fun _ => ?_)
  clear hK K
  refine wpAnyH_ready (rs := [8]) (by kernel_rfl) (by simp) ?_
  refine AllReadyH.cons rfl (fun K hK => ?_) AllReadyH.nil
  go_simp
  refine hK.out _ _ hS0.out (fun _ => ?_)
  clear hK K
  refine wpAnyH_ready (rs := [9]) (by kernel_rfl) (by simp) ?_
  refine AllReadyH.cons rfl (fun K hK => ?_) AllReadyH.nil
  go_simp
  refine hK.out _ _ hS0.out (fun _ => ?_)
  clear hK K
  refine wpAnyH_ready (rs := [10]) (by kernel_rfl) (by simp) ?_
  refine AllReadyH.cons rfl (fun K hK => ?_) AllReadyH.nil
  go_simp
  refine hK.out _ _ hS0.out (fun _ => ?_)
  clear hK K
  refine wpAnyH_ready (rs := [11]) (by kernel_rfl) (by simp) ?_
  refine AllReadyH.cons rfl (fun K hK => ?_) AllReadyH.nil
  go_simp
  refine hK.out _ _ hS0.out (fun _ => ?_)
  clear hK K
  refine wpAnyH_ready (rs := [12]) (by kernel_rfl) (by simp) ?_
  refine AllReadyH.cons rfl (fun K hK => ?_) AllReadyH.nil
  go_simp
  refine hK.out _ _ hS0.out (fun _ => ?_)
  clear hK K
  refine wpAnyH_take (i := 13) (v := ?_) rfl (by kernel_rfl) (by kernel_rfl) (by kernel_rfl) (fun _ _ _ h => hQp.out _ _ _ _ h rfl) (Or.inl ⟨by rfl, ?_⟩) hS0.out ?_
  rotate_left
  · intro w hw; clear hw; go_simp; try (with_reducible rfl)
  refine wpAnyH_take (i := 14) (v := ?_) rfl (by kernel_rfl) (by kernel_rfl) (by kernel_rfl) (fun _ _ _ h => hQp.out _ _ _ _ h rfl) (Or.inl ⟨by rfl, ?_⟩) hS0.out ?_
  rotate_left
  · intro w hw; have c := (hw).r.c0; have lc := (hw).r.lt; clear hw; go_simp; try (with_reducible rfl)
  refine wpAnyH_take (i := 15) (v := ?_) rfl (by kernel_rfl) (by kernel_rfl) (by kernel_rfl) (fun _ _ _ h => hQp.out _ _ _ _ h rfl) (Or.inl ⟨by rfl, ?_⟩) hS0.out ?_
  rotate_left
  · intro w hw; clear hw; go_simp; try (with_reducible rfl)
  refine wpAnyH_take (i := 16) (v := ?_) rfl (by kernel_rfl) (by kernel_rfl) (by kernel_rfl) (fun _ _ _ h => hQp.out _ _ _ _ h rfl) (Or.inl ⟨by rfl, ?_⟩) hS0.out ?_
  rotate_left
  · intro w hw; have c := (hw).r.c3; have lc := (hw).r.lt; clear hw; go_simp; try (with_reducible rfl)
  refine wpAnyH_take (i := 17) (v := ?_) rfl (by kernel_rfl) (by kernel_rfl) (by kernel_rfl) (fun _ _ _ h => hQp.out _ _ _ _ h rfl) (Or.inl ⟨by rfl, ?_⟩) hS0.out ?_
  rotate_left
  · intro w hw; clear hw; go_simp; try (with_reducible rfl)
  refine wpAnyH_ready (rs := [18]) (by kernel_rfl) (by simp) ?_
  refine AllReadyH.cons rfl (fun K hK => ?_) AllReadyH.nil
  go_simp
  refine hK.out _ _ hS0.out (fun _ => ?_)
  clear hK K
  refine wpAnyH_ready (rs := [19]) (by kernel_rfl) (by simp) ?_
  refine AllReadyH.cons rfl (fun K hK => ?_) AllReadyH.nil
  go_simp
  refine hK.out _ _ hS0.out (fun _ => ?_)
  clear hK K
  refine wpAnyH_ready (rs := [20]) (by kernel_rfl) (by simp) ?_
  refine AllReadyH.cons rfl (fun K hK => ?_) AllReadyH.nil
  go_simp
  go_wp2_with (go_at_call 19; refine (kBl.out _).mono ?_; rintro ev wB ⟨rfl, hwB⟩; subst wB)
  refine hK.out _ _ (hS0.out) (fun hSn1 => ?_)
  clear hK K
  refine wpAnyH_ready (rs := [21]) (by kernel_rfl) (by simp) ?_
  refine AllReadyH.cons rfl (fun K hK => ?_) AllReadyH.nil
  go_simp
  refine hK.out _ _ hSn1 (fun _ => ?_)
  clear hK K
  refine wpAnyH_ready (rs := [22]) (by kernel_rfl) (by simp) ?_
  refine AllReadyH.cons rfl (fun K hK => ?_) AllReadyH.nil
  go_simp
  refine hK.out _ _ hSn1 (fun _ => ?_)
  clear hK K
  refine wpAnyH_ready (rs := [23]) (by kernel_rfl) (by simp) ?_
  refine AllReadyH.cons rfl (fun K hK => ?_) AllReadyH.nil
  go_simp
  refine hK.out _ _ hSn1 (fun _ => ?_)
  clear hK K
  refine wpAnyH_ready (rs := [24]) (by kernel_rfl) (by simp) ?_
  refine AllReadyH.cons rfl (fun K hK => ?_) AllReadyH.nil
  go_simp
  refine hK.out _ _ hSn1 (fun _ => ?_)
  clear hK K
  refine wpAnyH_ready (rs := [25]) (by kernel_rfl) (by simp) ?_
  refine AllReadyH.cons rfl (fun K hK => ?_) AllReadyH.nil
  go_simp
  refine hK.out _ _ hSn1 (fun _ => ?_)
  clear hK K
  refine wpAnyH_ready (rs := [26]) (by kernel_rfl) (by simp) ?_
  refine AllReadyH.cons rfl (fun K hK => ?_) AllReadyH.nil
  have c := (hSn1).r.c2; have lc := (hSn1).r.lt
  go_simp
  refine hK.out _ _ hSn1 (fun _ => ?_)
  clear hK K
  refine wpAnyH_ready (rs := [27]) (by kernel_rfl) (by simp) ?_
  refine AllReadyH.cons rfl (fun K hK => ?_) AllReadyH.nil
  go_simp
  refine hK.out _ _ hSn1 (fun _ => ?_)
  clear hK K
  refine wpAnyH_ready (rs := [28]) (by kernel_rfl) (by simp) ?_
  refine AllReadyH.cons rfl (fun K hK => ?_) AllReadyH.nil
  go_simp
  refine hK.out _ _ hSn1 (fun _ => ?_)
  clear hK K
  refine wpAnyH_ready (rs := [29]) (by kernel_rfl) (by simp) ?_
  refine AllReadyH.cons rfl (fun K hK => ?_) AllReadyH.nil
  go_simp
  refine hK.out _ _ hSn1 (fun _ => ?_)
  clear hK K
  refine wpAnyH_ready (rs := [30]) (by kernel_rfl) (by simp) ?_
  refine AllReadyH.cons rfl (fun K hK => ?_) AllReadyH.nil
  go_simp
  refine hK.out _ _ hSn1 (fun _ => ?_)
  clear hK K
  refine wpAnyH_ready (rs := [31]) (by kernel_rfl) (by simp) ?_
  refine AllReadyH.cons rfl (fun K hK => ?_) AllReadyH.nil
  go_simp
  refine hK.out _ _ hSn1 (fun _ => ?_)
  clear hK K
  refine wpAnyH_ready (rs := [32]) (by kernel_rfl) (by simp) ?_
  refine AllReadyH.cons rfl (fun K hK => ?_) AllReadyH.nil
  go_simp
  refine hK.out _ _ hSn1 (fun _ => ?_)
  clear hK K
  refine wpAnyH_ready (rs := [33]) (by kernel_rfl) (by simp) ?_
  refine AllReadyH.cons rfl (fun K hK => ?_) AllReadyH.nil
  have c := (hSn1).x; have lc := lt_of_cell (a := ⟨xb, 1, none⟩) c
  go_simp
  refine hK.out _ _ hSn1 (fun _ => ?_)
  clear hK K
  refine wpAnyH_ready (rs := [34]) (by kernel_rfl) (by simp) ?_
  refine AllReadyH.cons rfl (fun K hK => ?_) AllReadyH.nil
  have kC := hidden (sw_check hRd.out (by have := hlim.out; omega))
  go_simp
  go_wp2_with (go_at_call 20; refine (kC.out).mono ?_; rintro ev w6 ⟨rfl, hR6, hT6⟩)
  refine hK.out _ _ (SwV.turn hSn1 hT6 hlow.out hxn.out) (fun hSn2 => ?_)
  have hW6 := hidden hR6.st.lts.2.2.1
  have hG6 := hidden hR6.st.lts.2.2.2
  clear kC hT6 hR6
  clear hK K
  refine wpAnyH_ready (rs := [35]) (by kernel_rfl) (by simp) ?_
  refine AllReadyH.cons rfl (fun K hK => ?_) AllReadyH.nil
  go_simp
  refine hK.out _ _ hSn2 (fun _ => ?_)
  clear hK K
  refine wpAnyH_ready (rs := [36]) (by kernel_rfl) (by simp) ?_
  refine AllReadyH.cons rfl (fun K hK => ?_) AllReadyH.nil
  go_simp
  refine hK.out _ _ hSn2 (fun _ => ?_)
  clear hK K
  refine wpAnyH_ready (rs := [37]) (by kernel_rfl) (by simp) ?_
  refine AllReadyH.cons rfl (fun K hK => ?_) AllReadyH.nil
  go_simp
  refine hK.out _ _ hSn2 (fun _ => ?_)
  clear hK K
  refine wpAnyH_ready (rs := [38]) (by kernel_rfl) (by simp) ?_
  refine AllReadyH.cons rfl (fun K hK => ?_) AllReadyH.nil
  have kA := hidden (awake11_calls w6 hG6.out (hGT.out.below hW6.out))
  go_simp
  go_wp2_with (go_at_call 13; refine (kA.out).mono ?_; rintro ev w8 ⟨rfl, hB8⟩)
  refine hK.out _ _ (SwV.below hSn2 hB8) (fun hSn3 => ?_)
  have hW8 := hidden (hW6.out.trans (hB8.mono hW6.out.size))
  clear hB8 kA
  clear hK K
  refine wpAnyH_ready (rs := [39]) (by kernel_rfl) (by simp) ?_
  refine AllReadyH.cons rfl (fun K hK => ?_) AllReadyH.nil
  go_simp
  refine hK.out _ _ hSn3 (fun _ => ?_)
  clear hK K
  refine wpAnyH_ready (rs := [40]) (by kernel_rfl) (by simp) ?_
  refine AllReadyH.cons rfl (fun K hK => ?_) AllReadyH.nil
  go_simp
  refine hK.out _ _ hSn3 (fun _ => ?_)
  clear hK K
  refine wpAnyH_done (by kernel_rfl) ?_ _
  refine hKK.out _ _ _ _ _ _ _ _ _ _ _ _ _ _ _ _ _ _ _ _ _ _ _ _ _ _ _ _ _ _ _ _ _ _ _ _ _ _ _ _ w8 hW8.out
end Go.Proofs.YtjionogjeafffaaGreatDoor
