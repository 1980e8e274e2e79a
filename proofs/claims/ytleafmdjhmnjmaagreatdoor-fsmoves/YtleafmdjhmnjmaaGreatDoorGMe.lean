/- FsMoves: a file put into a directory, with its directory's path as its bytes. -/
import Derived.Test.YtleafmdjhmnjmaaGreatDoorGMc
import Derived.Deep.RegionHeld
import Derived.Test.YtleafmdjhmnjmaaGreatDoorGW
import Derived.Test.YtleafmdjhmnjmaaGreatDoorGMd
import Derived.Deep.CutBlock
namespace Go.Proofs.YtleafmdjhmnjmaaGreatDoor
open Go.RowKit Go.Extern.Stop Go.Stop Go.Extern Go.Maps Go.Sort Go.Shelf
set_option maxRecDepth 1000000
def regionAt (n : Nat) : Code -> Option Code
  | .region m o d => if m = n then some (.region m o d) else none
  | .block _ c => regionAt n c
  | .loop c => regionAt n c
  | .seq a b => match regionAt n a with
    | some c => some c
    | none => regionAt n b
  | .scope c => regionAt n c
  | .cond _ a b => match regionAt n a with
    | some c => some c
    | none => regionAt n b
  | _ => none
def XAt (xb fb : Nat) (w : World) : Prop := w.cell? ⟨xb, 1, none⟩ = some (ptr fb)
theorem wpAnyH_actM {P : Program} {md : Region.Mode} {ops : Array Oper} {Q : Exit -> Act -> World -> Prop} {S : World -> Prop} {fuel : Nat} {listed : Array Bool} {a a' : Act} {w : World} (e : a = a') (h : wpAnyH P md ops Q S fuel listed a' w) : wpAnyH P md ops Q S fuel listed a w := e ▸ h
theorem XAt.out {xb fb : Nat} {w : World} (h : XAt xb fb w) : w.cell? ⟨xb, 1, none⟩ = some (ptr fb) := h
set_option maxHeartbeats 8000000 in
theorem mv15 (w : World) (fb xb : Nat) (PX TX QX : ByteArray) (k : Nat) (S S' : World -> Prop) (hcat : PX ++ ⟨#[47, 102]⟩ ++ TX = QX) (hs1 : PX.size <= 100) (hs2 : TX.size <= 20) (hx : Hid (∀ wx, S wx -> XAt xb fb wx)) (hx' : Hid (∀ wx, S' wx -> XAt xb fb wx)) (hB : Hid (∀ wx wy, S wx -> Below wx.heap.size wx wy -> S wy)) (kN : Hid (∀ wx : World, Calls Tryz.prog 7 #[.int .i64 (k : Int)] wx fun e w' => e = .returned (.string TX) /\ w' = wx)) (kC : Hid (∀ wx, S wx -> ∃ bv w', (convert 9 34 (.string PX)).run Tryz.prog wx = .ok bv w' /\ XAt xb fb w' /\ Hid (Calls Tryz.prog 8 #[ptr fb, .string QX, bv] w' fun e w'' => e = .returned .nilIface /\ S' w''))) (hS : Hid (S w))
    (x0 x1 x2 x3 x4 x7 x9 x10 x11 x12 x13 x14 x15 x16 x17 x18 x19 x20 x21 x22 x23 x24 x25 x26 x27 x28 x29 x30 x31 x32 x33 x34 x35 x36 x37 x38 x39 x40 x41 x42 x43 x44 x45 x46 x47 x48 x49 x50 x51 x52 x53 x54 x55 x56 x57 x58 x59 x60 x61 x62 x63 x64 x65 x66 x67 x68 x69 x70 x71 x72 x73 x74 x75 x76 x77 x78 x79 x80 x81 x82 x83 x84 x85 x86 x87 x88 x89 x90 x91 x92 x93 x94 x95 x96 x97 x98 x99 x100 x101 x102 x103 x104 x105 x106 x107 x108 x109 x110 x111 x112 x113 x114 x115 x116 x117 x118 x119 x120 x121 x122 x123 x124 x125 x126 x127 x128 x129 x130 x131 x132 x133 x134 x135 x136 x137 x138 x139 x140 x141 x142 x143 x144 x145 x146 x147 x148 x149 x150 x151 x152 x153 x154 x155 x156 x157 x158 x159 x160 : Value) (KK : Act -> World -> Prop) (Q : Exit -> Act -> World -> Prop)
    (hKK : Hid (∀ (v47 v48 v49 v50 v51 v52 v53 v54 v55 v56 v57 v58 : Value)  (w' : World), S' w' -> KK ⟨#[x0, x1, x2, x3, x4, ptr xb, .string PX, x7, .int .i64 (k : Int), x9, x10, x11, x12, x13, x14, x15, x16, x17, x18, x19, x20, x21, x22, x23, x24, x25, x26, x27, x28, x29, x30, x31, x32, x33, x34, x35, x36, x37, x38, x39, x40, x41, x42, x43, x44, x45, x46, v47, v48, v49, v50, v51, v52, v53, v54, v55, v56, v57, v58, .bool false, x60, x61, x62, x63, x64, x65, x66, x67, x68, x69, x70, x71, x72, x73, x74, x75, x76, x77, x78, x79, x80, x81, x82, x83, x84, x85, x86, x87, x88, x89, x90, x91, x92, x93, x94, x95, x96, x97, x98, x99, x100, x101, x102, x103, x104, x105, x106, x107, x108, x109, x110, x111, x112, x113, x114, x115, x116, x117, x118, x119, x120, x121, x122, x123, x124, x125, x126, x127, x128, x129, x130, x131, x132, x133, x134, x135, x136, x137, x138, x139, x140, x141, x142, x143, x144, x145, x146, x147, x148, x149, x150, x151, x152, x153, x154, x155, x156, x157, x158, x159, x160], []⟩ w'))
    (hQp : Hid (∀ x a a' w, Q (.panic x) a w -> a.defers = a'.defers -> Q (.panic x) a' w)) :
    Code.wp Tryz.prog (((Tryz.f4.body.bind (regionAt 15)).getD .skip)) (Exit.then KK Q) ⟨#[x0, x1, x2, x3, x4, ptr xb, .string PX, x7, .int .i64 (k : Int), x9, x10, x11, x12, x13, x14, x15, x16, x17, x18, x19, x20, x21, x22, x23, x24, x25, x26, x27, x28, x29, x30, x31, x32, x33, x34, x35, x36, x37, x38, x39, x40, x41, x42, x43, x44, x45, x46, x47, x48, x49, x50, x51, x52, x53, x54, x55, x56, x57, x58, x59, x60, x61, x62, x63, x64, x65, x66, x67, x68, x69, x70, x71, x72, x73, x74, x75, x76, x77, x78, x79, x80, x81, x82, x83, x84, x85, x86, x87, x88, x89, x90, x91, x92, x93, x94, x95, x96, x97, x98, x99, x100, x101, x102, x103, x104, x105, x106, x107, x108, x109, x110, x111, x112, x113, x114, x115, x116, x117, x118, x119, x120, x121, x122, x123, x124, x125, x126, x127, x128, x129, x130, x131, x132, x133, x134, x135, x136, x137, x138, x139, x140, x141, x142, x143, x144, x145, x146, x147, x148, x149, x150, x151, x152, x153, x154, x155, x156, x157, x158, x159, x160], []⟩ w := by
  have hu := hQp
  clear hu
  conv => arg 2; whnf
  try dsimp only
  have hq1 : ¬ 9223372036854775807 < PX.size + 2 := by omega
  have hq2 : ¬ 9223372036854775807 < PX.size + 2 + TX.size := by omega
  have hSd := hidden (hB.out _ _ hS.out (below_drew1 w))
  have hS0 : Hid (XAt xb fb w.drew) := hidden (hx.out _ hSd.out)
  clear hS
  refine wp_region_held_drew (S := XAt xb fb) (by kernel_rfl) hS0.out ?_
  intro _
  generalize w.drew = wd at *
  refine wpAnyH_take (i := 0) (v := ?_) rfl (by kernel_rfl) (by kernel_rfl) (by kernel_rfl) (fun _ _ _ h => hQp.out _ _ _ _ h rfl) (Or.inl ⟨by rfl, ?_⟩) hS0.out ?_
  rotate_left
  · intro w hw; clear hw; go_simp; try (with_reducible rfl)
  refine wpAnyH_take (i := 1) (v := ?_) rfl (by kernel_rfl) (by kernel_rfl) (by kernel_rfl) (fun _ _ _ h => hQp.out _ _ _ _ h rfl) (Or.inl ⟨by rfl, ?_⟩) hS0.out ?_
  rotate_left
  · intro w hw; clear hw; go_simp; try (with_reducible rfl)
  refine wpAnyH_take (i := 2) (v := ?_) rfl (by kernel_rfl) (by kernel_rfl) (by kernel_rfl) (fun _ _ _ h => hQp.out _ _ _ _ h rfl) (Or.inl ⟨by rfl, ?_⟩) hS0.out ?_
  rotate_left
  · intro w hw; clear hw; go_simp; try (with_reducible rfl)
  refine wpAnyH_take (i := 3) (v := ?_) rfl (by kernel_rfl) (by kernel_rfl) (by kernel_rfl) (fun _ _ _ h => hQp.out _ _ _ _ h rfl) (Or.inl ⟨by rfl, ?_⟩) hS0.out ?_
  rotate_left
  · intro w hw; have c := (hw).out; have lc := lt_of_cell (a := ⟨xb, 1, none⟩) c; clear hw; go_simp; try (with_reducible rfl)
  refine wpAnyH_take (i := 4) (v := ?_) rfl (by kernel_rfl) (by kernel_rfl) (by kernel_rfl) (fun _ _ _ h => hQp.out _ _ _ _ h rfl) (Or.inl ⟨by rfl, ?_⟩) hS0.out ?_
  rotate_left
  · intro w hw; clear hw; go_simp; try (with_reducible rfl)
  refine wpAnyH_take (i := 5) (v := ?_) rfl (by kernel_rfl) (by kernel_rfl) (by kernel_rfl) (fun _ _ _ h => hQp.out _ _ _ _ h rfl) (Or.inl ⟨by rfl, ?_⟩) hS0.out ?_
  rotate_left
  · intro w hw; clear hw; go_simp; try (with_reducible rfl)
  refine wpAnyH_take (i := 6) (v := ?_) rfl (by kernel_rfl) (by kernel_rfl) (by kernel_rfl) (fun _ _ _ h => hQp.out _ _ _ _ h rfl) (Or.inl ⟨by rfl, ?_⟩) hS0.out ?_
  rotate_left
  · intro w hw; clear hw; go_simp; try (with_reducible rfl)
  refine wpAnyH_take (i := 9) (v := ?_) rfl (by kernel_rfl) (by kernel_rfl) (by kernel_rfl) (fun _ _ _ h => hQp.out _ _ _ _ h rfl) (Or.inl ⟨by rfl, ?_⟩) hS0.out ?_
  rotate_left
  · intro w hw; clear hw; go_simp; try (with_reducible rfl)
  refine wpAnyH_actM (a' := ?_) ?_ ?_
  rotate_left
  · go_simp; try (with_reducible rfl)
  refine wpAnyH_ready (rs := [7, 10]) (by kernel_rfl) (by simp) ?_
  refine AllReadyH.cons rfl (fun K hK => ?_) ?_
  · go_simp
    go_wp2_with (go_at_call 7; refine (kN.out _).mono ?_; rintro ev wN ⟨rfl, hwN⟩; subst wN)
    refine hK.out _ _ (hS0.out) (fun hSn1 => ?_)
    clear hK K
    refine wpAnyH_take (i := 8) (v := ?_) rfl (by kernel_rfl) (by kernel_rfl) (by kernel_rfl) (fun _ _ _ h => hQp.out _ _ _ _ h rfl) (Or.inl ⟨by rfl, ?_⟩) hSn1 ?_
    rotate_left
    · intro w hw; clear hw; go_simp; try (with_reducible rfl)
    refine wpAnyH_actM (a' := ?_) ?_ ?_
    rotate_left
    · go_simp; try (with_reducible rfl)
    refine wpAnyH_ready (rs := [10]) (by kernel_rfl) (by simp) ?_
    refine AllReadyH.cons rfl (fun K hK => ?_) AllReadyH.nil
    obtain ⟨bv, w5, hcv, hx5, kP⟩ := kC.out _ hSd.out
    go_simp
    refine hK.out _ _ (hx5) (fun hSn2 => ?_)
    clear hcv
    clear hK K
    refine wpAnyH_actM (a' := ?_) ?_ ?_
    rotate_left
    · go_simp; try (with_reducible rfl)
    refine wpAnyH_ready (rs := [11]) (by kernel_rfl) (by simp) ?_
    refine AllReadyH.cons rfl (fun K hK => ?_) AllReadyH.nil
    go_simp
    go_wp2_with (go_at_call 8; refine (kP.out).mono ?_; rintro ev w6 ⟨rfl, hS6⟩)
    refine hK.out _ _ (hx'.out _ hS6) (fun hSn3 => ?_)
    replace hS6 := hidden hS6
    clear kP
    clear hK K
    refine wpAnyH_actM (a' := ?_) ?_ ?_
    rotate_left
    · go_simp; try (with_reducible rfl)
    refine wpAnyH_ready (rs := [12]) (by kernel_rfl) (by simp) ?_
    refine AllReadyH.cons rfl (fun K hK => ?_) AllReadyH.nil
    go_simp
    refine hK.out _ _ hSn3 (fun _ => ?_)
    clear hK K
    refine wpAnyH_done (by kernel_rfl) ?_ _
    refine hKK.out _ _ _ _ _ _ _ _ _ _ _ _ w6 hS6.out
  refine AllReadyH.cons rfl (fun K hK => ?_) ?_
  · obtain ⟨bv, w5, hcv, hx5, kP⟩ := kC.out _ hSd.out
    go_simp
    refine hK.out _ _ (hx5) (fun hSn4 => ?_)
    clear hcv
    clear hK K
    refine wpAnyH_actM (a' := ?_) ?_ ?_
    rotate_left
    · go_simp; try (with_reducible rfl)
    refine wpAnyH_ready (rs := [7]) (by kernel_rfl) (by simp) ?_
    refine AllReadyH.cons rfl (fun K hK => ?_) AllReadyH.nil
    go_simp
    go_wp2_with (go_at_call 7; refine (kN.out _).mono ?_; rintro ev wN ⟨rfl, hwN⟩; subst wN)
    refine hK.out _ _ (hSn4) (fun hSn5 => ?_)
    clear hK K
    refine wpAnyH_actM (a' := ?_) ?_ ?_
    rotate_left
    · go_simp; try (with_reducible rfl)
    refine wpAnyH_ready (rs := [8]) (by kernel_rfl) (by simp) ?_
    refine AllReadyH.cons rfl (fun K hK => ?_) AllReadyH.nil
    go_simp
    refine hK.out _ _ hSn5 (fun _ => ?_)
    clear hK K
    refine wpAnyH_actM (a' := ?_) ?_ ?_
    rotate_left
    · go_simp; try (with_reducible rfl)
    refine wpAnyH_ready (rs := [11]) (by kernel_rfl) (by simp) ?_
    refine AllReadyH.cons rfl (fun K hK => ?_) AllReadyH.nil
    go_simp
    go_wp2_with (go_at_call 8; refine (kP.out).mono ?_; rintro ev w6 ⟨rfl, hS6⟩)
    refine hK.out _ _ (hx'.out _ hS6) (fun hSn6 => ?_)
    replace hS6 := hidden hS6
    clear kP
    clear hK K
    refine wpAnyH_actM (a' := ?_) ?_ ?_
    rotate_left
    · go_simp; try (with_reducible rfl)
    refine wpAnyH_ready (rs := [12]) (by kernel_rfl) (by simp) ?_
    refine AllReadyH.cons rfl (fun K hK => ?_) AllReadyH.nil
    go_simp
    refine hK.out _ _ hSn6 (fun _ => ?_)
    clear hK K
    refine wpAnyH_done (by kernel_rfl) ?_ _
    refine hKK.out _ _ _ _ _ _ _ _ _ _ _ _ w6 hS6.out
  exact AllReadyH.nil
set_option maxHeartbeats 8000000 in
theorem mv42 (w : World) (fb xb : Nat) (PX TX QX : ByteArray) (k : Nat) (S S' : World -> Prop) (hcat : PX ++ ⟨#[47, 102]⟩ ++ TX = QX) (hs1 : PX.size <= 100) (hs2 : TX.size <= 20) (hx : Hid (∀ wx, S wx -> XAt xb fb wx)) (hx' : Hid (∀ wx, S' wx -> XAt xb fb wx)) (hB : Hid (∀ wx wy, S wx -> Below wx.heap.size wx wy -> S wy)) (kN : Hid (∀ wx : World, Calls Tryz.prog 7 #[.int .i64 (k : Int)] wx fun e w' => e = .returned (.string TX) /\ w' = wx)) (L : Nat) (kG : Hid (∀ wx, S wx -> Calls Tryz.prog 21 #[ptr fb, .string QX] wx fun e w' => (∃ a c, e = .returned (.tuple #[.slice a L c, .nilIface])) /\ S' w')) (hS : Hid (S w))
    (x0 x1 x2 x3 x4 x6 x7 x8 x9 x10 x12 x13 x14 x15 x17 x18 x19 x20 x21 x22 x23 x24 x25 x26 x27 x28 x29 x30 x31 x32 x33 x34 x35 x36 x37 x38 x39 x40 x41 x42 x43 x44 x45 x46 x47 x48 x49 x50 x51 x52 x53 x54 x55 x56 x57 x58 x59 x60 x61 x62 x63 x64 x65 x66 x67 x68 x69 x70 x71 x72 x73 x74 x75 x76 x77 x78 x79 x80 x81 x82 x83 x84 x85 x86 x87 x88 x89 x90 x91 x92 x93 x94 x95 x96 x97 x98 x99 x100 x101 x102 x103 x104 x105 x106 x107 x108 x109 x110 x111 x112 x113 x114 x115 x116 x117 x118 x119 x120 x121 x122 x123 x124 x125 x126 x127 x128 x129 x130 x131 x132 x133 x134 x135 x136 x137 x138 x139 x140 x141 x142 x143 x144 x145 x146 x147 x148 x149 x150 x151 x152 x153 x154 x155 x156 x157 x158 x159 x160 : Value) (KK : Act -> World -> Prop) (Q : Exit -> Act -> World -> Prop)
    (hKK : Hid (∀ (v127 v128 v129 v130 v131 v132 v133 v134 v135 v136 v137 v138 v139 : Value) (a : Option Addr) (c : Nat) (w' : World), S' w' -> KK ⟨#[x0, x1, x2, x3, x4, ptr xb, x6, x7, x8, x9, x10, .string PX, x12, x13, x14, x15, .int .i64 (k : Int), .slice a L c, .nilIface, x19, x20, x21, x22, x23, x24, x25, x26, x27, x28, x29, x30, x31, x32, x33, x34, x35, x36, x37, x38, x39, x40, x41, x42, x43, x44, x45, x46, x47, x48, x49, x50, x51, x52, x53, x54, x55, x56, x57, x58, x59, x60, x61, x62, x63, x64, x65, x66, x67, x68, x69, x70, x71, x72, x73, x74, x75, x76, x77, x78, x79, x80, x81, x82, x83, x84, x85, x86, x87, x88, x89, x90, x91, x92, x93, x94, x95, x96, x97, x98, x99, x100, x101, x102, x103, x104, x105, x106, x107, x108, x109, x110, x111, x112, x113, x114, x115, x116, x117, x118, x119, x120, x121, x122, x123, x124, x125, x126, v127, v128, v129, v130, v131, v132, v133, v134, v135, v136, v137, v138, v139, x140, x141, x142, x143, x144, x145, x146, x147, x148, x149, x150, x151, x152, x153, x154, x155, x156, x157, x158, x159, x160], []⟩ w'))
    (hQp : Hid (∀ x a a' w, Q (.panic x) a w -> a.defers = a'.defers -> Q (.panic x) a' w)) :
    Code.wp Tryz.prog (((Tryz.f4.body.bind (regionAt 42)).getD .skip)) (Exit.then KK Q) ⟨#[x0, x1, x2, x3, x4, ptr xb, x6, x7, x8, x9, x10, .string PX, x12, x13, x14, x15, .int .i64 (k : Int), x17, x18, x19, x20, x21, x22, x23, x24, x25, x26, x27, x28, x29, x30, x31, x32, x33, x34, x35, x36, x37, x38, x39, x40, x41, x42, x43, x44, x45, x46, x47, x48, x49, x50, x51, x52, x53, x54, x55, x56, x57, x58, x59, x60, x61, x62, x63, x64, x65, x66, x67, x68, x69, x70, x71, x72, x73, x74, x75, x76, x77, x78, x79, x80, x81, x82, x83, x84, x85, x86, x87, x88, x89, x90, x91, x92, x93, x94, x95, x96, x97, x98, x99, x100, x101, x102, x103, x104, x105, x106, x107, x108, x109, x110, x111, x112, x113, x114, x115, x116, x117, x118, x119, x120, x121, x122, x123, x124, x125, x126, x127, x128, x129, x130, x131, x132, x133, x134, x135, x136, x137, x138, x139, x140, x141, x142, x143, x144, x145, x146, x147, x148, x149, x150, x151, x152, x153, x154, x155, x156, x157, x158, x159, x160], []⟩ w := by
  have hu := hQp
  clear hu
  conv => arg 2; whnf
  try dsimp only
  have hq1 : ¬ 9223372036854775807 < PX.size + 2 := by omega
  have hq2 : ¬ 9223372036854775807 < PX.size + 2 + TX.size := by omega
  have hSd := hidden (hB.out _ _ hS.out (below_drew1 w))
  have hS0 : Hid (XAt xb fb w.drew) := hidden (hx.out _ hSd.out)
  clear hS
  refine wp_region_held_drew (S := XAt xb fb) (by kernel_rfl) hS0.out ?_
  intro _
  generalize w.drew = wd at *
  refine wpAnyH_take (i := 0) (v := ?_) rfl (by kernel_rfl) (by kernel_rfl) (by kernel_rfl) (fun _ _ _ h => hQp.out _ _ _ _ h rfl) (Or.inl ⟨by rfl, ?_⟩) hS0.out ?_
  rotate_left
  · intro w hw; clear hw; go_simp; try (with_reducible rfl)
  refine wpAnyH_take (i := 1) (v := ?_) rfl (by kernel_rfl) (by kernel_rfl) (by kernel_rfl) (fun _ _ _ h => hQp.out _ _ _ _ h rfl) (Or.inl ⟨by rfl, ?_⟩) hS0.out ?_
  rotate_left
  · intro w hw; clear hw; go_simp; try (with_reducible rfl)
  refine wpAnyH_take (i := 2) (v := ?_) rfl (by kernel_rfl) (by kernel_rfl) (by kernel_rfl) (fun _ _ _ h => hQp.out _ _ _ _ h rfl) (Or.inl ⟨by rfl, ?_⟩) hS0.out ?_
  rotate_left
  · intro w hw; clear hw; go_simp; try (with_reducible rfl)
  refine wpAnyH_take (i := 3) (v := ?_) rfl (by kernel_rfl) (by kernel_rfl) (by kernel_rfl) (fun _ _ _ h => hQp.out _ _ _ _ h rfl) (Or.inl ⟨by rfl, ?_⟩) hS0.out ?_
  rotate_left
  · intro w hw; have c := (hw).out; have lc := lt_of_cell (a := ⟨xb, 1, none⟩) c; clear hw; go_simp; try (with_reducible rfl)
  refine wpAnyH_take (i := 4) (v := ?_) rfl (by kernel_rfl) (by kernel_rfl) (by kernel_rfl) (fun _ _ _ h => hQp.out _ _ _ _ h rfl) (Or.inl ⟨by rfl, ?_⟩) hS0.out ?_
  rotate_left
  · intro w hw; clear hw; go_simp; try (with_reducible rfl)
  refine wpAnyH_take (i := 5) (v := ?_) rfl (by kernel_rfl) (by kernel_rfl) (by kernel_rfl) (fun _ _ _ h => hQp.out _ _ _ _ h rfl) (Or.inl ⟨by rfl, ?_⟩) hS0.out ?_
  rotate_left
  · intro w hw; clear hw; go_simp; try (with_reducible rfl)
  refine wpAnyH_actM (a' := ?_) ?_ ?_
  rotate_left
  · go_simp; try (with_reducible rfl)
  refine wpAnyH_ready (rs := [6]) (by kernel_rfl) (by simp) ?_
  refine AllReadyH.cons rfl (fun K hK => ?_) AllReadyH.nil
  go_simp
  refine hK.out _ _ hS0.out (fun _ => ?_)
  clear hK K
  refine wpAnyH_actM (a' := ?_) ?_ ?_
  rotate_left
  · go_simp; try (with_reducible rfl)
  refine wpAnyH_ready (rs := [7]) (by kernel_rfl) (by simp) ?_
  refine AllReadyH.cons rfl (fun K hK => ?_) AllReadyH.nil
  go_simp
  go_wp2_with (go_at_call 7; refine (kN.out _).mono ?_; rintro ev wN ⟨rfl, hwN⟩; subst wN)
  refine hK.out _ _ (hS0.out) (fun hSn1 => ?_)
  clear hK K
  refine wpAnyH_actM (a' := ?_) ?_ ?_
  rotate_left
  · go_simp; try (with_reducible rfl)
  refine wpAnyH_ready (rs := [8]) (by kernel_rfl) (by simp) ?_
  refine AllReadyH.cons rfl (fun K hK => ?_) AllReadyH.nil
  go_simp
  refine hK.out _ _ hSn1 (fun _ => ?_)
  clear hK K
  refine wpAnyH_actM (a' := ?_) ?_ ?_
  rotate_left
  · go_simp; try (with_reducible rfl)
  refine wpAnyH_ready (rs := [9]) (by kernel_rfl) (by simp) ?_
  refine AllReadyH.cons rfl (fun K hK => ?_) AllReadyH.nil
  go_simp
  go_wp2_with (go_at_call 21; refine (kG.out _ hSd.out).mono ?_; rintro ev w6 ⟨⟨ga, gc, rfl⟩, hS6⟩)
  refine hK.out _ _ (hx'.out _ hS6) (fun hSn2 => ?_)
  replace hS6 := hidden hS6
  clear kG
  clear hK K
  refine wpAnyH_actM (a' := ?_) ?_ ?_
  rotate_left
  · go_simp; try (with_reducible rfl)
  refine wpAnyH_ready (rs := [10]) (by kernel_rfl) (by simp) ?_
  refine AllReadyH.cons rfl (fun K hK => ?_) AllReadyH.nil
  go_simp
  refine hK.out _ _ hSn2 (fun _ => ?_)
  clear hK K
  refine wpAnyH_take (i := 11) (v := ?_) rfl (by kernel_rfl) (by kernel_rfl) (by kernel_rfl) (fun _ _ _ h => hQp.out _ _ _ _ h rfl) (Or.inl ⟨by rfl, ?_⟩) hSn2 ?_
  rotate_left
  · intro w hw; clear hw; go_simp; try (with_reducible rfl)
  refine wpAnyH_take (i := 12) (v := ?_) rfl (by kernel_rfl) (by kernel_rfl) (by kernel_rfl) (fun _ _ _ h => hQp.out _ _ _ _ h rfl) (Or.inl ⟨by rfl, ?_⟩) hSn2 ?_
  rotate_left
  · intro w hw; clear hw; go_simp; try (with_reducible rfl)
  refine wpAnyH_actM (a' := ?_) ?_ ?_
  rotate_left
  · go_simp; try (with_reducible rfl)
  refine wpAnyH_ready (rs := [13]) (by kernel_rfl) (by simp) ?_
  refine AllReadyH.cons rfl (fun K hK => ?_) AllReadyH.nil
  go_simp
  refine hK.out _ _ hSn2 (fun _ => ?_)
  clear hK K
  refine wpAnyH_actM (a' := ?_) ?_ ?_
  rotate_left
  · go_simp; try (with_reducible rfl)
  refine wpAnyH_ready (rs := [14]) (by kernel_rfl) (by simp) ?_
  refine AllReadyH.cons rfl (fun K hK => ?_) AllReadyH.nil
  go_simp
  refine hK.out _ _ hSn2 (fun _ => ?_)
  clear hK K
  refine wpAnyH_done (by kernel_rfl) ?_ _
  refine hKK.out _ _ _ _ _ _ _ _ _ _ _ _ _ ga gc w6 hS6.out
end Go.Proofs.YtleafmdjhmnjmaaGreatDoor
namespace Go.Proofs.YtleafmdjhmnjmaaGreatDoor
open Go.RowKit Go.Extern.Stop Go.Stop Go.Extern
set_option maxRecDepth 100000
abbrev tenText : ByteArray := ⟨#[48, 49, 50, 51, 52, 53, 54, 55, 56, 57]⟩
theorem ten_extract : ∀ d : Nat, d < 10 -> (tenText.extract d (d + 1)).data = #[UInt8.ofNat (48 + d)] := by decide
theorem ten_cat (d : Nat) (hd : d < 10) (t : List UInt8) : tenText.extract d (d + 1) ++ (⟨t.toArray⟩ : ByteArray) = ⟨(UInt8.ofNat (48 + d) :: t).toArray⟩ := by
  apply ByteArray.ext
  rw [ByteArray.data_append, ten_extract d hd]
  simp
theorem ten_size (d : Nat) (hd : d < 10) : (tenText.extract d (d + 1)).size = 1 := by
  have := ten_extract d hd
  show (tenText.extract d (d + 1)).data.size = 1
  rw [this]
  rfl
theorem decDigits_step (u : Nat) (h : ¬ u < 10) : Lib.decDigits u = Lib.decDigits (u / 10) ++ [UInt8.ofNat (48 + u % 10)] := by rw [Lib.decDigits, dif_neg h]
theorem decDigits_len (u : Nat) (h : u < 18446744073709551616) : (Lib.decDigits u).length <= 20 := by
  have key : ∀ (k u : Nat), u < 10 ^ (k + 1) -> (Lib.decDigits u).length <= k + 1 := by
    intro k
    induction k with
    | zero => intro u hu; rw [Lib.decDigits_one (by omega)]; simp
    | succ k ih =>
      intro u hu
      by_cases h10 : u < 10
      · rw [Lib.decDigits_one h10]; simp
      · rw [decDigits_step u h10, List.length_append]
        have := ih (u / 10) (by rw [Nat.pow_succ] at hu; omega)
        simp
        omega
  exact key 19 u (by omega)
set_option maxHeartbeats 1000000 in
theorem digits_calls (u : Nat) (hu : u < 18446744073709551616) (w : World) :
    Calls Tryz.prog 27 #[.int .u64 u] w fun e w' => e = .returned (.string ⟨(Lib.decDigits u).toArray⟩) /\ w' = w := by
  have hlen := decDigits_len u hu
  go_enter Tryz.func27, Tryz.ntmps27
  go_wp2
  go_loopg [0, 3] u (fun gk x s wr => ∃ (y : Int) (t : List UInt8), x = .int .u64 y /\ s = .string ⟨t.toArray⟩ /\ 0 <= y /\ y < 18446744073709551616 /\ gk = y.toNat /\ Lib.decDigits u = Lib.decDigits y.toNat ++ t /\ wr = w)
  case atStart => exact ⟨u, [], rfl, rfl, by omega, by omega, by simp, by simp, rfl⟩
  case round =>
    obtain ⟨y, t, rfl, rfl, hy0, hy1, hgk, hd, rfl⟩ := hrel
    have htl : t.length <= 20 := by rw [hd, List.length_append] at hlen; omega
    have hts : (⟨t.toArray⟩ : ByteArray).size = t.length := by simp [ByteArray.size]
    replace hd := hidden hd
    replace hgk := hidden hgk
    clear hlen
    by_cases hlt : 9 < y
    · obtain ⟨D, hD, hD2⟩ : ∃ D : Nat, y.tmod 10 = (D : Int) /\ D = y.toNat % 10 := ⟨y.toNat % 10, by rw [Int.tmod_eq_emod_of_nonneg hy0]; omega, rfl⟩
      have hD10 : D < 10 := by omega
      have hDi : (D : Int) < 10 := by omega
      have hdiv : y.tdiv 10 = y / 10 := Int.tdiv_eq_ediv_of_nonneg hy0
      have hsz := ten_size D hD10
      have hct := hidden (ten_cat D hD10 t)
      replace hD2 := hidden hD2
      go_wp2
      go_roundg (y.toNat / 10)
      case measure => rw [hgk.out]; omega
      case rel =>
        refine ⟨y / 10, UInt8.ofNat (48 + D) :: t, rfl, ?_, by omega, by omega, by omega, ?_, rfl⟩
        · exact congrArg Value.string hct.out
        · rw [hd.out, decDigits_step y.toNat (by omega), <- hD2.out, show (y / 10).toNat = y.toNat / 10 by omega]
          simp
    · obtain ⟨Y, rfl⟩ := Int.eq_ofNat_of_zero_le hy0
      have hY : Y < 10 := by omega
      have hYi : (Y : Int) < 10 := by omega
      have hsz := ten_size Y hY
      have hct := hidden (ten_cat Y hY t)
      go_wp2
      go_ret
      refine ⟨?_, rfl⟩
      have h2 := hd.out
      rw [show ((Y : Nat) : Int).toNat = Y from rfl, Lib.decDigits_one hY] at h2
      rw [h2]
      exact congrArg (fun s => Ending.returned (.string s)) hct.out
theorem num_calls (i : Int) (hi : i64 i) (w : World) :
    Calls Tryz.prog 7 #[.int .i64 i] w fun e w' => e = .returned (.string (itoaB i)) /\ w' = w := by
  obtain ⟨hi0, hi1⟩ := hi
  by_cases hn : i < 0
  · have hlen := decDigits_len i.natAbs (by omega)
    have hdg := hidden (digits_calls i.natAbs (by omega) w)
    have hE : itoaB i = (⟨#[45]⟩ : ByteArray) ++ ⟨(Lib.decDigits i.natAbs).toArray⟩ := by
      apply ByteArray.ext
      show (Lib.itoa i).toArray = _
      unfold Lib.itoa
      rw [if_pos hn]
      simp
    have hsz : (⟨(Lib.decDigits i.natAbs).toArray⟩ : ByteArray).size <= 20 := by simpa [ByteArray.size] using hlen
    have hab : -(i + 1) + 1 = (i.natAbs : Int) := by omega
    have h0 : 0 <= -(i + 1) := by omega
    have h1 : -(i + 1) <= 9223372036854775807 := by omega
    rw [hE]
    clear hE hlen
    generalize (⟨(Lib.decDigits i.natAbs).toArray⟩ : ByteArray) = s at hdg hsz
    go_enter Tryz.func7, Tryz.ntmps7
    go_wp2_with fail
    refine (hdg.out).mono ?_
    rintro ev w1 ⟨rfl, rfl⟩
    go_wp2
    go_ret
    exact ⟨rfl, rfl⟩
  · obtain ⟨u, rfl⟩ := Int.eq_ofNat_of_zero_le (show 0 <= i by omega)
    have hdg := hidden (digits_calls u (by omega) w)
    have hE : itoaB (u : Int) = ⟨(Lib.decDigits u).toArray⟩ := by
      show (⟨(Lib.itoa (u : Int)).toArray⟩ : ByteArray) = _
      rw [Lib.itoa_nonneg]
    rw [hE]
    clear hE
    have h0 : (0 : Int) <= (u : Int) := by omega
    go_enter Tryz.func7, Tryz.ntmps7
    go_wp2_with fail
    refine (hdg.out).mono ?_
    rintro ev w1 ⟨rfl, rfl⟩
    go_wp2
    go_ret
    exact ⟨rfl, rfl⟩
end Go.Proofs.YtleafmdjhmnjmaaGreatDoor
namespace Go.Proofs.YtleafmdjhmnjmaaGreatDoor
open Go.RowKit Go.Extern.Stop Go.Stop Go.Extern Go.Maps Go.Sort Go.Shelf
set_option maxRecDepth 1000000
def shN (n d : Nat) : Nat := if 6 < d + 2 + (if n = 0 then 0 else 1) then 0 else 1
def wantN (n d : Nat) : Int := if 6 < d + 2 + (if n = 0 then 0 else 1) then 10 else 0
section
variable {fb hb xb n d lim : Nat} {w0 w : World}
theorem mv_ren (h : MvW fb hb xb n d 0 lim (mvQ n d) w0 w) (hn : n <= 7) (hd : d <= 4) (hlim : lim <= 300000000) :
    Calls Tryz.prog 19 #[ptr fb, .string ⟨#[47, 100]⟩, .string ⟨#[47, 116, 111, 47, 101]⟩] w fun e w' => ∃ ev, e = .returned ev /\ Calls Tryz.prog 18 #[ev, .string ⟨#[114, 101, 110, 97, 109, 101]⟩, .string ⟨#[47, 100]⟩, .int .i64 (wantN n d)] w' fun e2 w2 => e2 = .returned (.bool true) /\ MvW fb hb xb n d (shN n d) (lim + 1000) (fun D _ => mvB n d D) w0 w2 := by
  by_cases hdeep : 6 < d + 2 + (if n = 0 then 0 else 1)
  · have e1 : shN n d = 0 := if_pos hdeep
    have e2 : wantN n d = 10 := if_pos hdeep
    rw [e1, e2]
    refine (mv_deep h hn hd hdeep).mono ?_
    rintro e w' ⟨ev, rfl, he, hS⟩
    exact ⟨ev, rfl, ((hS.up (Nat.le_add_right _ _)).is he (by rfl))⟩
  · have e1 : shN n d = 1 := if_neg hdeep
    have e2 : wantN n d = 0 := if_neg hdeep
    rw [e1, e2]
    refine (mv_move h hn hd (by omega) hlim).mono ?_
    rintro e w' ⟨rfl, hS⟩
    refine ⟨_, rfl, (law_is_nil _ _ w').mono ?_⟩
    rintro e2 w2 ⟨rfl, rfl⟩
    exact ⟨rfl, hS⟩
end
theorem mk_app (a b : List UInt8) : mkB a ++ mkB b = mkB (a ++ b) := by
  apply ByteArray.ext
  apply Array.toList_inj.1
  rw [ByteArray.data_append, Array.toList_append]
  simp [mkB]
theorem it_mk (k : Nat) : itoaB (k : Int) = mkB (Lib.itoa (k : Int)) := by simp [mkB, itoaB]
theorem f_join (a : List UInt8) (k : Nat) : mkB a ++ ⟨#[47, 102]⟩ ++ itoaB (k : Int) = mkB (a ++ 47 :: nmP 102 k) := by
  have e : (⟨#[47, 102]⟩ : ByteArray) = mkB [47, 102] := rfl
  rw [it_mk, e, mk_app, mk_app, List.append_assoc]
  rfl
theorem d_join (a : List UInt8) : mkB a ++ ⟨#[47, 100]⟩ = mkB (a ++ [47, 100]) := mk_app a [47, 100]
theorem MvS.fb_lt {fb hb xb n d m lim : Nat} {w0 w : World} (hx : MvS fb hb xb n d m lim w0 w) : fb < w.heap.size := by
  obtain ⟨K, T, -, h2⟩ := hx
  exact h2.fb_lt
set_option maxHeartbeats 8000000 in
theorem fsMoves_calls (za zb : Int) (w : World) (hG : Ground w) (hGT : GT w) :
    Calls Tryz.prog 4 #[.int .i64 za, .int .i64 zb] w fun e w' => e = .returned (.bool true) /\ Below w.heap.size w w' := by
  have kM := hidden (New11_calls (n := 280) (i := 60) (r := 2) (dd := 123) ⟨by omega, by omega, by omega, by omega, by omega, by omega, by omega, by omega⟩ w hG)
  obtain ⟨d, hd, hd4⟩ : ∃ d : Nat, (bits .and .i64 za 255).tmod 5 = (d : Int) /\ d <= 4 := by
    have hal : 0 <= bits .and .i64 za 255 /\ bits .and .i64 za 255 <= 255 := and_low za 255 (by decide)
    have e : (bits .and .i64 za 255).tmod 5 = bits .and .i64 za 255 % 5 := Int.tmod_eq_emod_of_nonneg hal.1
    refine ⟨((bits .and .i64 za 255) % 5).toNat, ?_, by omega⟩
    rw [e]
    omega
  obtain ⟨n, hn, hn7⟩ : ∃ n : Nat, bits .and .i64 zb 7 = (n : Int) /\ n <= 7 := by
    have hal : 0 <= bits .and .i64 zb 7 /\ bits .and .i64 zb 7 <= 7 := and_low zb 7 (by decide)
    exact ⟨(bits .and .i64 zb 7).toNat, by omega, by omega⟩
  obtain ⟨N, hN, hN5⟩ : ∃ N : Nat, (d : Int) + 1 = (N : Int) /\ N <= 5 := ⟨d + 1, by omega, by omega⟩
  have hNd := hidden (show N = d + 1 by omega)
  replace hGT := hidden hGT
  clear hG
  go_enter Tryz.func4, Tryz.ntmps4
  go_wp2_with fail
  refine (kM.out).mono ?_
  rintro ev w1 ⟨E, fb, hb, xb, rfl, hN11⟩
  have h1 := hidden (mv_new (n := n) hN11 hGT.out)
  clear hN11 kM
  go_wp2_with fail
  replace hd := hidden hd
  replace hn := hidden hn
  replace hN := hidden hN
  go_loopg [6, 7] 6 (fun gk p q wr => ∃ i : Nat, i <= N /\ gk = 6 - i /\ p = .string (mkB (pathD i)) /\ q = .int .i64 (i : Nat) /\ Hid (MvH fb hb xb n i (6000 + 20000 * i) w wr))
  case atStart => exact ⟨0, by omega, rfl, rfl, rfl, h1⟩
  case round =>
    obtain ⟨i, hiN, hgk, rfl, rfl, hS⟩ := hrel
    rename World => wo
    have hgk' := hidden hgk
    clear h1 hgk
    by_cases hlt : i < N
    · have hlt' : (i : Int) < (N : Int) := by omega
      have hi4 := hidden (show i <= 4 by omega)
      have kK := hidden (mv_mkdir hS.out hn7 hi4.out (by omega))
      have hcat : mkB (pathD i) ++ ⟨#[47, 100]⟩ = mkB (pathD (i + 1)) := by rw [pathD_succ]; exact d_join _
      have hsz : (mkB (pathD i)).size <= 100 := by rw [mk_size, pathD_len]; omega
      have hszy : (mkB (pathD (i + 1))).size <= 100 := by rw [mk_size, pathD_len]; omega
      have c1 := hS.out.x1
      have l1 := lt_of_cell (a := ⟨xb, 1, none⟩) c1
      obtain ⟨PY, hPY⟩ : ∃ PY, mkB (pathD (i + 1)) = PY := ⟨_, rfl⟩
      rw [hPY] at kK hcat hszy
      replace hPY := hidden hPY
      generalize mkB (pathD i) = PX at hcat hsz ⊢
      go_wp2_with fail
      refine (kK.out).mono ?_
      rintro ev w2 ⟨rfl, hS2⟩
      obtain ⟨lim, hlim, hl2⟩ : ∃ lim, 6000 + 20000 * i + 1000 = lim /\ lim <= 200000 := ⟨_, rfl, by omega⟩
      rw [hlim] at hS2
      replace hlim := hidden hlim
      replace hl2 := hidden hl2
      replace hS2 := hidden hS2
      clear kK c1 l1 hS
      go_wp2_with fail
      go_loopg [8] 8 (fun gk q wr => ∃ k : Nat, k <= n /\ gk = 8 - k /\ q = .int .i64 (k : Nat) /\ Hid (MvS fb hb xb n i k (lim + 1000 * k) w wr))
      case atStart => exact ⟨0, by omega, rfl, rfl, hS2⟩
      case round =>
        obtain ⟨k, hkn, hgk2, rfl, hS3⟩ := hrel
        have hgk2' := hidden hgk2
        clear hS2 hgk2
        by_cases hlk : k < n
        · have hlk' : (k : Int) < (n : Int) := by omega
          have kN := hidden (fun (wx : World) => num_calls (k : Int) ⟨by omega, by omega⟩ wx)
          have hcat2 := f_join (pathD (i + 1)) k
          have hszt := nm_size (i := k) (by omega)
          have kC := hidden (fun (wx : World) (hx : MvS fb hb xb n i k (lim + 1000 * k) w wx) => show ∃ bv w', (convert 9 34 (.string PY)).run Tryz.prog wx = .ok bv w' /\ XAt xb fb w' /\ Hid (Calls Tryz.prog 8 #[ptr fb, .string (mkB (pathD (i + 1) ++ 47 :: nmP 102 k)), bv] w' fun e w'' => e = .returned .nilIface /\ MvS fb hb xb n i (k + 1) (lim + 1000 * k + 1000) w w'') from by
            have hfb := hx.fb_lt
            obtain ⟨cap, w5, hcv, hbc, hB5⟩ := bytes_of fb wx (fileB i) (bI_range _) (by rw [fileB_len]; omega) hfb
            have e : ofBytes (fileB i) = PY := by rw [<- hPY.out]; exact ofB_bI _
            rw [e] at hcv
            have hx5 := hx.below hB5
            exact ⟨_, w5, hcv, hx5.x1, hidden (mv_put hx5 hn7 hi4.out hlk hbc (by have := hl2.out; omega))⟩)
          rw [hPY.out] at hcat2
          generalize mkB (pathD (i + 1) ++ 47 :: nmP 102 k) = QX at kC hcat2
          generalize itoaB (k : Int) = TX at kN hcat2 hszt
          clear hsz hcat
          go_upto_region 15 with fail
          refine mv15 wr fb xb PY TX QX k (fun wx => MvS fb hb xb n i k (lim + 1000 * k) w wx) (fun wx => MvS fb hb xb n i (k + 1) (lim + 1000 * k + 1000) w wx) hcat2 hszy hszt (hidden fun wx hx => hx.x1) (hidden fun wx hx => hx.x1) (hidden fun wx wy hx hy => hx.below hy) kN kC hS3 _ _ _ _ _ _ _ _ _ _ _ _ _ _ _ _ _ _ _ _ _ _ _ _ _ _ _ _ _ _ _ _ _ _ _ _ _ _ _ _ _ _ _ _ _ _ _ _ _ _ _ _ _ _ _ _ _ _ _ _ _ _ _ _ _ _ _ _ _ _ _ _ _ _ _ _ _ _ _ _ _ _ _ _ _ _ _ _ _ _ _ _ _ _ _ _ _ _ _ _ _ _ _ _ _ _ _ _ _ _ _ _ _ _ _ _ _ _ _ _ _ _ _ _ _ _ _ _ _ _ _ _ _ _ _ _ _ _ _ _ _ _ _ _ _ _ _ _ _ _ _ _ _ _ _ _ _ _ _ _ (hidden ?kk15) (hidden ?qp15)
          case qp15 => exact fun _ a a' _ h e => by cases a; cases a'; cases e; exact h
          case kk15 =>
            intro v47 v48 v49 v50 v51 v52 v53 v54 v55 v56 v57 v58 w4 hS4
            replace hS4 := hidden hS4
            clear hS3 kC kN hcat2 hszt
            dsimp only
            go_wp2
            go_roundg (8 - (k + 1))
            case measure => rw [hgk2'.out]; omega
            case rel => exact ⟨k + 1, by omega, rfl, by go_num, hidden (hS4.out.up (by omega))⟩
        · have hkn' : k = n := by omega
          subst hkn'
          go_wp2
          go_roundg (6 - (i + 1))
          case measure => rw [hgk'.out]; omega
          case rel => exact ⟨i + 1, by omega, rfl, by rw [hPY.out], by go_num, hidden (show MvS fb hb xb k i k (6000 + 20000 * (i + 1)) w wr from hS3.out.up (by have := hlim.out; omega))⟩
    · have hiN' : i = d + 1 := by have := hNd.out; omega
      have hNi : N = i := by omega
      subst hNi
      have hS' := hidden (show MvH fb hb xb n (d + 1) (6000 + 20000 * N) w wo from by have := hS.out; rw [<- hiN']; exact this)
      obtain ⟨lim, hlim, hl2⟩ : ∃ lim, 6000 + 20000 * N = lim /\ lim <= 200000 := ⟨_, rfl, by omega⟩
      rw [hlim] at hS'
      replace hlim := hidden hlim
      replace hl2 := hidden hl2
      replace hiN' := hidden hiN'
      have c1 := hS'.out.x1
      have l1 := lt_of_cell (a := ⟨xb, 1, none⟩) c1
      have kT := hidden (mv_to hS'.out hn7 hd4 (by have := hl2.out; omega))
      clear hS
      generalize mkB (pathD N) = PX
      go_wp2_with fail
      refine (kT.out).mono ?_
      rintro ev w2 ⟨rfl, hW2⟩
      have c2 := hW2.x1
      have l2 := lt_of_cell (a := ⟨xb, 1, none⟩) c2
      have kL := hidden (mv_loop hW2)
      clear c1 l1 kT hS' hW2
      go_wp2_with fail
      refine (kL.out).mono ?_
      rintro ev w3 ⟨e3, rfl, he3, hW3⟩
      have kI := hidden (hW3.is he3 (by rfl))
      unfold sRename at kI
      clear c2 l2 kL he3 hW3
      go_wp2_with fail
      refine (kI.out).mono ?_
      rintro ev w4 ⟨rfl, hW4⟩
      have kR := hidden (mv_ren hW4 hn7 hd4 (by have := hl2.out; omega))
      have c4 := hW4.x1
      have l4 := lt_of_cell (a := ⟨xb, 1, none⟩) c4
      clear kI hW4
      obtain ⟨MS, hMS⟩ : ∃ MS : Nat, MS = N + 1 + (if n = 0 then 0 else 1) := ⟨_, rfl⟩
      obtain ⟨WT, hWT⟩ : ∃ WT : Int, wantN n d = WT := ⟨_, rfl⟩
      rw [hWT] at kR
      have hMS7 : MS <= 7 := by rw [hMS]; split <;> omega
      replace hMS := hidden hMS
      replace hWT := hidden hWT
      go_upto_if 78 with fail
      go_cut [10] (fun q wx => q = .int .i64 (MS : Int) /\ wx = w4)
      case first =>
        by_cases hn0 : n = 0
        · subst hn0
          have e := hidden (show (N : Int) + 1 = (MS : Int) from by have := hMS.out; simp at this; omega)
          go_wp2_with fail
          go_meet
          case rel => exact ⟨by rw [<- e.out], rfl⟩
        · have e1 : (0 : Int) < (n : Int) := by omega
          have e := hidden (show (N : Int) + 1 + 1 = (MS : Int) from by have := hMS.out; rw [if_neg hn0] at this; omega)
          go_wp2_with fail
          go_meet
          case rel => exact ⟨by rw [<- e.out], rfl⟩
      case rest =>
        obtain ⟨rfl, hwc⟩ := hcut
        replace hwc := hwc.symm
        subst hwc
        go_upto_if 82 with fail
        go_cut [9] (fun q wx => q = .int .i64 WT /\ wx = w4)
        case first =>
          by_cases hbig : 6 < MS
          · have e1 : (6 : Int) < (MS : Int) := by omega
            have e : WT = 10 := by rw [<- hWT.out]; unfold wantN; rw [if_pos (by have h1 := hMS.out; have h2 := hiN'.out; omega)]
            go_wp2_with fail
            go_meet
            case rel => exact ⟨by rw [e], rfl⟩
          · have e1 : ¬ (6 : Int) < (MS : Int) := by omega
            have e : WT = 0 := by rw [<- hWT.out]; unfold wantN; rw [if_neg (by have h1 := hMS.out; have h2 := hiN'.out; omega)]
            go_wp2_with fail
            go_meet
            case rel => exact ⟨by rw [e], rfl⟩
        case rest =>
          obtain ⟨rfl, hwc⟩ := hcut
          replace hwc := hwc.symm
          subst hwc
          go_wp2_with fail
          refine (kR.out).mono ?_
          rintro ev w5 ⟨e5, rfl, k5⟩
          replace k5 := hidden k5
          clear kR c4 l4
          go_wp2_with fail
          refine (k5.out).mono ?_
          rintro ev w6 ⟨rfl, hW6⟩
          obtain ⟨sh, hsh⟩ : ∃ sh, shN n d = sh := ⟨_, rfl⟩
          rw [hsh] at hW6
          replace hsh := hidden hsh
          replace hW6 := hidden hW6
          clear k5
          go_upto_if 92 with fail
          go_cut [11] (fun q wx => q = .string (mkB (pathS sh 0)) /\ wx = w6)
          case first =>
            by_cases hbig : 6 < d + 2 + (if n = 0 then 0 else 1)
            · have e : WT = 10 := by rw [<- hWT.out]; unfold wantN; rw [if_pos hbig]
              have e2 : sh = 0 := by rw [<- hsh.out]; unfold shN; rw [if_pos hbig]
              subst e
              subst e2
              go_wp2_with fail
              go_meet
              case rel => exact ⟨rfl, rfl⟩
            · have e : WT = 0 := by rw [<- hWT.out]; unfold wantN; rw [if_neg hbig]
              have e2 : sh = 1 := by rw [<- hsh.out]; unfold shN; rw [if_neg hbig]
              subst e
              subst e2
              go_wp2_with fail
              go_meet
              case rel => exact ⟨rfl, rfl⟩
          case rest =>
            obtain ⟨rfl, hwc⟩ := hcut
            replace hwc := hwc.symm
            subst hwc
            have hs01 := hidden (show (sh = 0 \/ sh = 1) /\ (sh = 1 -> d + 2 + (if n = 0 then 0 else 1) <= 6) from by
              have := hsh.out
              unfold shN at this
              by_cases hb6 : 6 < d + 2 + (if n = 0 then 0 else 1)
              · rw [if_pos hb6] at this
                exact ⟨Or.inl this.symm, fun e => by omega⟩
              · rw [if_neg hb6] at this
                exact ⟨Or.inr this.symm, fun e => by omega⟩)
            clear hgk' hlt
            go_wp2_with fail
            obtain ⟨L0, hL0, hL2⟩ : ∃ L0, lim + 1000 + 1000 = L0 /\ L0 <= 300000 := ⟨_, rfl, by have := hl2.out; omega⟩
            rw [hL0] at hW6
            replace hL2 := hidden hL2
            go_loopg [11, 12] 6 (fun gk p q wr => ∃ i : Nat, i <= N /\ gk = 6 - i /\ p = .string (mkB (pathS sh i)) /\ q = .int .i64 (i : Nat) /\ Hid (MvW fb hb xb n d sh (L0 + 20000 * i) (fun D _ => mvB n d D) w wr))
            case atStart => exact ⟨0, by omega, rfl, rfl, rfl, hW6⟩
            case round =>
              obtain ⟨i, hiN2, hgk, rfl, rfl, hS⟩ := hrel
              rename World => wp
              have hgk' := hidden hgk
              clear hW6 hgk
              by_cases hlt : i < N
              · have hlt' : (i : Int) < (N : Int) := by omega
                have hid := hidden (show i <= d by have := hiN'.out; omega)
                have kK := hidden (mv_list hS.out hn7 hd4 hid.out (by have := hL2.out; omega))
                have hlen := pathS_len sh i
                have hsz : (mkB (pathS sh i)).size <= 100 := by rw [mk_size]; omega
                clear hlen
                have hcat : mkB (pathS sh i) ++ ⟨#[47, 100]⟩ = mkB (pathS sh (i + 1)) := d_join _
                have c1 := hS.out.x1
                have l1 := lt_of_cell (a := ⟨xb, 1, none⟩) c1
                obtain ⟨PX, hPX⟩ : ∃ PX, mkB (pathS sh i) = PX := ⟨_, rfl⟩
                rw [hPX] at kK hsz hcat
                obtain ⟨PY, hPY⟩ : ∃ PY, mkB (pathS sh (i + 1)) = PY := ⟨_, rfl⟩
                rw [hPY] at hcat
                replace hPY := hidden hPY
                rw [hPX]
                replace hPX := hidden hPX
                obtain ⟨CN, hCN⟩ : ∃ CN, n + (if i < d then 1 else 0) = CN := ⟨_, rfl⟩
                rw [hCN] at kK
                have hCN9 : CN <= 8 := by rw [<- hCN]; split <;> omega
                replace hCN := hidden hCN
                go_wp2_with fail
                refine (kK.out).mono ?_
                rintro ev w7 ⟨⟨la, lc, rfl⟩, hW7⟩
                replace hW7 := hidden hW7
                clear kK c1 l1 hS
                go_upto_if 111 with fail
                go_cut [15] (fun q wx => q = .int .i64 (CN : Int) /\ wx = w7)
                case first =>
                  by_cases hid2 : i < d
                  · have e1 : (i : Int) + 1 < (N : Int) := by have := hiN'.out; omega
                    have e := hidden (show (n : Int) + 1 = (CN : Int) from by have := hCN.out; rw [if_pos hid2] at this; omega)
                    go_wp2_with fail
                    go_meet
                    case rel => exact ⟨by rw [<- e.out], rfl⟩
                  · have e1 : ¬ (i : Int) + 1 < (N : Int) := by have := hiN'.out; omega
                    have e := hidden (show (n : Int) = (CN : Int) from by have := hCN.out; rw [if_neg hid2] at this; omega)
                    go_wp2_with fail
                    go_meet
                    case rel => exact ⟨by rw [<- e.out], rfl⟩
                case rest =>
                  obtain ⟨rfl, hwc⟩ := hcut
                  replace hwc := hwc.symm
                  subst hwc
                  obtain ⟨L1, hL1, hL12⟩ : ∃ L1, L0 + 20000 * i + 1000 = L1 /\ L1 <= 500000 := ⟨_, rfl, by have := hL2.out; omega⟩
                  rw [hL1] at hW7
                  replace hL1 := hidden hL1
                  replace hL12 := hidden hL12
                  go_wp2_with fail
                  go_loopg [16] 8 (fun gk q wr => ∃ k : Nat, k <= n /\ gk = 8 - k /\ q = .int .i64 (k : Nat) /\ Hid (MvW fb hb xb n d sh (L1 + 1000 * k) (fun D _ => mvB n d D) w wr))
                  case atStart => exact ⟨0, by omega, rfl, rfl, hW7⟩
                  case round =>
                    obtain ⟨k, hkn, hgk2, rfl, hS3⟩ := hrel
                    have hgk2' := hidden hgk2
                    clear hW7 hgk2
                    by_cases hlk : k < n
                    · have hlk' : (k : Int) < (n : Int) := by omega
                      have kN := hidden (fun (wx : World) => num_calls (k : Int) ⟨by omega, by omega⟩ wx)
                      have hcat2 := f_join (pathS sh i) k
                      have hszt := nm_size (i := k) (by omega)
                      have kG := hidden (fun (wx : World) (hx : MvW fb hb xb n d sh (L1 + 1000 * k) (fun D _ => mvB n d D) w wx) => mv_get hx hn7 hd4 hid.out (fun e => by have h1 := hs01.out.2 e; rw [if_neg (by omega)] at h1; have h2 := hid.out; omega) hlk (by have := hL12.out; omega))
                      rw [hPX.out] at hcat2
                      generalize mkB (pathS sh i ++ 47 :: nmP 102 k) = QX at kG hcat2
                      generalize itoaB (k : Int) = TX at kN hcat2 hszt
                      obtain ⟨LG, hLG⟩ : ∃ LG : Nat, 2 * (i + 1) = LG := ⟨_, rfl⟩
                      rw [hLG] at kG
                      have hLG2 : 2 * ((i : Int) + 1) = (LG : Int) := by omega
                      replace hLG := hidden hLG
                      replace hcat := hidden hcat
                      go_upto_region 42 with fail
                      refine mv42 wr fb xb PX TX QX k (fun wx => MvW fb hb xb n d sh (L1 + 1000 * k) (fun D _ => mvB n d D) w wx) (fun wx => MvW fb hb xb n d sh (L1 + 1000 * k + 1000) (fun D _ => mvB n d D) w wx) hcat2 hsz hszt (hidden fun wx hx => hx.x1) (hidden fun wx hx => hx.x1) (hidden fun wx wy hx hy => hx.below hy) kN LG kG hS3 _ _ _ _ _ _ _ _ _ _ _ _ _ _ _ _ _ _ _ _ _ _ _ _ _ _ _ _ _ _ _ _ _ _ _ _ _ _ _ _ _ _ _ _ _ _ _ _ _ _ _ _ _ _ _ _ _ _ _ _ _ _ _ _ _ _ _ _ _ _ _ _ _ _ _ _ _ _ _ _ _ _ _ _ _ _ _ _ _ _ _ _ _ _ _ _ _ _ _ _ _ _ _ _ _ _ _ _ _ _ _ _ _ _ _ _ _ _ _ _ _ _ _ _ _ _ _ _ _ _ _ _ _ _ _ _ _ _ _ _ _ _ _ _ _ _ _ _ _ _ _ _ _ _ _ _ _ _ _ _ (hidden ?kk42) (hidden ?qp42)
                      case qp42 => exact fun _ a a' _ h e => by cases a; cases a'; cases e; exact h
                      case kk42 =>
                        intro v127 v128 v129 v130 v131 v132 v133 v134 v135 v136 v137 v138 v139 ga gc w8 hS8
                        replace hS8 := hidden hS8
                        clear hS3 kG kN hcat2 hszt
                        dsimp only
                        go_wp2
                        go_roundg (8 - (k + 1))
                        case measure => rw [hgk2'.out]; omega
                        case rel => exact ⟨k + 1, by omega, rfl, by go_num, hidden (hS8.out.up (by omega))⟩
                    · have hkn' : k = n := by omega
                      have hS3' := hidden (hS3.out.up (lim' := L0 + 20000 * (i + 1)) (by have := hL1.out; omega))
                      clear hS3
                      go_wp2
                      go_roundg (6 - (i + 1))
                      case measure => rw [hgk'.out]; omega
                      case rel => exact ⟨i + 1, by omega, rfl, by rw [hPY.out], by go_num, hS3'⟩
              · have hNi : N = i := by omega
                have kC := hidden (mv_check hS.out hn7 hd4 (by
                  have h1 := hs01.out
                  rcases h1.1 with e | e
                  · rw [e]; split <;> omega
                  · have h2 := h1.2 e; rw [e]; omega) (by have := hL2.out; omega))
                have c1 := hS.out.x1
                have l1 := lt_of_cell (a := ⟨xb, 1, none⟩) c1
                generalize mkB (pathS sh i) = PX
                replace hNi := hidden hNi
                clear hS
                have hge : ¬ (i : Int) < (N : Int) := by omega
                go_wp2_with fail
                refine (kC.out).mono ?_
                rintro ev w9 ⟨rfl, hbA, hgA, htA⟩
                have kW := hidden (awake11_calls w9 hgA htA)
                replace hbA := hidden hbA
                clear kC c1 l1 hgA htA
                go_wp2_with fail
                refine (kW.out).mono ?_
                rintro ev wB ⟨rfl, hBB⟩
                have hE := hidden (hbA.out.trans (hBB.mono hbA.out.size))
                clear kW hBB hbA
                go_wp2
                go_ret
                exact ⟨rfl, hE.out⟩
end Go.Proofs.YtleafmdjhmnjmaaGreatDoor
