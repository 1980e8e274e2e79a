/- FsFills: a file put. -/
import Derived.Test.YtleafmdjhmnjmaaGreatDoorGFcp
import Derived.Deep.RegionHeld
import Derived.Lib.SlBytesConst
import Derived.Test.YtleafmdjhmnjmaaGreatDoorGWp
namespace Go.Proofs.YtleafmdjhmnjmaaGreatDoor
open Go.RowKit Go.Extern.Stop Go.Stop Go.Extern Go.Maps Go.Sort Go.Shelf
set_option maxRecDepth 1000000
set_option maxHeartbeats 16000000
def regionAt (n : Nat) : Code -> Option Code
  | .region m o d => if m = n then some (.region m o d) else none
  | .block _ c => regionAt n c
  | .loop c => regionAt n c
  | .seq a b => match regionAt n a with
    | some c => some c
    | none => regionAt n b
  | .scope c => regionAt n c
  | .cond _ a b => match regionAt n a with
    | some c => some c
    | none => regionAt n b
  | _ => none
def XAt (xb fb : Nat) (w : World) : Prop := w.cell? ⟨xb, 1, none⟩ = some (ptr fb)
theorem wpAnyH_actM {P : Program} {md : Region.Mode} {ops : Array Oper} {Q : Exit -> Act -> World -> Prop} {S : World -> Prop} {fuel : Nat} {listed : Array Bool} {a a' : Act} {w : World} (e : a = a') (h : wpAnyH P md ops Q S fuel listed a' w) : wpAnyH P md ops Q S fuel listed a w := e ▸ h
theorem XAt.out {xb fb : Nat} {w : World} (h : XAt xb fb w) : w.cell? ⟨xb, 1, none⟩ = some (ptr fb) := h
theorem XAt.alloc {xb fb : Nat} {w : World} {o : Obj} (h : XAt xb fb w) : XAt xb fb (w.alloc o) := ((Below.refl w.heap.size w).alloc (Nat.le_refl _) o).cell (p := ⟨xb, 1, none⟩) (lt_of_cell (a := ⟨xb, 1, none⟩) h) |>.trans h
theorem fl9 (w : World) (fb xb sz : Nat) (QX : ByteArray) (S : World -> Prop) (hx : Hid (∀ wx, S wx -> XAt xb fb wx)) (hB : Hid (∀ wx wy, S wx -> Below wx.heap.size wx wy -> S wy)) (R : Value -> World -> Prop) (hx' : Hid (∀ v wx, R v wx -> XAt xb fb wx)) (kC : Hid (∀ wx, S wx -> ∃ bv w', (Instr.makeSlice 34 (.int .i64 (sz : Int)) (.int .i64 (sz : Int))).run Tryz.prog wx = .ok bv w' /\ XAt xb fb w' /\ Hid (Calls Tryz.prog 8 #[ptr fb, .string QX, bv] w' fun e w'' => ∃ ev, e = .returned ev /\ R ev w''))) (hS : Hid (S w))
    (A1 A2 A3 A4 A6 A8 A9 B0 B1 B2 B3 B4 B5 B6 B7 B8 B9 C0 C1 C2 C3 C4 C5 C6 C7 C8 C9 D0 D1 D2 D3 D4 D5 D6 D7 D8 D9 E0 E1 E2 E3 E4 E5 E6 E7 E8 E9 F0 F1 F2 F3 F4 F5 F6 F7 F8 F9 G0 G1 G2 G3 G4 G5 G6 G7 G8 G9 H0 H1 H2 H3 H4 H5 H6 H7 H8 H9 I0 I1 I2 I3 I4 I5 I6 I7 I8 I9 J0 J1 J2 J3 J4 J5 J6 J7 J8 J9 K0 K1 K2 K3 K4 K5 K6 K7 K8 K9 L0 L1 L2 L3 L4 L5 L6 L7 L8 L9 M0 M1 M2 M3 M4 M5 M6 M7 M8 M9 N0 N1 N2 N3 N4 N5 N6 N7 N8 N9 O0 O1 O2 O3 O4 O5 O6 O7 O8 O9 P0 P1 P2 P3 P4 P5 P6 P7 P8 P9 Q0 Q1 Q2 Q3 Q4 Q5 Q6 Q7 Q8 Q9 R0 R1 R2 R3 R4 R5 R6 R7 R8 R9 S0 S1 S2 S3 S4 S5 S6 S7 S8 S9 T0 T1 T2 T3 T4 T5 T6 T7 T8 T9 U0 U1 U2 U3 U4 U5 U6 U7 U8 : Value) (KK : Act -> World -> Prop) (Q : Exit -> Act -> World -> Prop)
    (hKK : Hid (∀ (v43 v44 v45 v46 v47 v48 v49 v50 : Value) (er : Value) (w' : World), R er w' -> KK ⟨#[.int .i64 (sz : Int), A1, A2, A3, A4, ptr xb, A6, .string QX, er, A9, B0, B1, B2, B3, B4, B5, B6, B7, B8, B9, C0, C1, C2, C3, C4, C5, C6, C7, C8, C9, D0, D1, D2, D3, D4, D5, D6, D7, D8, D9, E0, E1, E2, v43, v44, v45, v46, v47, v48, v49, v50, F1, F2, F3, F4, F5, F6, F7, F8, F9, G0, G1, G2, G3, G4, G5, G6, G7, G8, G9, H0, H1, H2, H3, H4, H5, H6, H7, H8, H9, I0, I1, I2, I3, I4, I5, I6, I7, I8, I9, J0, J1, J2, J3, J4, J5, J6, J7, J8, J9, K0, K1, K2, K3, K4, K5, K6, K7, K8, K9, L0, L1, L2, L3, L4, L5, L6, L7, L8, L9, M0, M1, M2, M3, M4, M5, M6, M7, M8, M9, N0, N1, N2, N3, N4, N5, N6, N7, N8, N9, O0, O1, O2, O3, O4, O5, O6, O7, O8, O9, P0, P1, P2, P3, P4, P5, P6, P7, P8, P9, Q0, Q1, Q2, Q3, Q4, Q5, Q6, Q7, Q8, Q9, R0, R1, R2, R3, R4, R5, R6, R7, R8, R9, S0, S1, S2, S3, S4, S5, S6, S7, S8, S9, T0, T1, T2, T3, T4, T5, T6, T7, T8, T9, U0, U1, U2, U3, U4, U5, U6, U7, U8], []⟩ w'))
    (hQp : Hid (∀ x a a' w, Q (.panic x) a w -> a.defers = a'.defers -> Q (.panic x) a' w)) :
    Code.wp Tryz.prog (((Tryz.f3.body.bind (regionAt 9)).getD .skip)) (Exit.then KK Q) ⟨#[.int .i64 (sz : Int), A1, A2, A3, A4, ptr xb, A6, .string QX, A8, A9, B0, B1, B2, B3, B4, B5, B6, B7, B8, B9, C0, C1, C2, C3, C4, C5, C6, C7, C8, C9, D0, D1, D2, D3, D4, D5, D6, D7, D8, D9, E0, E1, E2, E3, E4, E5, E6, E7, E8, E9, F0, F1, F2, F3, F4, F5, F6, F7, F8, F9, G0, G1, G2, G3, G4, G5, G6, G7, G8, G9, H0, H1, H2, H3, H4, H5, H6, H7, H8, H9, I0, I1, I2, I3, I4, I5, I6, I7, I8, I9, J0, J1, J2, J3, J4, J5, J6, J7, J8, J9, K0, K1, K2, K3, K4, K5, K6, K7, K8, K9, L0, L1, L2, L3, L4, L5, L6, L7, L8, L9, M0, M1, M2, M3, M4, M5, M6, M7, M8, M9, N0, N1, N2, N3, N4, N5, N6, N7, N8, N9, O0, O1, O2, O3, O4, O5, O6, O7, O8, O9, P0, P1, P2, P3, P4, P5, P6, P7, P8, P9, Q0, Q1, Q2, Q3, Q4, Q5, Q6, Q7, Q8, Q9, R0, R1, R2, R3, R4, R5, R6, R7, R8, R9, S0, S1, S2, S3, S4, S5, S6, S7, S8, S9, T0, T1, T2, T3, T4, T5, T6, T7, T8, T9, U0, U1, U2, U3, U4, U5, U6, U7, U8], []⟩ w := by
  have hu := hQp
  clear hu
  conv => arg 2; whnf
  try dsimp only
  have hSd := hidden (hB.out _ _ hS.out (below_drew1 w))
  have hS0 : Hid (XAt xb fb w.drew) := hidden (hx.out _ hSd.out)
  clear hS
  refine wp_region_held_drew (S := XAt xb fb) (by kernel_rfl) hS0.out ?_
  intro _
  generalize w.drew = wd at *
  refine wpAnyH_take (i := 0) (v := ?_) rfl (by kernel_rfl) (by kernel_rfl) (by kernel_rfl) (fun _ _ _ h => hQp.out _ _ _ _ h rfl) (Or.inl ⟨by rfl, ?_⟩) hS0.out ?_
  rotate_left
  · intro w hw; clear hw; go_simp; try (with_reducible rfl)
  refine wpAnyH_take (i := 1) (v := ?_) rfl (by kernel_rfl) (by kernel_rfl) (by kernel_rfl) (fun _ _ _ h => hQp.out _ _ _ _ h rfl) (Or.inl ⟨by rfl, ?_⟩) hS0.out ?_
  rotate_left
  · intro w hw; clear hw; go_simp; try (with_reducible rfl)
  refine wpAnyH_take (i := 2) (v := ?_) rfl (by kernel_rfl) (by kernel_rfl) (by kernel_rfl) (fun _ _ _ h => hQp.out _ _ _ _ h rfl) (Or.inl ⟨by rfl, ?_⟩) hS0.out ?_
  rotate_left
  · intro w hw; clear hw; go_simp; try (with_reducible rfl)
  refine wpAnyH_take (i := 3) (v := ?_) rfl (by kernel_rfl) (by kernel_rfl) (by kernel_rfl) (fun _ _ _ h => hQp.out _ _ _ _ h rfl) (Or.inl ⟨by rfl, ?_⟩) hS0.out ?_
  rotate_left
  · intro w hw; have c := (hw).out; have lc := lt_of_cell (a := ⟨xb, 1, none⟩) c; clear hw; go_simp; try (with_reducible rfl)
  refine wpAnyH_take (i := 4) (v := ?_) rfl (by kernel_rfl) (by kernel_rfl) (by kernel_rfl) (fun _ _ _ h => hQp.out _ _ _ _ h rfl) (Or.inl ⟨by rfl, ?_⟩) hS0.out ?_
  rotate_left
  · intro w hw; clear hw; go_simp; try (with_reducible rfl)
  refine wpAnyH_ready (rs := [5]) (by kernel_rfl) (by simp) ?_
  refine AllReadyH.cons rfl (fun K hK => ?_) AllReadyH.nil
  go_simp
  refine hK.out _ _ hS0.out (fun _ => ?_)
  clear hK K
  refine wpAnyH_ready (rs := [6]) (by kernel_rfl) (by simp) ?_
  refine AllReadyH.cons rfl (fun K hK => ?_) AllReadyH.nil
  obtain ⟨bv, w5, hcv, hx5, kP⟩ := kC.out _ hSd.out
  go_simp
  refine hK.out _ _ (hx5) (fun hSn1 => ?_)
  clear hcv
  clear hK K
  refine wpAnyH_ready (rs := [7]) (by kernel_rfl) (by simp) ?_
  refine AllReadyH.cons rfl (fun K hK => ?_) AllReadyH.nil
  go_simp
  go_wp2_with (go_at_call 8; refine (kP.out).mono ?_; rintro ev w6 ⟨er, rfl, hS6⟩)
  refine hK.out _ _ (hx'.out _ _ hS6) (fun hSn2 => ?_)
  replace hS6 := hidden hS6
  clear kP
  clear hK K
  refine wpAnyH_ready (rs := [8]) (by kernel_rfl) (by simp) ?_
  refine AllReadyH.cons rfl (fun K hK => ?_) AllReadyH.nil
  go_simp
  refine hK.out _ _ hSn2 (fun _ => ?_)
  clear hK K
  refine wpAnyH_done (by kernel_rfl) ?_ _
  refine hKK.out _ _ _ _ _ _ _ _ er w6 hS6.out
theorem fl21 (w : World) (fb xb : Nat) (TX QX : ByteArray) (k : Nat) (hk : (k : Int) < 8) (hcat : ⟨#[47, 107]⟩ ++ TX = QX) (hs2 : TX.size <= 20) (kN : Hid (∀ wx : World, Calls Tryz.prog 7 #[.int .i64 (k : Int)] wx fun e w' => e = .returned (.string TX) /\ w' = wx)) (S : World -> Prop) (hx : Hid (∀ wx, S wx -> XAt xb fb wx)) (hB : Hid (∀ wx wy, S wx -> Below wx.heap.size wx wy -> S wy)) (R : Value -> World -> Prop) (S' : World -> Prop) (b : Bool) (hR : Hid (∀ v wx, R v wx -> ((v = .nilIface /\ b = true) \/ ((∃ x, v = flt x) /\ b = false)) /\ S' wx)) (hx' : Hid (∀ v wx, R v wx -> XAt xb fb wx)) (kK : Hid (∀ wx, S wx -> Calls Tryz.prog 13 #[ptr fb, .string QX, (.slice (some ⟨wx.heap.size, 0, none⟩) 1 1)] (wx.alloc (.cells #[.int .u8 120] 5 (1, 2))) fun e w'' => ∃ ev, e = .returned ev /\ R ev w'')) (hS : Hid (S w))
    (A0 A1 A2 A3 A4 A6 A7 A8 A9 B0 B1 B3 B4 B5 B6 B7 B8 B9 C0 C1 C2 C3 C4 C5 C6 C7 C8 C9 D0 D1 D2 D3 D4 D5 D6 D7 D8 D9 E0 E1 E2 E3 E4 E5 E6 E7 E8 E9 F0 F1 F2 F3 F4 F5 F6 F7 F8 F9 G0 G1 G2 G3 G4 G5 G6 G7 G8 G9 H0 H1 H2 H3 H4 H5 H6 H7 H8 H9 I0 I1 I2 I3 I4 I5 I6 I7 I8 I9 J0 J1 J2 J3 J4 J5 J6 J7 J8 J9 K0 K1 K2 K3 K4 K5 K6 K7 K8 K9 L0 L1 L2 L3 L4 L5 L6 L7 L8 L9 M0 M1 M2 M3 M4 M5 M6 M7 M8 M9 N0 N1 N2 N3 N4 N5 N6 N7 N8 N9 O0 O1 O2 O3 O4 O5 O6 O7 O8 O9 P0 P1 P2 P3 P4 P5 P6 P7 P8 P9 Q0 Q1 Q2 Q3 Q4 Q5 Q6 Q7 Q8 Q9 R0 R1 R2 R3 R4 R5 R6 R7 R8 R9 S0 S1 S2 S3 S4 S5 S6 S7 S8 S9 T0 T1 T2 T3 T4 T5 T6 T7 T8 T9 U0 U1 U2 U3 U4 U5 U6 U7 U8 : Value) (KK : Act -> World -> Prop) (Q : Exit -> Act -> World -> Prop)
    (hKK : Hid (∀ (v102 v103 v104 v105 v106 v107 v108 v109 v110 v111 v112 v113 v114 v115 : Value)  (w' : World), S' w' -> KK ⟨#[A0, A1, A2, A3, A4, ptr xb, A6, A7, A8, A9, B0, B1, .int .i64 (k : Int), B3, B4, B5, B6, B7, B8, B9, C0, C1, C2, C3, C4, C5, C6, C7, C8, C9, D0, D1, D2, D3, D4, D5, D6, D7, D8, D9, E0, E1, E2, E3, E4, E5, E6, E7, E8, E9, F0, F1, F2, F3, F4, F5, F6, F7, F8, F9, G0, G1, G2, G3, G4, G5, G6, G7, G8, G9, H0, H1, H2, H3, H4, H5, H6, H7, H8, H9, I0, I1, I2, I3, I4, I5, I6, I7, I8, I9, J0, J1, J2, J3, J4, J5, J6, J7, J8, J9, K0, K1, v102, v103, v104, v105, v106, v107, v108, v109, v110, v111, v112, v113, v114, v115, .bool b, L7, L8, L9, M0, M1, M2, M3, M4, M5, M6, M7, M8, M9, N0, N1, N2, N3, N4, N5, N6, N7, N8, N9, O0, O1, O2, O3, O4, O5, O6, O7, O8, O9, P0, P1, P2, P3, P4, P5, P6, P7, P8, P9, Q0, Q1, Q2, Q3, Q4, Q5, Q6, Q7, Q8, Q9, R0, R1, R2, R3, R4, R5, R6, R7, R8, R9, S0, S1, S2, S3, S4, S5, S6, S7, S8, S9, T0, T1, T2, T3, T4, T5, T6, T7, T8, T9, U0, U1, U2, U3, U4, U5, U6, U7, U8], []⟩ w'))
    (hQp : Hid (∀ x a a' w, Q (.panic x) a w -> a.defers = a'.defers -> Q (.panic x) a' w)) :
    Code.wp Tryz.prog (((Tryz.f3.body.bind (regionAt 21)).getD .skip)) (Exit.then KK Q) ⟨#[A0, A1, A2, A3, A4, ptr xb, A6, A7, A8, A9, B0, B1, .int .i64 (k : Int), B3, B4, B5, B6, B7, B8, B9, C0, C1, C2, C3, C4, C5, C6, C7, C8, C9, D0, D1, D2, D3, D4, D5, D6, D7, D8, D9, E0, E1, E2, E3, E4, E5, E6, E7, E8, E9, F0, F1, F2, F3, F4, F5, F6, F7, F8, F9, G0, G1, G2, G3, G4, G5, G6, G7, G8, G9, H0, H1, H2, H3, H4, H5, H6, H7, H8, H9, I0, I1, I2, I3, I4, I5, I6, I7, I8, I9, J0, J1, J2, J3, J4, J5, J6, J7, J8, J9, K0, K1, K2, K3, K4, K5, K6, K7, K8, K9, L0, L1, L2, L3, L4, L5, L6, L7, L8, L9, M0, M1, M2, M3, M4, M5, M6, M7, M8, M9, N0, N1, N2, N3, N4, N5, N6, N7, N8, N9, O0, O1, O2, O3, O4, O5, O6, O7, O8, O9, P0, P1, P2, P3, P4, P5, P6, P7, P8, P9, Q0, Q1, Q2, Q3, Q4, Q5, Q6, Q7, Q8, Q9, R0, R1, R2, R3, R4, R5, R6, R7, R8, R9, S0, S1, S2, S3, S4, S5, S6, S7, S8, S9, T0, T1, T2, T3, T4, T5, T6, T7, T8, T9, U0, U1, U2, U3, U4, U5, U6, U7, U8], []⟩ w := by
  have hu := hQp
  clear hu
  conv => arg 2; whnf
  try dsimp only
  have hq1 : ¬ 9223372036854775807 < 2 + TX.size := by omega
  have kv := fun (wx : World) => Lib.run_convert_bytes_const (P := Tryz.prog) wx 34 5 #[.int .u8 120] 1 1 Tryz.underlying34 Tryz.underlying5
  simp only [List.size_toArray, List.length_cons, List.length_nil] at kv
  have hSd := hidden (hB.out _ _ hS.out (below_drew1 w))
  have hS0 : Hid (XAt xb fb w.drew) := hidden (hx.out _ hSd.out)
  clear hS
  refine wp_region_held_drew (S := XAt xb fb) (by kernel_rfl) hS0.out ?_
  intro _
  generalize w.drew = wd at *
  refine wpAnyH_actM (a' := ?_) ?_ ?_
  rotate_left
  · go_simp; try (with_reducible rfl)
  refine wpAnyH_ready (rs := [0]) (by kernel_rfl) (by simp) ?_
  refine AllReadyH.cons rfl (fun K hK => ?_) AllReadyH.nil
  go_simp
  refine hK.out _ _ hS0.out (fun _ => ?_)
  clear hK K
  refine wpAnyH_actM (a' := ?_) ?_ ?_
  rotate_left
  · go_simp; try (with_reducible rfl)
  refine wpAnyH_ready (rs := [1]) (by kernel_rfl) (by simp) ?_
  refine AllReadyH.cons rfl (fun K hK => ?_) AllReadyH.nil
  go_simp
  refine hK.out _ _ hS0.out (fun _ => ?_)
  clear hK K
  refine wpAnyH_actM (a' := ?_) ?_ ?_
  rotate_left
  · go_simp; try (with_reducible rfl)
  refine wpAnyH_ready (rs := [2]) (by kernel_rfl) (by simp) ?_
  refine AllReadyH.cons rfl (fun K hK => ?_) AllReadyH.nil
  go_simp
  refine hK.out _ _ hS0.out (fun _ => ?_)
  clear hK K
  refine wpAnyH_take (i := 3) (v := ?_) rfl (by kernel_rfl) (by kernel_rfl) (by kernel_rfl) (fun _ _ _ h => hQp.out _ _ _ _ h rfl) (Or.inl ⟨by rfl, ?_⟩) hS0.out ?_
  rotate_left
  · intro w hw; clear hw; go_simp; try (with_reducible rfl)
  refine wpAnyH_take (i := 4) (v := ?_) rfl (by kernel_rfl) (by kernel_rfl) (by kernel_rfl) (fun _ _ _ h => hQp.out _ _ _ _ h rfl) (Or.inl ⟨by rfl, ?_⟩) hS0.out ?_
  rotate_left
  · intro w hw; clear hw; go_simp; try (with_reducible rfl)
  refine wpAnyH_take (i := 5) (v := ?_) rfl (by kernel_rfl) (by kernel_rfl) (by kernel_rfl) (fun _ _ _ h => hQp.out _ _ _ _ h rfl) (Or.inl ⟨by rfl, ?_⟩) hS0.out ?_
  rotate_left
  · intro w hw; clear hw; go_simp; try (with_reducible rfl)
  refine wpAnyH_take (i := 6) (v := ?_) rfl (by kernel_rfl) (by kernel_rfl) (by kernel_rfl) (fun _ _ _ h => hQp.out _ _ _ _ h rfl) (Or.inl ⟨by rfl, ?_⟩) hS0.out ?_
  rotate_left
  · intro w hw; have c := (hw).out; have lc := lt_of_cell (a := ⟨xb, 1, none⟩) c; clear hw; go_simp; try (with_reducible rfl)
  refine wpAnyH_take (i := 7) (v := ?_) rfl (by kernel_rfl) (by kernel_rfl) (by kernel_rfl) (fun _ _ _ h => hQp.out _ _ _ _ h rfl) (Or.inl ⟨by rfl, ?_⟩) hS0.out ?_
  rotate_left
  · intro w hw; clear hw; go_simp; try (with_reducible rfl)
  refine wpAnyH_actM (a' := ?_) ?_ ?_
  rotate_left
  · go_simp; try (with_reducible rfl)
  refine wpAnyH_ready (rs := [8, 10]) (by kernel_rfl) (by simp) ?_
  refine AllReadyH.cons rfl (fun K hK => ?_) ?_
  · go_simp
    go_wp2_with (go_at_call 7; refine (kN.out _).mono ?_; rintro ev wN ⟨rfl, hwN⟩; subst wN)
    refine hK.out _ _ (hS0.out) (fun hSn1 => ?_)
    clear hK K
    refine wpAnyH_take (i := 9) (v := ?_) rfl (by kernel_rfl) (by kernel_rfl) (by kernel_rfl) (fun _ _ _ h => hQp.out _ _ _ _ h rfl) (Or.inl ⟨by rfl, ?_⟩) hSn1 ?_
    rotate_left
    · intro w hw; clear hw; go_simp; try (with_reducible rfl)
    refine wpAnyH_actM (a' := ?_) ?_ ?_
    rotate_left
    · go_simp; try (with_reducible rfl)
    refine wpAnyH_ready (rs := [10]) (by kernel_rfl) (by simp) ?_
    refine AllReadyH.cons rfl (fun K hK => ?_) AllReadyH.nil
    go_simp
    refine hK.out _ _ (XAt.alloc hSn1) (fun hSn2 => ?_)
    clear hK K
    refine wpAnyH_actM (a' := ?_) ?_ ?_
    rotate_left
    · go_simp; try (with_reducible rfl)
    refine wpAnyH_ready (rs := [11]) (by kernel_rfl) (by simp) ?_
    refine AllReadyH.cons rfl (fun K hK => ?_) AllReadyH.nil
    go_simp
    refine hK.out _ _ (XAt.alloc hS0.out) (fun hSn3 => ?_)
    clear hK K
    refine wpAnyH_actM (a' := ?_) ?_ ?_
    rotate_left
    · go_simp; try (with_reducible rfl)
    refine wpAnyH_ready (rs := [12]) (by kernel_rfl) (by simp) ?_
    refine AllReadyH.cons rfl (fun K hK => ?_) AllReadyH.nil
    go_simp
    go_wp2_with (go_at_call 13; refine (kK.out _ hSd.out).mono ?_; rintro ev w6 ⟨er, rfl, hS6⟩)
    refine hK.out _ _ (hx'.out _ _ hS6) (fun hSn4 => ?_)
    rcases hR.out _ _ hS6 with ⟨⟨rfl, rfl⟩ | ⟨⟨bx, rfl⟩, rfl⟩, hS7⟩
    all_goals (
    replace hS7 := hidden hS7
    clear hS6 kK
    clear hK K
    refine wpAnyH_actM (a' := ?_) ?_ ?_
    rotate_left
    · go_simp; try (with_reducible rfl)
    refine wpAnyH_ready (rs := [13]) (by kernel_rfl) (by simp) ?_
    refine AllReadyH.cons rfl (fun K hK => ?_) AllReadyH.nil
    go_simp
    refine hK.out _ _ hSn4 (fun _ => ?_)
    clear hK K
    refine wpAnyH_actM (a' := ?_) ?_ ?_
    rotate_left
    · go_simp; try (with_reducible rfl)
    refine wpAnyH_ready (rs := [14]) (by kernel_rfl) (by simp) ?_
    refine AllReadyH.cons rfl (fun K hK => ?_) AllReadyH.nil
    go_simp
    refine hK.out _ _ hSn4 (fun _ => ?_)
    clear hK K
    refine wpAnyH_done (by kernel_rfl) ?_ _
    refine hKK.out _ _ _ _ _ _ _ _ _ _ _ _ _ _ w6 hS7.out)
  refine AllReadyH.cons rfl (fun K hK => ?_) ?_
  · go_simp
    refine hK.out _ _ (XAt.alloc hS0.out) (fun hSn5 => ?_)
    clear hK K
    refine wpAnyH_actM (a' := ?_) ?_ ?_
    rotate_left
    · go_simp; try (with_reducible rfl)
    refine wpAnyH_ready (rs := [8, 11]) (by kernel_rfl) (by simp) ?_
    refine AllReadyH.cons rfl (fun K hK => ?_) ?_
    · go_simp
      go_wp2_with (go_at_call 7; refine (kN.out _).mono ?_; rintro ev wN ⟨rfl, hwN⟩; subst wN)
      refine hK.out _ _ (hSn5) (fun hSn6 => ?_)
      clear hK K
      refine wpAnyH_take (i := 9) (v := ?_) rfl (by kernel_rfl) (by kernel_rfl) (by kernel_rfl) (fun _ _ _ h => hQp.out _ _ _ _ h rfl) (Or.inl ⟨by rfl, ?_⟩) hSn6 ?_
      rotate_left
      · intro w hw; clear hw; go_simp; try (with_reducible rfl)
      refine wpAnyH_actM (a' := ?_) ?_ ?_
      rotate_left
      · go_simp; try (with_reducible rfl)
      refine wpAnyH_ready (rs := [11]) (by kernel_rfl) (by simp) ?_
      refine AllReadyH.cons rfl (fun K hK => ?_) AllReadyH.nil
      go_simp
      refine hK.out _ _ (XAt.alloc hS0.out) (fun hSn7 => ?_)
      clear hK K
      refine wpAnyH_actM (a' := ?_) ?_ ?_
      rotate_left
      · go_simp; try (with_reducible rfl)
      refine wpAnyH_ready (rs := [12]) (by kernel_rfl) (by simp) ?_
      refine AllReadyH.cons rfl (fun K hK => ?_) AllReadyH.nil
      go_simp
      go_wp2_with (go_at_call 13; refine (kK.out _ hSd.out).mono ?_; rintro ev w6 ⟨er, rfl, hS6⟩)
      refine hK.out _ _ (hx'.out _ _ hS6) (fun hSn8 => ?_)
      rcases hR.out _ _ hS6 with ⟨⟨rfl, rfl⟩ | ⟨⟨bx, rfl⟩, rfl⟩, hS7⟩
      all_goals (
      replace hS7 := hidden hS7
      clear hS6 kK
      clear hK K
      refine wpAnyH_actM (a' := ?_) ?_ ?_
      rotate_left
      · go_simp; try (with_reducible rfl)
      refine wpAnyH_ready (rs := [13]) (by kernel_rfl) (by simp) ?_
      refine AllReadyH.cons rfl (fun K hK => ?_) AllReadyH.nil
      go_simp
      refine hK.out _ _ hSn8 (fun _ => ?_)
      clear hK K
      refine wpAnyH_actM (a' := ?_) ?_ ?_
      rotate_left
      · go_simp; try (with_reducible rfl)
      refine wpAnyH_ready (rs := [14]) (by kernel_rfl) (by simp) ?_
      refine AllReadyH.cons rfl (fun K hK => ?_) AllReadyH.nil
      go_simp
      refine hK.out _ _ hSn8 (fun _ => ?_)
      clear hK K
      refine wpAnyH_done (by kernel_rfl) ?_ _
      refine hKK.out _ _ _ _ _ _ _ _ _ _ _ _ _ _ w6 hS7.out)
    refine AllReadyH.cons rfl (fun K hK => ?_) ?_
    · go_simp
      refine hK.out _ _ (XAt.alloc hS0.out) (fun hSn9 => ?_)
      clear hK K
      refine wpAnyH_actM (a' := ?_) ?_ ?_
      rotate_left
      · go_simp; try (with_reducible rfl)
      refine wpAnyH_ready (rs := [8]) (by kernel_rfl) (by simp) ?_
      refine AllReadyH.cons rfl (fun K hK => ?_) AllReadyH.nil
      go_simp
      go_wp2_with (go_at_call 7; refine (kN.out _).mono ?_; rintro ev wN ⟨rfl, hwN⟩; subst wN)
      refine hK.out _ _ (hSn9) (fun hSn10 => ?_)
      clear hK K
      refine wpAnyH_actM (a' := ?_) ?_ ?_
      rotate_left
      · go_simp; try (with_reducible rfl)
      refine wpAnyH_ready (rs := [9]) (by kernel_rfl) (by simp) ?_
      refine AllReadyH.cons rfl (fun K hK => ?_) AllReadyH.nil
      go_simp
      refine hK.out _ _ hSn10 (fun _ => ?_)
      clear hK K
      refine wpAnyH_actM (a' := ?_) ?_ ?_
      rotate_left
      · go_simp; try (with_reducible rfl)
      refine wpAnyH_ready (rs := [12]) (by kernel_rfl) (by simp) ?_
      refine AllReadyH.cons rfl (fun K hK => ?_) AllReadyH.nil
      go_simp
      go_wp2_with (go_at_call 13; refine (kK.out _ hSd.out).mono ?_; rintro ev w6 ⟨er, rfl, hS6⟩)
      refine hK.out _ _ (hx'.out _ _ hS6) (fun hSn11 => ?_)
      rcases hR.out _ _ hS6 with ⟨⟨rfl, rfl⟩ | ⟨⟨bx, rfl⟩, rfl⟩, hS7⟩
      all_goals (
      replace hS7 := hidden hS7
      clear hS6 kK
      clear hK K
      refine wpAnyH_actM (a' := ?_) ?_ ?_
      rotate_left
      · go_simp; try (with_reducible rfl)
      refine wpAnyH_ready (rs := [13]) (by kernel_rfl) (by simp) ?_
      refine AllReadyH.cons rfl (fun K hK => ?_) AllReadyH.nil
      go_simp
      refine hK.out _ _ hSn11 (fun _ => ?_)
      clear hK K
      refine wpAnyH_actM (a' := ?_) ?_ ?_
      rotate_left
      · go_simp; try (with_reducible rfl)
      refine wpAnyH_ready (rs := [14]) (by kernel_rfl) (by simp) ?_
      refine AllReadyH.cons rfl (fun K hK => ?_) AllReadyH.nil
      go_simp
      refine hK.out _ _ hSn11 (fun _ => ?_)
      clear hK K
      refine wpAnyH_done (by kernel_rfl) ?_ _
      refine hKK.out _ _ _ _ _ _ _ _ _ _ _ _ _ _ w6 hS7.out)
    exact AllReadyH.nil
  exact AllReadyH.nil
end Go.Proofs.YtleafmdjhmnjmaaGreatDoor
namespace Go.Proofs.YtleafmdjhmnjmaaGreatDoor
open Go.RowKit Go.Extern.Stop Go.Stop Go.Extern
set_option maxRecDepth 100000
set_option maxHeartbeats 16000000
abbrev tenText : ByteArray := ⟨#[48, 49, 50, 51, 52, 53, 54, 55, 56, 57]⟩
theorem ten_extract : ∀ d : Nat, d < 10 -> (tenText.extract d (d + 1)).data = #[UInt8.ofNat (48 + d)] := by decide
theorem ten_cat (d : Nat) (hd : d < 10) (t : List UInt8) : tenText.extract d (d + 1) ++ (⟨t.toArray⟩ : ByteArray) = ⟨(UInt8.ofNat (48 + d) :: t).toArray⟩ := by
  apply ByteArray.ext
  rw [ByteArray.data_append, ten_extract d hd]
  simp
theorem ten_size (d : Nat) (hd : d < 10) : (tenText.extract d (d + 1)).size = 1 := by
  have := ten_extract d hd
  show (tenText.extract d (d + 1)).data.size = 1
  rw [this]
  rfl
theorem decDigits_step (u : Nat) (h : ¬ u < 10) : Lib.decDigits u = Lib.decDigits (u / 10) ++ [UInt8.ofNat (48 + u % 10)] := by rw [Lib.decDigits, dif_neg h]
theorem decDigits_len (u : Nat) (h : u < 18446744073709551616) : (Lib.decDigits u).length <= 20 := by
  have key : ∀ (k u : Nat), u < 10 ^ (k + 1) -> (Lib.decDigits u).length <= k + 1 := by
    intro k
    induction k with
    | zero => intro u hu; rw [Lib.decDigits_one (by omega)]; simp
    | succ k ih =>
      intro u hu
      by_cases h10 : u < 10
      · rw [Lib.decDigits_one h10]; simp
      · rw [decDigits_step u h10, List.length_append]
        have := ih (u / 10) (by rw [Nat.pow_succ] at hu; omega)
        simp
        omega
  exact key 19 u (by omega)
theorem digits_calls (u : Nat) (hu : u < 18446744073709551616) (w : World) :
    Calls Tryz.prog 27 #[.int .u64 u] w fun e w' => e = .returned (.string ⟨(Lib.decDigits u).toArray⟩) /\ w' = w := by
  have hlen := decDigits_len u hu
  go_enter Tryz.func27, Tryz.ntmps27
  go_wp2
  go_loopg [0, 3] u (fun gk x s wr => ∃ (y : Int) (t : List UInt8), x = .int .u64 y /\ s = .string ⟨t.toArray⟩ /\ 0 <= y /\ y < 18446744073709551616 /\ gk = y.toNat /\ Lib.decDigits u = Lib.decDigits y.toNat ++ t /\ wr = w)
  case atStart => exact ⟨u, [], rfl, rfl, by omega, by omega, by simp, by simp, rfl⟩
  case round =>
    obtain ⟨y, t, rfl, rfl, hy0, hy1, hgk, hd, rfl⟩ := hrel
    have htl : t.length <= 20 := by rw [hd, List.length_append] at hlen; omega
    have hts : (⟨t.toArray⟩ : ByteArray).size = t.length := by simp [ByteArray.size]
    replace hd := hidden hd
    replace hgk := hidden hgk
    clear hlen
    by_cases hlt : 9 < y
    · obtain ⟨D, hD, hD2⟩ : ∃ D : Nat, y.tmod 10 = (D : Int) /\ D = y.toNat % 10 := ⟨y.toNat % 10, by rw [Int.tmod_eq_emod_of_nonneg hy0]; omega, rfl⟩
      have hD10 : D < 10 := by omega
      have hDi : (D : Int) < 10 := by omega
      have hdiv : y.tdiv 10 = y / 10 := Int.tdiv_eq_ediv_of_nonneg hy0
      have hsz := ten_size D hD10
      have hct := hidden (ten_cat D hD10 t)
      replace hD2 := hidden hD2
      go_wp2
      go_roundg (y.toNat / 10)
      case measure => rw [hgk.out]; omega
      case rel =>
        refine ⟨y / 10, UInt8.ofNat (48 + D) :: t, rfl, ?_, by omega, by omega, by omega, ?_, rfl⟩
        · exact congrArg Value.string hct.out
        · rw [hd.out, decDigits_step y.toNat (by omega), <- hD2.out, show (y / 10).toNat = y.toNat / 10 by omega]
          simp
    · obtain ⟨Y, rfl⟩ := Int.eq_ofNat_of_zero_le hy0
      have hY : Y < 10 := by omega
      have hYi : (Y : Int) < 10 := by omega
      have hsz := ten_size Y hY
      have hct := hidden (ten_cat Y hY t)
      go_wp2
      go_ret
      refine ⟨?_, rfl⟩
      have h2 := hd.out
      rw [show ((Y : Nat) : Int).toNat = Y from rfl, Lib.decDigits_one hY] at h2
      rw [h2]
      exact congrArg (fun s => Ending.returned (.string s)) hct.out
theorem num_calls (i : Int) (hi : i64 i) (w : World) :
    Calls Tryz.prog 7 #[.int .i64 i] w fun e w' => e = .returned (.string (itoaB i)) /\ w' = w := by
  obtain ⟨hi0, hi1⟩ := hi
  by_cases hn : i < 0
  · have hlen := decDigits_len i.natAbs (by omega)
    have hdg := hidden (digits_calls i.natAbs (by omega) w)
    have hE : itoaB i = (⟨#[45]⟩ : ByteArray) ++ ⟨(Lib.decDigits i.natAbs).toArray⟩ := by
      apply ByteArray.ext
      show (Lib.itoa i).toArray = _
      unfold Lib.itoa
      rw [if_pos hn]
      simp
    have hsz : (⟨(Lib.decDigits i.natAbs).toArray⟩ : ByteArray).size <= 20 := by simpa [ByteArray.size] using hlen
    have hab : -(i + 1) + 1 = (i.natAbs : Int) := by omega
    have h0 : 0 <= -(i + 1) := by omega
    have h1 : -(i + 1) <= 9223372036854775807 := by omega
    rw [hE]
    clear hE hlen
    generalize (⟨(Lib.decDigits i.natAbs).toArray⟩ : ByteArray) = s at hdg hsz
    go_enter Tryz.func7, Tryz.ntmps7
    go_wp2_with fail
    refine (hdg.out).mono ?_
    rintro ev w1 ⟨rfl, rfl⟩
    go_wp2
    go_ret
    exact ⟨rfl, rfl⟩
  · obtain ⟨u, rfl⟩ := Int.eq_ofNat_of_zero_le (show 0 <= i by omega)
    have hdg := hidden (digits_calls u (by omega) w)
    have hE : itoaB (u : Int) = ⟨(Lib.decDigits u).toArray⟩ := by
      show (⟨(Lib.itoa (u : Int)).toArray⟩ : ByteArray) = _
      rw [Lib.itoa_nonneg]
    rw [hE]
    clear hE
    have h0 : (0 : Int) <= (u : Int) := by omega
    go_enter Tryz.func7, Tryz.ntmps7
    go_wp2_with fail
    refine (hdg.out).mono ?_
    rintro ev w1 ⟨rfl, rfl⟩
    go_wp2
    go_ret
    exact ⟨rfl, rfl⟩
end Go.Proofs.YtleafmdjhmnjmaaGreatDoor
