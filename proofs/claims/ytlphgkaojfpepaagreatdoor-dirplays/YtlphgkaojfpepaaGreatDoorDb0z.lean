/- The records as the statements of layer 10 lay them. -/
import Derived.Test.YtlphgkaojfpepaaGreatDoorGDf
import Derived.Deep.RegionHeld
import Derived.Deep.CutBlock
namespace Go.Proofs.YtlphgkaojfpepaaGreatDoor
open Go.RowKit Go.Extern.Stop Go.Stop Go.Extern Go.Maps Go.Sort Go.Shelf
set_option maxRecDepth 100000

/-- The region of that number. -/
def regionAt (n : Nat) : Code → Option Code
  | .region m o d => if m = n then some (.region m o d) else none
  | .block _ c => regionAt n c
  | .loop c => regionAt n c
  | .seq a b => match regionAt n a with
    | some c => some c
    | none => regionAt n b
  | .scope c => regionAt n c
  | .cond _ a b => match regionAt n a with
    | some c => some c
    | none => regionAt n b
  | _ => none
theorem wpAnyH_to {P : Program} {md : Region.Mode} {ops : Array Oper} {Q : Exit → Act → World → Prop} {S S' : World → Prop} (hS : ∀ w, S' w → S w) : ∀ {fuel : Nat} {listed : Array Bool} {a : Act} {w : World}, wpAnyH P md ops Q S' fuel listed a w → wpAnyH P md ops Q S fuel listed a w
  | 0, _, _, _, h => h
  | _ + 1, _, _, _, h => ⟨h.1, fun i hi => wpOp_mono (fun _ w' h' => ⟨hS w' h'.1, wpAnyH_to hS h'.2⟩) (h.2 i hi)⟩
theorem wpAnyH_act {P : Program} {md : Region.Mode} {ops : Array Oper} {Q : Exit → Act → World → Prop} {S : World → Prop} {fuel : Nat} {listed : Array Bool} {a a' : Act} {w : World} (e : a = a') (h : wpAnyH P md ops Q S fuel listed a' w) : wpAnyH P md ops Q S fuel listed a w := e ▸ h
/-- Nothing of what was there in these worlds has turned. -/
def SWs (ws : List World) (wx : World) : Prop := ∀ v ∈ ws, Below v.heap.size v wx
theorem SWs.one (w : World) : SWs [w] w := fun v hv => by rw [List.mem_singleton.1 hv]; exact Below.refl _ _
theorem SWs.at {ws : List World} {wx : World} (h : SWs ws wx) (v : World) (hv : v ∈ ws) : Below v.heap.size v wx := h v hv
theorem SWs.more {ws : List World} {w w' : World} (h : SWs ws w) (hb : Below w.heap.size w w') : SWs ws w' := fun v hv => (h v hv).trans (hb.mono (h v hv).size)
theorem SWs.cons {ws : List World} {w : World} (h : SWs ws w) : SWs (w :: ws) w := fun v hv => by
  rcases List.mem_cons.1 hv with rfl | hv
  · exact Below.refl _ _
  · exact h v hv
theorem SWs.tail {ws : List World} {v w : World} (h : SWs (v :: ws) w) : SWs ws w := fun u hu => h u (by simp [hu])
theorem bytes_new (w : World) (zs : List Int) (hr : ∀ z ∈ zs, 0 ≤ z ∧ z ≤ 255) (hl : zs.length ≤ 1000) (cs : Array Value) (hc : cs = (zs.map (Value.int .u8)).toArray) : BytesAt (w.alloc (.cells cs 5)) (.slice (some ⟨w.heap.size, 0, none⟩) zs.length zs.length) zs := by
  subst hc
  refine ⟨_, _, rfl, hr, by unfold maxLen; omega, fun e => (by cases e), fun _ => ⟨w.heap.size, 0, rfl, by simp, fun k hk => ?_⟩⟩
  rw [Nat.zero_add, cells_new]
  simp [List.getD, hk]
theorem u8w (z : Int) : IntKind.u8.wrap z = z % 256 := by
  simp only [IntKind.wrap, IntKind.bits, IntKind.signed]
  simp
theorem ofB_cat (a b : List Int) : ofBytes a ++ ofBytes b = ofBytes (a ++ b) := ofB_append a b
theorem recB_parts (r : Rec) : ofBytes (recB r) = ((ofBytes [((r.s.length : Nat) : Int)] ++ mkB r.s) ++ ofBytes (List.replicate (27 - r.s.length) 0)) ++ ofBytes (idB r.id) := by
  rw [← ofB_bI, ofB_cat, ofB_cat, ofB_cat]
  congr 1
  simp [recB]
theorem recsL_snoc (L : List Rec) (r : Rec) : recsL (L ++ [r]) = recsL L ++ recB r := by rw [recsL_append]; simp [recsL]
set_option maxHeartbeats 8000000 in
theorem lbytes_round (lb off k LL lc : Nat) (r : Rec) (wq : World) (Q : Exit → Act → World → Prop) (x1 x2 x6 x7 x8 x9 x10 x11 x12 x13 x14 x15 x16 : Value) (SS : ByteArray) (hkL : (k : Int) < (LL : Int)) (hlen : r.s.length ≤ 27) (hid : r.id < 2147483648) (hSS : SS.size ≤ 4000)
    (x17 x18 x19 x20 x21 x22 x23 x24 x25 x26 x27 x28 x29 x30 x31 x32 x33 x34 x35 x36 x37 x38 x39 x40 x41 x42 x43 x44 x45 x46 x47 x48 x49 x50 x51 x52 x53 x54 x55 x56 x57 x58 x59 x60 x61 x62 : Value)
    (hc : Hid (wq.cell? ⟨lb, off + k * 2 + 1, none⟩ = some (.int .i64 (r.id : Nat))))
    (hQp : ∀ x a a' w, Q (.panic x) a w → a.defers = a'.defers → Q (.panic x) a' w)
    (hKK : Hid (∀ (y17 y18 y19 y20 y21 y22 y23 y24 y25 y26 y27 y28 y29 y30 y31 y32 y33 y34 y35 y36 y37 y38 y39 y40 y41 y42 y43 y44 y45 y46 y47 y48 y49 y50 y51 y52 y53 y54 y55 y56 y57 y58 y59 y60 y61 : Value) (w' : World), Below wq.heap.size wq w' → Q .normal ⟨#[.slice (some ⟨lb, off, none⟩) LL lc, x1, x2, .string (SS ++ ofBytes (recB r)), .int .i64 (k : Int), .string (mkB r.s), x6, x7, x8, x9, x10, x11, x12, x13, x14, x15, x16, y17, y18, y19, y20, y21, y22, y23, y24, y25, y26, y27, y28, y29, y30, y31, y32, y33, y34, y35, y36, y37, y38, y39, y40, y41, y42, y43, y44, y45, y46, y47, y48, y49, y50, y51, y52, y53, y54, y55, y56, y57, y58, y59, y60, y61, x62], []⟩ w')) :
    Code.wp Tryz.prog (((Tryz.f21.body.bind (regionAt 6)).getD .skip)) Q ⟨#[.slice (some ⟨lb, off, none⟩) LL lc, x1, x2, .string SS, .int .i64 (k : Int), .string (mkB r.s), x6, x7, x8, x9, x10, x11, x12, x13, x14, x15, x16, x17, x18, x19, x20, x21, x22, x23, x24, x25, x26, x27, x28, x29, x30, x31, x32, x33, x34, x35, x36, x37, x38, x39, x40, x41, x42, x43, x44, x45, x46, x47, x48, x49, x50, x51, x52, x53, x54, x55, x56, x57, x58, x59, x60, x61, x62], []⟩ wq := by
  conv => arg 2; whnf
  try dsimp only
  have hsz : (mkB r.s).size = r.s.length := mk_size r.s
  obtain ⟨n, hn⟩ : ∃ n, r.s.length = n := ⟨_, rfl⟩
  rw [hn] at hsz hlen
  obtain ⟨Z, hZ⟩ : ∃ Z : Nat, 27 - n = Z := ⟨_, rfl⟩
  have hsub : (27 : Int) - (n : Int) = (Z : Int) := by omega
  have hwz := wrap_inD (Z : Int) (by omega) (by omega)
  have hwn : IntKind.u8.wrap (n : Int) = (n : Int) := by
    simp only [IntKind.wrap, IntKind.bits, IntKind.signed]
    simp
    omega
  have hparts := hidden (recB_parts r)
  rw [hn, hZ] at hparts
  have hs1 : (ofBytes [((n : Nat) : Int)]).size ≤ 10 := by rw [ofB_size]; simp
  have hs2 : (ofBytes (List.replicate Z (0 : Int))).size ≤ 100 := by rw [ofB_size, List.length_replicate]; omega
  have hs3 : (ofBytes (idB r.id)).size ≤ 10 := by rw [ofB_size, idB_len]; omega
  have kc := hidden (fun (wx : World) (hx : Below wq.drew.heap.size wq.drew wx) => show wx.cell? ⟨lb, off + k * 2 + 1, none⟩ = some (.int .i64 (r.id : Nat)) from
    ((below_drewD wq).trans (hx.mono (Nat.le_refl _))).cell (p := ⟨lb, off + k * 2 + 1, none⟩) (lt_of_cell (a := ⟨lb, off + k * 2 + 1, none⟩) hc.out) |>.trans hc.out)
  have kb1 := hidden (fun (wx : World) => show ∃ wy, wx.alloc (.cells #[.int .u8 ((n : Nat) : Int)] 5) = wy ∧ Below wx.heap.size wx wy ∧ Hid (∀ wz, Below wy.heap.size wy wz → (convert 47 9 (.slice (some ⟨wx.heap.size, 0, none⟩) 1 1)).run Tryz.prog wz = .ok (.string (ofBytes [((n : Nat) : Int)])) wz) from
    ⟨_, rfl, (Below.refl _ _).alloc (Nat.le_refl _) _, hidden (fun wz hz => conv_bytes wz _ _ ((bytes_new wx [((n : Nat) : Int)] (by simp; omega) (by simp) _ rfl).below hz))⟩)
  have kb2 := hidden (fun (wx : World) => show ∃ wy, (Instr.makeSlice 47 (.int .i64 (Z : Int)) (.int .i64 (Z : Int))).run Tryz.prog wx = .ok (.slice (some ⟨wx.heap.size, 0, none⟩) Z Z) wy ∧ Below wx.heap.size wx wy ∧ Hid (∀ wz, Below wy.heap.size wy wz → (convert 47 9 (.slice (some ⟨wx.heap.size, 0, none⟩) Z Z)).run Tryz.prog wz = .ok (.string (ofBytes (List.replicate Z 0))) wz) from
    ⟨_, make_bytes Z (by omega) wx, (Below.refl _ _).alloc (Nat.le_refl _) _, hidden (fun wz hz => conv_bytes wz _ _ (by
      have := (bytes_new wx (List.replicate Z (0 : Int)) (by intro z hz; rw [(List.mem_replicate.1 hz).2]; omega) (by rw [List.length_replicate]; omega) (Array.replicate Z (.int .u8 0)) (by simp)).below hz
      rw [List.length_replicate] at this
      exact this))⟩)
  have kb3 := hidden (fun (wx : World) => show ∃ wy, wx.alloc (.cells #[.int .u8 (IntKind.u8.wrap ((r.id : Int) / 16777216)), .int .u8 (IntKind.u8.wrap ((r.id : Int) / 65536)), .int .u8 (IntKind.u8.wrap ((r.id : Int) / 256)), .int .u8 (IntKind.u8.wrap (r.id : Int))] 5) = wy ∧ Below wx.heap.size wx wy ∧ Hid (∀ wz, Below wy.heap.size wy wz → (convert 47 9 (.slice (some ⟨wx.heap.size, 0, none⟩) 4 4)).run Tryz.prog wz = .ok (.string (ofBytes (idB r.id))) wz) from
    ⟨_, rfl, (Below.refl _ _).alloc (Nat.le_refl _) _, hidden (fun wz hz => conv_bytes wz _ _ ((bytes_new wx (idB r.id) (by
      intro z hz
      simp only [idB, List.mem_cons, List.not_mem_nil, or_false] at hz
      rcases hz with rfl | rfl | rfl | rfl <;> omega) (by rw [idB_len]; omega) _ (by
      simp only [idB, List.map_cons, List.map_nil, u8w]
      simp)).below hz))⟩)
  generalize ofBytes [((n : Nat) : Int)] = T1 at *
  generalize ofBytes (List.replicate Z (0 : Int)) = T2 at *
  generalize ofBytes (idB r.id) = T3 at *
  have hs0 := hsz
  have hid0 : (r.id : Int) < 2147483648 := by omega
  have hS0 : SWs [wq.drew] wq.drew := SWs.one _
  have hBq := hidden (below_drewD wq)
  have hszq : wq.drew.heap.size = wq.heap.size := rfl
  replace hszq := hidden hszq
  generalize hRI : (r.id : Int) = RI at *
  generalize hMK : mkB r.s = MK at *
  obtain ⟨TT, hTT⟩ : ∃ TT, SS ++ ofBytes (recB r) = TT := ⟨_, rfl⟩
  rw [hTT] at hKK
  have hcat : SS ++ T1 ++ MK ++ T2 ++ T3 = TT := by
    rw [← hTT, hparts.out]
    simp [ByteArray.append_assoc]
  have hq1 : ¬ 9223372036854775807 < SS.size + T1.size := by omega
  have hq2 : ¬ 9223372036854775807 < SS.size + T1.size + n := by omega
  have hq3 : ¬ 9223372036854775807 < SS.size + T1.size + n + T2.size := by omega
  have hq4 : ¬ 9223372036854775807 < SS.size + T1.size + n + T2.size + T3.size := by omega
  replace hTT := hidden hTT
  replace hn := hidden hn
  clear hc hMK
  refine wp_region_held_drew (S := SWs [wq.drew]) (by kernel_rfl) hS0 ?_
  intro _
  generalize wq.drew = WD at *
  refine wpAnyH_take (i := 0) (v := ?_) rfl (by kernel_rfl) (by kernel_rfl) (by kernel_rfl) (fun _ _ _ h => hQp _ _ _ _ h rfl) (Or.inl ⟨by rfl, ?_⟩) hS0 ?_
  rotate_left
  · intro w hw; clear hw; go_simp; try (with_reducible rfl)
  refine wpAnyH_take (i := 1) (v := ?_) rfl (by kernel_rfl) (by kernel_rfl) (by kernel_rfl) (fun _ _ _ h => hQp _ _ _ _ h rfl) (Or.inl ⟨by rfl, ?_⟩) hS0 ?_
  rotate_left
  · intro w hw; clear hw; go_simp; try (with_reducible rfl)
  refine wpAnyH_take (i := 2) (v := ?_) rfl (by kernel_rfl) (by kernel_rfl) (by kernel_rfl) (fun _ _ _ h => hQp _ _ _ _ h rfl) (Or.inl ⟨by rfl, ?_⟩) hS0 ?_
  rotate_left
  · intro w hw; clear hw; go_simp; try (with_reducible rfl)
  refine wpAnyH_take (i := 3) (v := ?_) rfl (by kernel_rfl) (by kernel_rfl) (by kernel_rfl) (fun _ _ _ h => hQp _ _ _ _ h rfl) (Or.inl ⟨by rfl, ?_⟩) hS0 ?_
  rotate_left
  · intro w hw; clear hw; go_simp; try (with_reducible rfl)
  refine wpAnyH_take (i := 7) (v := ?_) rfl (by kernel_rfl) (by kernel_rfl) (by kernel_rfl) (fun _ _ _ h => hQp _ _ _ _ h rfl) (Or.inl ⟨by rfl, ?_⟩) hS0 ?_
  rotate_left
  · intro w hw; clear hw; go_simp; try (with_reducible rfl)
  refine wpAnyH_take (i := 9) (v := ?_) rfl (by kernel_rfl) (by kernel_rfl) (by kernel_rfl) (fun _ _ _ h => hQp _ _ _ _ h rfl) (Or.inl ⟨by rfl, ?_⟩) hS0 ?_
  rotate_left
  · intro w hw; clear hw; go_simp; try (with_reducible rfl)
  refine wpAnyH_take (i := 10) (v := ?_) rfl (by kernel_rfl) (by kernel_rfl) (by kernel_rfl) (fun _ _ _ h => hQp _ _ _ _ h rfl) (Or.inl ⟨by rfl, ?_⟩) hS0 ?_
  rotate_left
  · intro w hw; clear hw; go_simp; try (with_reducible rfl)
  refine wpAnyH_take (i := 11) (v := ?_) rfl (by kernel_rfl) (by kernel_rfl) (by kernel_rfl) (fun _ _ _ h => hQp _ _ _ _ h rfl) (Or.inl ⟨by rfl, ?_⟩) hS0 ?_
  rotate_left
  · intro w hw; clear hw; go_simp; try (with_reducible rfl)
  refine wpAnyH_take (i := 15) (v := ?_) rfl (by kernel_rfl) (by kernel_rfl) (by kernel_rfl) (fun _ _ _ h => hQp _ _ _ _ h rfl) (Or.inl ⟨by rfl, ?_⟩) hS0 ?_
  rotate_left
  · intro w hw; clear hw; go_simp; try (with_reducible rfl)
  refine wpAnyH_take (i := 16) (v := ?_) rfl (by kernel_rfl) (by kernel_rfl) (by kernel_rfl) (fun _ _ _ h => hQp _ _ _ _ h rfl) (Or.inl ⟨by rfl, ?_⟩) hS0 ?_
  rotate_left
  · intro w hw; clear hw; go_simp; try (with_reducible rfl)
  refine wpAnyH_take (i := 17) (v := ?_) rfl (by kernel_rfl) (by kernel_rfl) (by kernel_rfl) (fun _ _ _ h => hQp _ _ _ _ h rfl) (Or.inl ⟨by rfl, ?_⟩) hS0 ?_
  rotate_left
  · intro w hw; clear hw; go_simp; try (with_reducible rfl)
  refine wpAnyH_take (i := 18) (v := ?_) rfl (by kernel_rfl) (by kernel_rfl) (by kernel_rfl) (fun _ _ _ h => hQp _ _ _ _ h rfl) (Or.inl ⟨by rfl, ?_⟩) hS0 ?_
  rotate_left
  · intro w hw; clear hw; go_simp; try (with_reducible rfl)
  refine wpAnyH_take (i := 19) (v := ?_) rfl (by kernel_rfl) (by kernel_rfl) (by kernel_rfl) (fun _ _ _ h => hQp _ _ _ _ h rfl) (Or.inl ⟨by rfl, ?_⟩) hS0 ?_
  rotate_left
  · intro w hw; have c19 := kc.out _ (hw.at WD (by simp)); clear hw; go_simp; try (with_reducible rfl)
  refine wpAnyH_take (i := 20) (v := ?_) rfl (by kernel_rfl) (by kernel_rfl) (by kernel_rfl) (fun _ _ _ h => hQp _ _ _ _ h rfl) (Or.inl ⟨by rfl, ?_⟩) hS0 ?_
  rotate_left
  · intro w hw; clear hw; go_simp; try (with_reducible rfl)
  refine wpAnyH_take (i := 21) (v := ?_) rfl (by kernel_rfl) (by kernel_rfl) (by kernel_rfl) (fun _ _ _ h => hQp _ _ _ _ h rfl) (Or.inl ⟨by rfl, ?_⟩) hS0 ?_
  rotate_left
  · intro w hw; clear hw; go_simp; try (with_reducible rfl)
  refine wpAnyH_take (i := 22) (v := ?_) rfl (by kernel_rfl) (by kernel_rfl) (by kernel_rfl) (fun _ _ _ h => hQp _ _ _ _ h rfl) (Or.inl ⟨by rfl, ?_⟩) hS0 ?_
  rotate_left
  · intro w hw; clear hw; go_simp; try (with_reducible rfl)
  refine wpAnyH_take (i := 23) (v := ?_) rfl (by kernel_rfl) (by kernel_rfl) (by kernel_rfl) (fun _ _ _ h => hQp _ _ _ _ h rfl) (Or.inl ⟨by rfl, ?_⟩) hS0 ?_
  rotate_left
  · intro w hw; clear hw; go_simp; try (with_reducible rfl)
  refine wpAnyH_take (i := 24) (v := ?_) rfl (by kernel_rfl) (by kernel_rfl) (by kernel_rfl) (fun _ _ _ h => hQp _ _ _ _ h rfl) (Or.inl ⟨by rfl, ?_⟩) hS0 ?_
  rotate_left
  · intro w hw; clear hw; go_simp; try (with_reducible rfl)
  refine wpAnyH_take (i := 25) (v := ?_) rfl (by kernel_rfl) (by kernel_rfl) (by kernel_rfl) (fun _ _ _ h => hQp _ _ _ _ h rfl) (Or.inl ⟨by rfl, ?_⟩) hS0 ?_
  rotate_left
  · intro w hw; clear hw; go_simp; try (with_reducible rfl)
  refine wpAnyH_take (i := 26) (v := ?_) rfl (by kernel_rfl) (by kernel_rfl) (by kernel_rfl) (fun _ _ _ h => hQp _ _ _ _ h rfl) (Or.inl ⟨by rfl, ?_⟩) hS0 ?_
  rotate_left
  · intro w hw; have c19 := kc.out _ (hw.at WD (by simp)); clear hw; go_simp; try (with_reducible rfl)
  refine wpAnyH_take (i := 27) (v := ?_) rfl (by kernel_rfl) (by kernel_rfl) (by kernel_rfl) (fun _ _ _ h => hQp _ _ _ _ h rfl) (Or.inl ⟨by rfl, ?_⟩) hS0 ?_
  rotate_left
  · intro w hw; clear hw; go_simp; try (with_reducible rfl)
  refine wpAnyH_take (i := 28) (v := ?_) rfl (by kernel_rfl) (by kernel_rfl) (by kernel_rfl) (fun _ _ _ h => hQp _ _ _ _ h rfl) (Or.inl ⟨by rfl, ?_⟩) hS0 ?_
  rotate_left
  · intro w hw; clear hw; go_simp; try (with_reducible rfl)
  refine wpAnyH_take (i := 29) (v := ?_) rfl (by kernel_rfl) (by kernel_rfl) (by kernel_rfl) (fun _ _ _ h => hQp _ _ _ _ h rfl) (Or.inl ⟨by rfl, ?_⟩) hS0 ?_
  rotate_left
  · intro w hw; clear hw; go_simp; try (with_reducible rfl)
  refine wpAnyH_take (i := 30) (v := ?_) rfl (by kernel_rfl) (by kernel_rfl) (by kernel_rfl) (fun _ _ _ h => hQp _ _ _ _ h rfl) (Or.inl ⟨by rfl, ?_⟩) hS0 ?_
  rotate_left
  · intro w hw; clear hw; go_simp; try (with_reducible rfl)
  refine wpAnyH_take (i := 31) (v := ?_) rfl (by kernel_rfl) (by kernel_rfl) (by kernel_rfl) (fun _ _ _ h => hQp _ _ _ _ h rfl) (Or.inl ⟨by rfl, ?_⟩) hS0 ?_
  rotate_left
  · intro w hw; clear hw; go_simp; try (with_reducible rfl)
  refine wpAnyH_take (i := 32) (v := ?_) rfl (by kernel_rfl) (by kernel_rfl) (by kernel_rfl) (fun _ _ _ h => hQp _ _ _ _ h rfl) (Or.inl ⟨by rfl, ?_⟩) hS0 ?_
  rotate_left
  · intro w hw; clear hw; go_simp; try (with_reducible rfl)
  refine wpAnyH_take (i := 33) (v := ?_) rfl (by kernel_rfl) (by kernel_rfl) (by kernel_rfl) (fun _ _ _ h => hQp _ _ _ _ h rfl) (Or.inl ⟨by rfl, ?_⟩) hS0 ?_
  rotate_left
  · intro w hw; have c19 := kc.out _ (hw.at WD (by simp)); clear hw; go_simp; try (with_reducible rfl)
  refine wpAnyH_take (i := 34) (v := ?_) rfl (by kernel_rfl) (by kernel_rfl) (by kernel_rfl) (fun _ _ _ h => hQp _ _ _ _ h rfl) (Or.inl ⟨by rfl, ?_⟩) hS0 ?_
  rotate_left
  · intro w hw; clear hw; go_simp; try (with_reducible rfl)
  refine wpAnyH_take (i := 35) (v := ?_) rfl (by kernel_rfl) (by kernel_rfl) (by kernel_rfl) (fun _ _ _ h => hQp _ _ _ _ h rfl) (Or.inl ⟨by rfl, ?_⟩) hS0 ?_
  rotate_left
  · intro w hw; clear hw; go_simp; try (with_reducible rfl)
  refine wpAnyH_take (i := 36) (v := ?_) rfl (by kernel_rfl) (by kernel_rfl) (by kernel_rfl) (fun _ _ _ h => hQp _ _ _ _ h rfl) (Or.inl ⟨by rfl, ?_⟩) hS0 ?_
  rotate_left
  · intro w hw; clear hw; go_simp; try (with_reducible rfl)
  refine wpAnyH_take (i := 37) (v := ?_) rfl (by kernel_rfl) (by kernel_rfl) (by kernel_rfl) (fun _ _ _ h => hQp _ _ _ _ h rfl) (Or.inl ⟨by rfl, ?_⟩) hS0 ?_
  rotate_left
  · intro w hw; clear hw; go_simp; try (with_reducible rfl)
  refine wpAnyH_take (i := 38) (v := ?_) rfl (by kernel_rfl) (by kernel_rfl) (by kernel_rfl) (fun _ _ _ h => hQp _ _ _ _ h rfl) (Or.inl ⟨by rfl, ?_⟩) hS0 ?_
  rotate_left
  · intro w hw; clear hw; go_simp; try (with_reducible rfl)
  refine wpAnyH_take (i := 39) (v := ?_) rfl (by kernel_rfl) (by kernel_rfl) (by kernel_rfl) (fun _ _ _ h => hQp _ _ _ _ h rfl) (Or.inl ⟨by rfl, ?_⟩) hS0 ?_
  rotate_left
  · intro w hw; clear hw; go_simp; try (with_reducible rfl)
  refine wpAnyH_take (i := 40) (v := ?_) rfl (by kernel_rfl) (by kernel_rfl) (by kernel_rfl) (fun _ _ _ h => hQp _ _ _ _ h rfl) (Or.inl ⟨by rfl, ?_⟩) hS0 ?_
  rotate_left
  · intro w hw; have c19 := kc.out _ (hw.at WD (by simp)); clear hw; go_simp; try (with_reducible rfl)
  refine wpAnyH_take (i := 41) (v := ?_) rfl (by kernel_rfl) (by kernel_rfl) (by kernel_rfl) (fun _ _ _ h => hQp _ _ _ _ h rfl) (Or.inl ⟨by rfl, ?_⟩) hS0 ?_
  rotate_left
  · intro w hw; clear hw; go_simp; try (with_reducible rfl)
  refine wpAnyH_act (a' := ?_) ?_ ?_
  rotate_left
  · go_simp; try (with_reducible rfl)
  refine wpAnyH_ready (rs := [4, 12, 42]) (by kernel_rfl) (by simp) ?_
  refine AllReadyH.cons rfl (fun K hK => ?_) ?_
  · obtain ⟨W4, hW4, hBW4, kvW4⟩ := kb1.out WD
    go_simp
    refine hK.out _ _ (hS0.more hBW4) (fun hSn1 => ?_)
    refine wpAnyH_to (fun wx (h : SWs (W4 :: _) wx) => h.tail) ?_
    replace hSn1 := hSn1.cons
    clear hK K
    refine wpAnyH_take (i := 5) (v := ?_) rfl (by kernel_rfl) (by kernel_rfl) (by kernel_rfl) (fun _ _ _ h => hQp _ _ _ _ h rfl) (Or.inl ⟨by rfl, ?_⟩) hSn1 ?_
    rotate_left
    · intro w hw; have c5 := kvW4.out _ (hw.at W4 (by simp)); clear hw; go_simp; try (with_reducible rfl)
    refine wpAnyH_take (i := 6) (v := ?_) rfl (by kernel_rfl) (by kernel_rfl) (by kernel_rfl) (fun _ _ _ h => hQp _ _ _ _ h rfl) (Or.inl ⟨by rfl, ?_⟩) hSn1 ?_
    rotate_left
    · intro w hw; clear hw; go_simp; try (with_reducible rfl)
    refine wpAnyH_take (i := 8) (v := ?_) rfl (by kernel_rfl) (by kernel_rfl) (by kernel_rfl) (fun _ _ _ h => hQp _ _ _ _ h rfl) (Or.inl ⟨by rfl, ?_⟩) hSn1 ?_
    rotate_left
    · intro w hw; clear hw; go_simp; try (with_reducible rfl)
    refine wpAnyH_act (a' := ?_) ?_ ?_
    rotate_left
    · go_simp; try (with_reducible rfl)
    refine wpAnyH_ready (rs := [12, 42]) (by kernel_rfl) (by simp) ?_
    refine AllReadyH.cons rfl (fun K hK => ?_) ?_
    · obtain ⟨W12, hW12, hBW12, kvW12⟩ := kb2.out W4
      go_simp
      refine hK.out _ _ (hSn1.more hBW12) (fun hSn2 => ?_)
      refine wpAnyH_to (fun wx (h : SWs (W12 :: _) wx) => h.tail) ?_
      replace hSn2 := hSn2.cons
      clear hK K
      refine wpAnyH_take (i := 13) (v := ?_) rfl (by kernel_rfl) (by kernel_rfl) (by kernel_rfl) (fun _ _ _ h => hQp _ _ _ _ h rfl) (Or.inl ⟨by rfl, ?_⟩) hSn2 ?_
      rotate_left
      · intro w hw; have c13 := kvW12.out _ (hw.at W12 (by simp)); clear hw; go_simp; try (with_reducible rfl)
      refine wpAnyH_take (i := 14) (v := ?_) rfl (by kernel_rfl) (by kernel_rfl) (by kernel_rfl) (fun _ _ _ h => hQp _ _ _ _ h rfl) (Or.inl ⟨by rfl, ?_⟩) hSn2 ?_
      rotate_left
      · intro w hw; clear hw; go_simp; try (with_reducible rfl)
      refine wpAnyH_act (a' := ?_) ?_ ?_
      rotate_left
      · go_simp; try (with_reducible rfl)
      refine wpAnyH_ready (rs := [42]) (by kernel_rfl) (by simp) ?_
      refine AllReadyH.cons rfl (fun K hK => ?_) AllReadyH.nil
      obtain ⟨W42, hW42, hBW42, kvW42⟩ := kb3.out W12
      go_simp
      refine hK.out _ _ (hSn2.more hBW42) (fun hSn3 => ?_)
      refine wpAnyH_to (fun wx (h : SWs (W42 :: _) wx) => h.tail) ?_
      replace hSn3 := hSn3.cons
      clear hK K
      refine wpAnyH_act (a' := ?_) ?_ ?_
      rotate_left
      · go_simp; try (with_reducible rfl)
      refine wpAnyH_ready (rs := [43]) (by kernel_rfl) (by simp) ?_
      refine AllReadyH.cons rfl (fun K hK => ?_) AllReadyH.nil
      have c43 := kvW42.out _ (hSn3.at W42 (by simp))
      go_simp
      refine hK.out _ _ hSn3 (fun _ => ?_)
      clear hK K
      refine wpAnyH_act (a' := ?_) ?_ ?_
      rotate_left
      · go_simp; try (with_reducible rfl)
      refine wpAnyH_ready (rs := [44]) (by kernel_rfl) (by simp) ?_
      refine AllReadyH.cons rfl (fun K hK => ?_) AllReadyH.nil
      go_simp
      refine hK.out _ _ hSn3 (fun _ => ?_)
      clear hK K
      refine wpAnyH_act (a' := ?_) ?_ ?_
      rotate_left
      · go_simp; try (with_reducible rfl)
      refine wpAnyH_ready (rs := [45]) (by kernel_rfl) (by simp) ?_
      refine AllReadyH.cons rfl (fun K hK => ?_) AllReadyH.nil
      go_simp
      refine hK.out _ _ hSn3 (fun _ => ?_)
      clear hK K
      refine wpAnyH_done (by kernel_rfl) ?_ _
      have hz := hidden ((hSn3.at WD (by simp)))
      go_wp2
      exact hKK.out _ _ _ _ _ _ _ _ _ _ _ _ _ _ _ _ _ _ _ _ _ _ _ _ _ _ _ _ _ _ _ _ _ _ _ _ _ _ _ _ _ _ _ _ _ _ (hBq.out.trans (hz.out.mono hBq.out.size))
    refine AllReadyH.cons rfl (fun K hK => ?_) ?_
    · obtain ⟨W42, hW42, hBW42, kvW42⟩ := kb3.out W4
      go_simp
      refine hK.out _ _ (hSn1.more hBW42) (fun hSn4 => ?_)
      refine wpAnyH_to (fun wx (h : SWs (W42 :: _) wx) => h.tail) ?_
      replace hSn4 := hSn4.cons
      clear hK K
      refine wpAnyH_take (i := 43) (v := ?_) rfl (by kernel_rfl) (by kernel_rfl) (by kernel_rfl) (fun _ _ _ h => hQp _ _ _ _ h rfl) (Or.inl ⟨by rfl, ?_⟩) hSn4 ?_
      rotate_left
      · intro w hw; have c43 := kvW42.out _ (hw.at W42 (by simp)); clear hw; go_simp; try (with_reducible rfl)
      refine wpAnyH_act (a' := ?_) ?_ ?_
      rotate_left
      · go_simp; try (with_reducible rfl)
      refine wpAnyH_ready (rs := [12]) (by kernel_rfl) (by simp) ?_
      refine AllReadyH.cons rfl (fun K hK => ?_) AllReadyH.nil
      obtain ⟨W12, hW12, hBW12, kvW12⟩ := kb2.out W42
      go_simp
      refine hK.out _ _ (hSn4.more hBW12) (fun hSn5 => ?_)
      refine wpAnyH_to (fun wx (h : SWs (W12 :: _) wx) => h.tail) ?_
      replace hSn5 := hSn5.cons
      clear hK K
      refine wpAnyH_act (a' := ?_) ?_ ?_
      rotate_left
      · go_simp; try (with_reducible rfl)
      refine wpAnyH_ready (rs := [13]) (by kernel_rfl) (by simp) ?_
      refine AllReadyH.cons rfl (fun K hK => ?_) AllReadyH.nil
      have c13 := kvW12.out _ (hSn5.at W12 (by simp))
      go_simp
      refine hK.out _ _ hSn5 (fun _ => ?_)
      clear hK K
      refine wpAnyH_act (a' := ?_) ?_ ?_
      rotate_left
      · go_simp; try (with_reducible rfl)
      refine wpAnyH_ready (rs := [14]) (by kernel_rfl) (by simp) ?_
      refine AllReadyH.cons rfl (fun K hK => ?_) AllReadyH.nil
      go_simp
      refine hK.out _ _ hSn5 (fun _ => ?_)
      clear hK K
      refine wpAnyH_act (a' := ?_) ?_ ?_
      rotate_left
      · go_simp; try (with_reducible rfl)
      refine wpAnyH_ready (rs := [44]) (by kernel_rfl) (by simp) ?_
      refine AllReadyH.cons rfl (fun K hK => ?_) AllReadyH.nil
      go_simp
      refine hK.out _ _ hSn5 (fun _ => ?_)
      clear hK K
      refine wpAnyH_act (a' := ?_) ?_ ?_
      rotate_left
      · go_simp; try (with_reducible rfl)
      refine wpAnyH_ready (rs := [45]) (by kernel_rfl) (by simp) ?_
      refine AllReadyH.cons rfl (fun K hK => ?_) AllReadyH.nil
      go_simp
      refine hK.out _ _ hSn5 (fun _ => ?_)
      clear hK K
      refine wpAnyH_done (by kernel_rfl) ?_ _
      have hz := hidden ((hSn5.at WD (by simp)))
      go_wp2
      exact hKK.out _ _ _ _ _ _ _ _ _ _ _ _ _ _ _ _ _ _ _ _ _ _ _ _ _ _ _ _ _ _ _ _ _ _ _ _ _ _ _ _ _ _ _ _ _ _ (hBq.out.trans (hz.out.mono hBq.out.size))
    exact AllReadyH.nil
  refine AllReadyH.cons rfl (fun K hK => ?_) ?_
  · obtain ⟨W12, hW12, hBW12, kvW12⟩ := kb2.out WD
    go_simp
    refine hK.out _ _ (hS0.more hBW12) (fun hSn6 => ?_)
    refine wpAnyH_to (fun wx (h : SWs (W12 :: _) wx) => h.tail) ?_
    replace hSn6 := hSn6.cons
    clear hK K
    refine wpAnyH_take (i := 13) (v := ?_) rfl (by kernel_rfl) (by kernel_rfl) (by kernel_rfl) (fun _ _ _ h => hQp _ _ _ _ h rfl) (Or.inl ⟨by rfl, ?_⟩) hSn6 ?_
    rotate_left
    · intro w hw; have c13 := kvW12.out _ (hw.at W12 (by simp)); clear hw; go_simp; try (with_reducible rfl)
    refine wpAnyH_act (a' := ?_) ?_ ?_
    rotate_left
    · go_simp; try (with_reducible rfl)
    refine wpAnyH_ready (rs := [4, 42]) (by kernel_rfl) (by simp) ?_
    refine AllReadyH.cons rfl (fun K hK => ?_) ?_
    · obtain ⟨W4, hW4, hBW4, kvW4⟩ := kb1.out W12
      go_simp
      refine hK.out _ _ (hSn6.more hBW4) (fun hSn7 => ?_)
      refine wpAnyH_to (fun wx (h : SWs (W4 :: _) wx) => h.tail) ?_
      replace hSn7 := hSn7.cons
      clear hK K
      refine wpAnyH_take (i := 5) (v := ?_) rfl (by kernel_rfl) (by kernel_rfl) (by kernel_rfl) (fun _ _ _ h => hQp _ _ _ _ h rfl) (Or.inl ⟨by rfl, ?_⟩) hSn7 ?_
      rotate_left
      · intro w hw; have c5 := kvW4.out _ (hw.at W4 (by simp)); clear hw; go_simp; try (with_reducible rfl)
      refine wpAnyH_take (i := 6) (v := ?_) rfl (by kernel_rfl) (by kernel_rfl) (by kernel_rfl) (fun _ _ _ h => hQp _ _ _ _ h rfl) (Or.inl ⟨by rfl, ?_⟩) hSn7 ?_
      rotate_left
      · intro w hw; clear hw; go_simp; try (with_reducible rfl)
      refine wpAnyH_take (i := 8) (v := ?_) rfl (by kernel_rfl) (by kernel_rfl) (by kernel_rfl) (fun _ _ _ h => hQp _ _ _ _ h rfl) (Or.inl ⟨by rfl, ?_⟩) hSn7 ?_
      rotate_left
      · intro w hw; clear hw; go_simp; try (with_reducible rfl)
      refine wpAnyH_take (i := 14) (v := ?_) rfl (by kernel_rfl) (by kernel_rfl) (by kernel_rfl) (fun _ _ _ h => hQp _ _ _ _ h rfl) (Or.inl ⟨by rfl, ?_⟩) hSn7 ?_
      rotate_left
      · intro w hw; clear hw; go_simp; try (with_reducible rfl)
      refine wpAnyH_act (a' := ?_) ?_ ?_
      rotate_left
      · go_simp; try (with_reducible rfl)
      refine wpAnyH_ready (rs := [42]) (by kernel_rfl) (by simp) ?_
      refine AllReadyH.cons rfl (fun K hK => ?_) AllReadyH.nil
      obtain ⟨W42, hW42, hBW42, kvW42⟩ := kb3.out W4
      go_simp
      refine hK.out _ _ (hSn7.more hBW42) (fun hSn8 => ?_)
      refine wpAnyH_to (fun wx (h : SWs (W42 :: _) wx) => h.tail) ?_
      replace hSn8 := hSn8.cons
      clear hK K
      refine wpAnyH_act (a' := ?_) ?_ ?_
      rotate_left
      · go_simp; try (with_reducible rfl)
      refine wpAnyH_ready (rs := [43]) (by kernel_rfl) (by simp) ?_
      refine AllReadyH.cons rfl (fun K hK => ?_) AllReadyH.nil
      have c43 := kvW42.out _ (hSn8.at W42 (by simp))
      go_simp
      refine hK.out _ _ hSn8 (fun _ => ?_)
      clear hK K
      refine wpAnyH_act (a' := ?_) ?_ ?_
      rotate_left
      · go_simp; try (with_reducible rfl)
      refine wpAnyH_ready (rs := [44]) (by kernel_rfl) (by simp) ?_
      refine AllReadyH.cons rfl (fun K hK => ?_) AllReadyH.nil
      go_simp
      refine hK.out _ _ hSn8 (fun _ => ?_)
      clear hK K
      refine wpAnyH_act (a' := ?_) ?_ ?_
      rotate_left
      · go_simp; try (with_reducible rfl)
      refine wpAnyH_ready (rs := [45]) (by kernel_rfl) (by simp) ?_
      refine AllReadyH.cons rfl (fun K hK => ?_) AllReadyH.nil
      go_simp
      refine hK.out _ _ hSn8 (fun _ => ?_)
      clear hK K
      refine wpAnyH_done (by kernel_rfl) ?_ _
      have hz := hidden ((hSn8.at WD (by simp)))
      go_wp2
      exact hKK.out _ _ _ _ _ _ _ _ _ _ _ _ _ _ _ _ _ _ _ _ _ _ _ _ _ _ _ _ _ _ _ _ _ _ _ _ _ _ _ _ _ _ _ _ _ _ (hBq.out.trans (hz.out.mono hBq.out.size))
    refine AllReadyH.cons rfl (fun K hK => ?_) ?_
    · obtain ⟨W42, hW42, hBW42, kvW42⟩ := kb3.out W12
      go_simp
      refine hK.out _ _ (hSn6.more hBW42) (fun hSn9 => ?_)
      refine wpAnyH_to (fun wx (h : SWs (W42 :: _) wx) => h.tail) ?_
      replace hSn9 := hSn9.cons
      clear hK K
      refine wpAnyH_take (i := 43) (v := ?_) rfl (by kernel_rfl) (by kernel_rfl) (by kernel_rfl) (fun _ _ _ h => hQp _ _ _ _ h rfl) (Or.inl ⟨by rfl, ?_⟩) hSn9 ?_
      rotate_left
      · intro w hw; have c43 := kvW42.out _ (hw.at W42 (by simp)); clear hw; go_simp; try (with_reducible rfl)
      refine wpAnyH_act (a' := ?_) ?_ ?_
      rotate_left
      · go_simp; try (with_reducible rfl)
      refine wpAnyH_ready (rs := [4]) (by kernel_rfl) (by simp) ?_
      refine AllReadyH.cons rfl (fun K hK => ?_) AllReadyH.nil
      obtain ⟨W4, hW4, hBW4, kvW4⟩ := kb1.out W42
      go_simp
      refine hK.out _ _ (hSn9.more hBW4) (fun hSn10 => ?_)
      refine wpAnyH_to (fun wx (h : SWs (W4 :: _) wx) => h.tail) ?_
      replace hSn10 := hSn10.cons
      clear hK K
      refine wpAnyH_act (a' := ?_) ?_ ?_
      rotate_left
      · go_simp; try (with_reducible rfl)
      refine wpAnyH_ready (rs := [5]) (by kernel_rfl) (by simp) ?_
      refine AllReadyH.cons rfl (fun K hK => ?_) AllReadyH.nil
      have c5 := kvW4.out _ (hSn10.at W4 (by simp))
      go_simp
      refine hK.out _ _ hSn10 (fun _ => ?_)
      clear hK K
      refine wpAnyH_act (a' := ?_) ?_ ?_
      rotate_left
      · go_simp; try (with_reducible rfl)
      refine wpAnyH_ready (rs := [6]) (by kernel_rfl) (by simp) ?_
      refine AllReadyH.cons rfl (fun K hK => ?_) AllReadyH.nil
      go_simp
      refine hK.out _ _ hSn10 (fun _ => ?_)
      clear hK K
      refine wpAnyH_act (a' := ?_) ?_ ?_
      rotate_left
      · go_simp; try (with_reducible rfl)
      refine wpAnyH_ready (rs := [8]) (by kernel_rfl) (by simp) ?_
      refine AllReadyH.cons rfl (fun K hK => ?_) AllReadyH.nil
      go_simp
      refine hK.out _ _ hSn10 (fun _ => ?_)
      clear hK K
      refine wpAnyH_act (a' := ?_) ?_ ?_
      rotate_left
      · go_simp; try (with_reducible rfl)
      refine wpAnyH_ready (rs := [14]) (by kernel_rfl) (by simp) ?_
      refine AllReadyH.cons rfl (fun K hK => ?_) AllReadyH.nil
      go_simp
      refine hK.out _ _ hSn10 (fun _ => ?_)
      clear hK K
      refine wpAnyH_act (a' := ?_) ?_ ?_
      rotate_left
      · go_simp; try (with_reducible rfl)
      refine wpAnyH_ready (rs := [44]) (by kernel_rfl) (by simp) ?_
      refine AllReadyH.cons rfl (fun K hK => ?_) AllReadyH.nil
      go_simp
      refine hK.out _ _ hSn10 (fun _ => ?_)
      clear hK K
      refine wpAnyH_act (a' := ?_) ?_ ?_
      rotate_left
      · go_simp; try (with_reducible rfl)
      refine wpAnyH_ready (rs := [45]) (by kernel_rfl) (by simp) ?_
      refine AllReadyH.cons rfl (fun K hK => ?_) AllReadyH.nil
      go_simp
      refine hK.out _ _ hSn10 (fun _ => ?_)
      clear hK K
      refine wpAnyH_done (by kernel_rfl) ?_ _
      have hz := hidden ((hSn10.at WD (by simp)))
      go_wp2
      exact hKK.out _ _ _ _ _ _ _ _ _ _ _ _ _ _ _ _ _ _ _ _ _ _ _ _ _ _ _ _ _ _ _ _ _ _ _ _ _ _ _ _ _ _ _ _ _ _ (hBq.out.trans (hz.out.mono hBq.out.size))
    exact AllReadyH.nil
  refine AllReadyH.cons rfl (fun K hK => ?_) ?_
  · obtain ⟨W42, hW42, hBW42, kvW42⟩ := kb3.out WD
    go_simp
    refine hK.out _ _ (hS0.more hBW42) (fun hSn11 => ?_)
    refine wpAnyH_to (fun wx (h : SWs (W42 :: _) wx) => h.tail) ?_
    replace hSn11 := hSn11.cons
    clear hK K
    refine wpAnyH_take (i := 43) (v := ?_) rfl (by kernel_rfl) (by kernel_rfl) (by kernel_rfl) (fun _ _ _ h => hQp _ _ _ _ h rfl) (Or.inl ⟨by rfl, ?_⟩) hSn11 ?_
    rotate_left
    · intro w hw; have c43 := kvW42.out _ (hw.at W42 (by simp)); clear hw; go_simp; try (with_reducible rfl)
    refine wpAnyH_act (a' := ?_) ?_ ?_
    rotate_left
    · go_simp; try (with_reducible rfl)
    refine wpAnyH_ready (rs := [4, 12]) (by kernel_rfl) (by simp) ?_
    refine AllReadyH.cons rfl (fun K hK => ?_) ?_
    · obtain ⟨W4, hW4, hBW4, kvW4⟩ := kb1.out W42
      go_simp
      refine hK.out _ _ (hSn11.more hBW4) (fun hSn12 => ?_)
      refine wpAnyH_to (fun wx (h : SWs (W4 :: _) wx) => h.tail) ?_
      replace hSn12 := hSn12.cons
      clear hK K
      refine wpAnyH_take (i := 5) (v := ?_) rfl (by kernel_rfl) (by kernel_rfl) (by kernel_rfl) (fun _ _ _ h => hQp _ _ _ _ h rfl) (Or.inl ⟨by rfl, ?_⟩) hSn12 ?_
      rotate_left
      · intro w hw; have c5 := kvW4.out _ (hw.at W4 (by simp)); clear hw; go_simp; try (with_reducible rfl)
      refine wpAnyH_take (i := 6) (v := ?_) rfl (by kernel_rfl) (by kernel_rfl) (by kernel_rfl) (fun _ _ _ h => hQp _ _ _ _ h rfl) (Or.inl ⟨by rfl, ?_⟩) hSn12 ?_
      rotate_left
      · intro w hw; clear hw; go_simp; try (with_reducible rfl)
      refine wpAnyH_take (i := 8) (v := ?_) rfl (by kernel_rfl) (by kernel_rfl) (by kernel_rfl) (fun _ _ _ h => hQp _ _ _ _ h rfl) (Or.inl ⟨by rfl, ?_⟩) hSn12 ?_
      rotate_left
      · intro w hw; clear hw; go_simp; try (with_reducible rfl)
      refine wpAnyH_act (a' := ?_) ?_ ?_
      rotate_left
      · go_simp; try (with_reducible rfl)
      refine wpAnyH_ready (rs := [12]) (by kernel_rfl) (by simp) ?_
      refine AllReadyH.cons rfl (fun K hK => ?_) AllReadyH.nil
      obtain ⟨W12, hW12, hBW12, kvW12⟩ := kb2.out W4
      go_simp
      refine hK.out _ _ (hSn12.more hBW12) (fun hSn13 => ?_)
      refine wpAnyH_to (fun wx (h : SWs (W12 :: _) wx) => h.tail) ?_
      replace hSn13 := hSn13.cons
      clear hK K
      refine wpAnyH_act (a' := ?_) ?_ ?_
      rotate_left
      · go_simp; try (with_reducible rfl)
      refine wpAnyH_ready (rs := [13]) (by kernel_rfl) (by simp) ?_
      refine AllReadyH.cons rfl (fun K hK => ?_) AllReadyH.nil
      have c13 := kvW12.out _ (hSn13.at W12 (by simp))
      go_simp
      refine hK.out _ _ hSn13 (fun _ => ?_)
      clear hK K
      refine wpAnyH_act (a' := ?_) ?_ ?_
      rotate_left
      · go_simp; try (with_reducible rfl)
      refine wpAnyH_ready (rs := [14]) (by kernel_rfl) (by simp) ?_
      refine AllReadyH.cons rfl (fun K hK => ?_) AllReadyH.nil
      go_simp
      refine hK.out _ _ hSn13 (fun _ => ?_)
      clear hK K
      refine wpAnyH_act (a' := ?_) ?_ ?_
      rotate_left
      · go_simp; try (with_reducible rfl)
      refine wpAnyH_ready (rs := [44]) (by kernel_rfl) (by simp) ?_
      refine AllReadyH.cons rfl (fun K hK => ?_) AllReadyH.nil
      go_simp
      refine hK.out _ _ hSn13 (fun _ => ?_)
      clear hK K
      refine wpAnyH_act (a' := ?_) ?_ ?_
      rotate_left
      · go_simp; try (with_reducible rfl)
      refine wpAnyH_ready (rs := [45]) (by kernel_rfl) (by simp) ?_
      refine AllReadyH.cons rfl (fun K hK => ?_) AllReadyH.nil
      go_simp
      refine hK.out _ _ hSn13 (fun _ => ?_)
      clear hK K
      refine wpAnyH_done (by kernel_rfl) ?_ _
      have hz := hidden ((hSn13.at WD (by simp)))
      go_wp2
      exact hKK.out _ _ _ _ _ _ _ _ _ _ _ _ _ _ _ _ _ _ _ _ _ _ _ _ _ _ _ _ _ _ _ _ _ _ _ _ _ _ _ _ _ _ _ _ _ _ (hBq.out.trans (hz.out.mono hBq.out.size))
    refine AllReadyH.cons rfl (fun K hK => ?_) ?_
    · obtain ⟨W12, hW12, hBW12, kvW12⟩ := kb2.out W42
      go_simp
      refine hK.out _ _ (hSn11.more hBW12) (fun hSn14 => ?_)
      refine wpAnyH_to (fun wx (h : SWs (W12 :: _) wx) => h.tail) ?_
      replace hSn14 := hSn14.cons
      clear hK K
      refine wpAnyH_take (i := 13) (v := ?_) rfl (by kernel_rfl) (by kernel_rfl) (by kernel_rfl) (fun _ _ _ h => hQp _ _ _ _ h rfl) (Or.inl ⟨by rfl, ?_⟩) hSn14 ?_
      rotate_left
      · intro w hw; have c13 := kvW12.out _ (hw.at W12 (by simp)); clear hw; go_simp; try (with_reducible rfl)
      refine wpAnyH_act (a' := ?_) ?_ ?_
      rotate_left
      · go_simp; try (with_reducible rfl)
      refine wpAnyH_ready (rs := [4]) (by kernel_rfl) (by simp) ?_
      refine AllReadyH.cons rfl (fun K hK => ?_) AllReadyH.nil
      obtain ⟨W4, hW4, hBW4, kvW4⟩ := kb1.out W12
      go_simp
      refine hK.out _ _ (hSn14.more hBW4) (fun hSn15 => ?_)
      refine wpAnyH_to (fun wx (h : SWs (W4 :: _) wx) => h.tail) ?_
      replace hSn15 := hSn15.cons
      clear hK K
      refine wpAnyH_act (a' := ?_) ?_ ?_
      rotate_left
      · go_simp; try (with_reducible rfl)
      refine wpAnyH_ready (rs := [5]) (by kernel_rfl) (by simp) ?_
      refine AllReadyH.cons rfl (fun K hK => ?_) AllReadyH.nil
      have c5 := kvW4.out _ (hSn15.at W4 (by simp))
      go_simp
      refine hK.out _ _ hSn15 (fun _ => ?_)
      clear hK K
      refine wpAnyH_act (a' := ?_) ?_ ?_
      rotate_left
      · go_simp; try (with_reducible rfl)
      refine wpAnyH_ready (rs := [6]) (by kernel_rfl) (by simp) ?_
      refine AllReadyH.cons rfl (fun K hK => ?_) AllReadyH.nil
      go_simp
      refine hK.out _ _ hSn15 (fun _ => ?_)
      clear hK K
      refine wpAnyH_act (a' := ?_) ?_ ?_
      rotate_left
      · go_simp; try (with_reducible rfl)
      refine wpAnyH_ready (rs := [8]) (by kernel_rfl) (by simp) ?_
      refine AllReadyH.cons rfl (fun K hK => ?_) AllReadyH.nil
      go_simp
      refine hK.out _ _ hSn15 (fun _ => ?_)
      clear hK K
      refine wpAnyH_act (a' := ?_) ?_ ?_
      rotate_left
      · go_simp; try (with_reducible rfl)
      refine wpAnyH_ready (rs := [14]) (by kernel_rfl) (by simp) ?_
      refine AllReadyH.cons rfl (fun K hK => ?_) AllReadyH.nil
      go_simp
      refine hK.out _ _ hSn15 (fun _ => ?_)
      clear hK K
      refine wpAnyH_act (a' := ?_) ?_ ?_
      rotate_left
      · go_simp; try (with_reducible rfl)
      refine wpAnyH_ready (rs := [44]) (by kernel_rfl) (by simp) ?_
      refine AllReadyH.cons rfl (fun K hK => ?_) AllReadyH.nil
      go_simp
      refine hK.out _ _ hSn15 (fun _ => ?_)
      clear hK K
      refine wpAnyH_act (a' := ?_) ?_ ?_
      rotate_left
      · go_simp; try (with_reducible rfl)
      refine wpAnyH_ready (rs := [45]) (by kernel_rfl) (by simp) ?_
      refine AllReadyH.cons rfl (fun K hK => ?_) AllReadyH.nil
      go_simp
      refine hK.out _ _ hSn15 (fun _ => ?_)
      clear hK K
      refine wpAnyH_done (by kernel_rfl) ?_ _
      have hz := hidden ((hSn15.at WD (by simp)))
      go_wp2
      exact hKK.out _ _ _ _ _ _ _ _ _ _ _ _ _ _ _ _ _ _ _ _ _ _ _ _ _ _ _ _ _ _ _ _ _ _ _ _ _ _ _ _ _ _ _ _ _ _ (hBq.out.trans (hz.out.mono hBq.out.size))
    exact AllReadyH.nil
  exact AllReadyH.nil
set_option maxHeartbeats 2000000 in
theorem lbytes_calls {w : World} {v : Value} {L : List Rec} (h : RecsAt w v L) (hl : L.length ≤ 125) (hg : ∀ r ∈ L, r.s.length ≤ 27 ∧ r.id < 2147483648) :
    Calls Tryz.prog 21 #[v] w fun e w' => e = .returned (.string (ofBytes (recsL L))) ∧ Below w.heap.size w w' := by
  obtain ⟨va, lc, rfl, hcs⟩ := h
  have hsz : Hid (∀ k, k ≤ L.length → (ofBytes (recsL (L.take k))).size ≤ 4000) := hidden (fun k hk => by
    have : ∀ M : List Rec, (∀ r ∈ M, r.s.length ≤ 27) → (recsL M).length = 32 * M.length := by
      intro M
      induction M with
      | nil => intro _; rfl
      | cons r M ih =>
        intro hM
        rw [recsL, List.length_append, recB_len (hM r (by simp)), ih (fun q hq => hM q (by simp [hq])), List.length_cons]
        omega
    rw [ofB_size, this _ (fun r hr => (hg r (List.mem_of_mem_take hr)).1), List.length_take]
    omega)
  replace hcs := hidden hcs
  replace hg := hidden hg
  go_enter Tryz.func21, Tryz.ntmps21
  go_wp2_with fail
  go_loopg [3, 4] (L.length + 1) (fun gk s q wr => ∃ (k : Nat) (SS : ByteArray), k ≤ L.length ∧ gk = L.length + 1 - k ∧ q = .int .i64 k ∧ s = .string SS ∧ Hid (SS = ofBytes (recsL (L.take k)) ∧ Below w.heap.size w wr))
  case atStart => exact ⟨0, _, by omega, rfl, rfl, rfl, hidden ⟨rfl, Below.refl _ _⟩⟩
  case round =>
    obtain ⟨k, SS, hk, hgk, rfl, rfl, hI⟩ := hrel
    replace hgk := hidden hgk
    by_cases hlt : k < L.length
    · obtain ⟨lb, off, rfl, hlb, hcell⟩ := hcs.out (by rintro rfl; simp at hlt)
      obtain ⟨r, hr⟩ : ∃ r, L[k]? = some r := ⟨_, List.getElem?_eq_getElem hlt⟩
      obtain ⟨c0, c1⟩ := hcell k r hr
      replace c0 := (hI.out.2.cell (p := ⟨lb, off + k * 2, none⟩) hlb).trans c0
      replace c1 := hidden ((hI.out.2.cell (p := ⟨lb, off + k * 2 + 1, none⟩) hlb).trans c1)
      have hgr := hg.out r (List.mem_of_getElem? hr)
      have hSS : SS.size ≤ 4000 := by rw [hI.out.1]; exact hsz.out k hk
      have hkL : (k : Int) < (L.length : Int) := by omega
      have hstep := hidden (show ofBytes (recsL (L.take k)) ++ ofBytes (recB r) = ofBytes (recsL (L.take (k + 1))) by
        rw [ofB_cat, ← recsL_snoc, List.take_add_one, hr]
        rfl)
      clear hcell
      go_upto_region 6 with fail
      refine lbytes_round lb off k L.length lc r wr _ _ _ _ _ _ _ _ _ _ _ _ _ _ SS hkL hgr.1 hgr.2 hSS _ _ _ _ _ _ _ _ _ _ _ _ _ _ _ _ _ _ _ _ _ _ _ _ _ _ _ _ _ _ _ _ _ _ _ _ _ _ _ _ _ _ _ _ _ _ c1 ?qp (hidden ?kk)
      case qp =>
        intro _ a a' _ h e
        cases a
        cases a'
        cases e
        exact h
      case kk =>
        intro y17 y18 y19 y20 y21 y22 y23 y24 y25 y26 y27 y28 y29 y30 y31 y32 y33 y34 y35 y36 y37 y38 y39 y40 y41 y42 y43 y44 y45 y46 y47 y48 y49 y50 y51 y52 y53 y54 y55 y56 y57 y58 y59 y60 y61 w' hB'
        have hE := hidden (show SS ++ ofBytes (recB r) = ofBytes (recsL (L.take (k + 1))) ∧ Below w.heap.size w w' from ⟨by rw [hI.out.1]; exact hstep.out, hI.out.2.trans (hB'.mono hI.out.2.size)⟩)
        clear hI hB'
        generalize SS ++ ofBytes (recB r) = S2 at *
        dsimp only
        go_wp2
        go_roundg (L.length + 1 - (k + 1))
        case measure => rw [hgk.out]; omega
        case rel => exact ⟨k + 1, S2, hlt, rfl, by go_num, rfl, hidden hE.out⟩
    · obtain rfl : k = L.length := by omega
      have hkk : ¬ (L.length : Int) < (L.length : Int) := by omega
      have hE := hI.out
      rw [List.take_length] at hE
      replace hE := hidden hE
      clear hI
      go_wp2
      go_ret
      exact ⟨by rw [← hE.out.1]; rfl, hE.out.2⟩
end Go.Proofs.YtlphgkaojfpepaaGreatDoor
