/- InodeFull. -/
import Derived.Test.YtopegpjkkicjhaaGreatDoorIfA
namespace Go.Proofs.YtopegpjkkicjhaaGreatDoor
open Go.RowKit Go.Extern.Stop Go.Stop Go.Extern Go.Maps Go.Sort Go.Shelf
set_option maxRecDepth 100000

theorem zero_c (m : Nat) (w : World) (n : Nat) (hn : n ≤ 100000) (hm : m < w.heap.size) : BytesC m (w.alloc (.cells (Array.replicate n (.int .u8 0)) 5)) (.slice (some ⟨w.heap.size, 0, none⟩) n n) (List.replicate n 0) := by
  refine ⟨some ⟨w.heap.size, 0, none⟩, n, by rw [List.length_replicate], by rw [List.length_replicate]; exact Nat.le_refl _, by unfold maxLen; omega, fun z hz => by have := List.eq_of_mem_replicate hz; omega, fun e => (by cases e), fun _ => ⟨w.heap.size, 0, rfl, by simp, by omega, fun k hk => ?_⟩⟩
  rw [List.length_replicate] at hk
  rw [Nat.zero_add, cells_new]
  simp [hk, List.getD]
theorem putD_self (zs : List Int) : putD [] zs 0 zs.length = zs := by
  apply List.ext_getElem?
  intro j
  unfold putD
  rw [List.getElem?_map]
  by_cases h : j < zs.length
  · rw [List.getElem?_range h]
    simp [h, List.getD]
  · rw [List.getElem?_eq_none (l := List.range zs.length) (by simp; omega), List.getElem?_eq_none (by omega)]
    rfl
/-- What the last row of the statement keeps. -/
def SFull (mb : Nat) (w14 w wx : World) : Prop := Apart [mb] w14 wx ∧ Below w.heap.size w wx
theorem SFull.mk {mb : Nat} {w14 w wx : World} (h : Apart [mb] w14 wx) (h2 : Below w.heap.size w wx) : SFull mb w14 w wx := ⟨h, h2⟩
theorem SFull.more {mb : Nat} {w14 w wx wy : World} (h : SFull mb w14 w wx) (h2 : Below wx.heap.size wx wy) : SFull mb w14 w wy := ⟨h.1.trans (Apart.of_below h2), h.2.trans (h2.mono h.2.size)⟩
set_option maxHeartbeats 8000000 in
theorem inodeFull_calls (zb zl : Int) (w : World) (hG : Ground w) (hGT0 : GT w) :
    Calls Tryz.prog 4 #[.int .i64 zb, .int .i64 zl] w fun e w' => e = .returned (.bool true) ∧ Below w.heap.size w w' := by
  have hGT := hidden (fun (wx : World) (hx : Below w.heap.size w wx) => GT.below hGT0 hx)
  obtain ⟨B, hB, hBb⟩ : ∃ B : Nat, bits .and .i64 zb 15 = (B : Int) ∧ B ≤ 15 := by
    have : 0 ≤ bits .and .i64 zb 15 ∧ bits .and .i64 zb 15 ≤ 15 := and_low zb 15 (by omega)
    exact ⟨(bits .and .i64 zb 15).toNat, by have := this.1; omega, by omega⟩
  obtain ⟨L, hL, hLb⟩ : ∃ L : Nat, (bits .and .i64 zl 65535).tmod 896 = (L : Int) ∧ L < 896 := by
    have hal : 0 ≤ bits .and .i64 zl 65535 ∧ bits .and .i64 zl 65535 ≤ 65535 := and_low zl 65535 (by omega)
    have e : (bits .and .i64 zl 65535).tmod 896 = bits .and .i64 zl 65535 % 896 := Int.tmod_eq_emod_of_nonneg hal.1
    exact ⟨((bits .and .i64 zl 65535) % 896).toNat, by rw [e]; omega, by omega⟩
  have hB10 : ((B : Int) + 10) = ((B + 10 : Nat) : Int) := by omega
  have kM := hidden (made8_calls w hG (B + 10) (by omega) (by omega))
  rw [← hB10] at kM
  clear hB10
  have kA := hidden (fun (wx : World) (hx : Below w.heap.size w wx) => awake8_calls wx (hG.below hx))
  have kT := hidden (fun (wx : World) => text_calls 5 L (by omega) (by omega) wx)
  have kB := hidden (fun (s : Int) (wx : World) => refblocks_calls s wx)
  clear hG hGT0
  go_enter Tryz.func4, Tryz.ntmps4
  go_wp2_with fail
  refine (kM.out).mono ?_
  rintro ev w1 ⟨jb, cb, mb, ab, tb, rfl, ok, far, hS⟩
  have h1 := s8_new hS
  have kK := hidden (S8.make ok h1 1 (Or.inl rfl) 1 (by omega) (by show 1 ≤ 6; omega) rfl (fun i a b => by omega))
  replace ok := hidden ok
  replace far := hidden far
  clear kM hS h1
  go_wp2_with fail
  refine (kK.out).mono ?_
  rintro ev w2 ⟨rfl, h2, -⟩
  have kK2 := hidden (S8.make ok.out h2 1 (Or.inl rfl) 2 (by omega) (by show 2 ≤ 6; omega) (by simp [upd]) (fun i a b => by have e : i = 1 := (by omega); subst e; simp [upd]))
  clear kK h2
  go_wp2_with fail
  refine (kK2.out).mono ?_
  rintro ev w3 ⟨rfl, h3, -⟩
  have hK1 := hidden (show (upd (upd (fun _ => 0) 1 1) 2 1 : Nat → Nat) 1 ≠ 0 by simp [upd])
  have hK2 := hidden (show (upd (upd (fun _ => 0) 1 1) 2 1 : Nat → Nat) 2 ≠ 0 by simp [upd])
  generalize (upd (upd (fun _ => 0) 1 1) 2 1 : Nat → Nat) = K at *
  have hm3 : mb < w3.heap.size := h3.lts.2.2.2.2.1
  replace h3 := hidden h3
  clear kK2
  go_wp2_with fail
  refine (kT.out _).mono ?_
  rintro ev w4 ⟨rfl, hB4⟩
  have hs4 := hB4.size
  obtain ⟨cap, w5, hcv, hbc, hB5⟩ := bytes_of mb w4 (textL 5 L) (textL_range _ _) (by rw [textL_len]; omega) (by omega)
  have h5 := (h3.out.more hB4).more hB5
  have hW : Hid (Calls Tryz.prog 11 #[ptr tb, .int .i64 1, .int .i64 0, .slice (some ⟨w4.heap.size, 0, none⟩) L cap] w5 fun e w' => e = .returned .nilIface ∧ ∃ (D : Nat → List Int) (F : Nat), D 1 = textL 5 L ∧ D 2 = [] ∧ (F : Int) + blk (L : Int) = (B + 10 : Nat) ∧ S8 (te8 w jb cb mb ab tb (B + 10)) K D F 0 w') := hidden (by
    rw [textL_len] at hbc
    by_cases h0 : L = 0
    · subst h0
      refine (S8.write0 ok.out h5 (id := 1) (by omega) (by show 1 ≤ 6; omega) hK1.out (at_ := 0) (by omega) _ _).mono ?_
      rintro e w' ⟨rfl, hq⟩
      exact ⟨rfl, _, _, rfl, rfl, by simp [blk], hq⟩
    · obtain ⟨n, hn⟩ : ∃ n : Nat, growb 0 (L : Int) = (n : Int) := ⟨(growb 0 (L : Int)).toNat, by have := growb_range 0 (L : Int); omega⟩
      have hn' : (n : Int) = blk (L : Int) := by
        have h00 : blk 0 = 0 := rfl
        have := blk_range (L : Int)
        unfold growb at hn
        rw [h00] at hn
        omega
      have hb10 : blk (L : Int) ≤ 7 := by unfold blk; split <;> (try split) <;> (try split) <;> omega
      refine (S8.write ok.out h5 (id := 1) (by omega) (by show 1 ≤ 6; omega) hK1.out (at_ := 0) (n := n) (S2 := L) hbc (by rw [textL_len]; omega) (by rw [textL_len]; omega) (by rw [textL_len]; simp) hn (by omega)).mono ?_
      rintro e w' ⟨rfl, hq, -⟩
      refine ⟨rfl, _, _, ?_, ?_, ?_, hq⟩
      · rw [upd_same]; have := putD_self (textL 5 L); rw [textL_len] at this; exact this
      · rw [upd_other _ _ (by omega)]
      · omega)
  rw [textL_len] at hcv
  obtain ⟨TX, hTX⟩ : ∃ TX, TX = ofBytes (textL 5 L) := ⟨_, rfl⟩
  have kT2 := kT
  rw [← hTX] at hcv kT2 ⊢
  replace hTX := hidden hTX
  clear hbc hB5 hB4 h5 kT
  go_wp2_with fail
  refine (hW.out).mono ?_
  rintro ev w6 ⟨rfl, D, F, hD1, hD2, hF, h6⟩
  replace hD1 := hidden hD1
  replace hD2 := hidden hD2
  replace h6 := hidden h6
  clear hW h3 hcv
  have kF := hidden (S8.flushz ok.out far.out h6.out (by omega))
  go_wp2_with fail
  refine (kF.out).mono ?_
  rintro ev w7z ⟨rfl, h7z, -⟩
  have kFr := hidden (S8.mfree ok.out h7z.to)
  replace h7z := hidden h7z
  clear kF h6
  go_wp2_with fail
  refine (kFr.out).mono ?_
  rintro ev w7 ⟨rfl, hB7⟩
  have h7 := hidden (h7z.out.more hB7)
  clear kFr hB7 h7z
  have hFb : F ≤ 25 ∧ 3 ≤ F := by
    have hb10 : blk (L : Int) ≤ 7 ∧ 0 ≤ blk (L : Int) := by unfold blk; split <;> (try split) <;> (try split) <;> omega
    omega
  replace hF := hidden hF
  by_cases h8 : 8 < F
  · obtain ⟨MO, hMO⟩ : ∃ MO : Nat, (F : Int) - 1 = (MO : Int) := ⟨F - 1, by omega⟩
    have h8' : (8 : Int) < (F : Int) := by omega
    by_cases h10 : (F : Int) < 10
    · clear h8
      have hbo : (F : Int) < blk (128 * (MO : Int) + 1) := by unfold blk; split <;> (try split) <;> (try split) <;> omega
      have hbk : blk (128 * (MO : Int)) ≤ (F : Int) := by unfold blk; split <;> (try split) <;> (try split) <;> omega
      have ho4 : 128 * (MO : Int) + 1 ≤ 4000 := by omega
      have hbn : ¬ blk (128 * (MO : Int) + 1) ≤ (F : Int) := by omega
      go_wp2_with fail
      refine (kB.out _ w7).mono ?_
      rintro ev w8 ⟨rfl, hw8⟩
      subst w8
      go_wp2_with fail
      refine (kB.out _ w7).mono ?_
      rintro ev w8 ⟨rfl, hw8⟩
      subst w8
      have hMF := hidden hMO
      have hMs : MO ≤ 24 ∧ 8 ≤ MO := by omega
      clear hMO
      replace hbk := hidden hbk
      have hbo' := hbo
      replace hbo := hidden hbo
      have hmk7 : (Instr.makeSlice 34 (.int .i64 (128 * (MO : Int) + 1)) (.int .i64 (128 * (MO : Int) + 1))).run Tryz.prog w7 = .ok (.slice (some ⟨w7.heap.size, 0, none⟩) (128 * MO + 1) (128 * MO + 1)) (w7.alloc (.cells (Array.replicate (128 * MO + 1) (.int .u8 0)) 5)) := by
        have := make_bytes (128 * MO + 1) (by omega) w7
        rw [show ((128 * MO + 1 : Nat) : Int) = 128 * (MO : Int) + 1 by omega] at this
        exact this
      have hB8 : Below w7.heap.size w7 (w7.alloc (.cells (Array.replicate (128 * MO + 1) (.int .u8 0)) 5)) := (Below.refl _ _).alloc (Nat.le_refl _) _
      have hz8 := zero_c mb w7 (128 * MO + 1) (by omega) (by have := h7.out.to.lts.2.2.2.2.1; exact this)
      obtain ⟨n, hn⟩ : ∃ n : Nat, growb ((D 2).length : Nat) ((128 * MO + 1 : Nat) : Int) = (n : Int) := ⟨(growb ((D 2).length : Nat) ((128 * MO + 1 : Nat) : Int)).toNat, by have := growb_range ((D 2).length : Nat) ((128 * MO + 1 : Nat) : Int); omega⟩
      have hnF : F < n := by
        have e := hn
        rw [hD2.out] at e
        unfold growb at e
        have h0 : blk ((([] : List Int).length : Nat) : Int) = 0 := rfl
        rw [h0, show ((128 * MO + 1 : Nat) : Int) = 128 * (MO : Int) + 1 by omega] at e
        have := hbo.out
        omega
      have kF := hidden (S8z.full ok.out (h7.out.more hB8) (id := 2) (by omega) (by show 2 ≤ 6; omega) hK2.out (at_ := 0) (n := n) (S2 := 128 * MO + 1) hz8 (by rw [List.length_replicate]; omega) (by rw [List.length_replicate]; omega) (by rw [hD2.out, List.length_replicate]; simp) hn hnF)
      clear hz8 hn hnF
      generalize w7.alloc (.cells (Array.replicate (128 * MO + 1) (.int .u8 0)) 5) = w8 at *
      go_wp2_with fail
      refine (kF.out).mono ?_
      rintro ev w9 ⟨fb, rfl, hch, h9, hA9⟩
      have kN := hidden (law_num 15 w9 _ _ hch (hGT.out w9 h9.to.below))
      have h9' := hidden h9
      clear kF hch h9 hA9 hmk7 hB8 h7
      go_wp2_with fail
      refine (kN.out).mono ?_
      rintro ev w10 ⟨rfl, hB10⟩
      have h10 := hidden (h9'.out.more hB10)
      clear kN hB10 h9'
      have kD := hidden (S8z.drop ok.out h10.out)
      go_wp2_with fail
      refine (kD.out).mono ?_
      rintro ev w11 ⟨rfl, h11, hA11⟩
      have h11' := hidden h11.to
      clear kD hA11 h11 h10
      have kZ := hidden (S8.size ok.out h11'.out (id := 2) (by omega) (by show 2 ≤ 6; omega) hK2.out)
      rw [hD2.out, show (([] : List Int).length : Nat) = 0 from rfl] at kZ
      go_wp2_with fail
      refine (kZ.out).mono ?_
      rintro ev w12 ⟨rfl, hB12⟩
      have h12 := hidden (h11'.out.more hB12)
      clear kZ hB12 h11'
      have kM2 := hidden (S8.mfree ok.out h12.out)
      go_wp2_with fail
      refine (kM2.out).mono ?_
      rintro ev w13 ⟨rfl, hB13⟩
      have h13 := hidden (h12.out.more hB13)
      clear kM2 hB13 h12
      have hmin : min (128 * (MO : Int)) 4000 = 128 * (MO : Int) := by omega
      have hmin2 : (128 * (MO : Int)) ≤ 4000 := by omega
      go_wp2_with fail
      go_loopg [20] 1 (fun gk q wr => gk = 1 ∧ q = .int .i64 (128 * (MO : Int)) ∧ wr = w13)
      case atStart => exact ⟨rfl, rfl, rfl⟩
      case round =>
        obtain ⟨-, rfl, hw⟩ := hrel
        subst wr
        have hbk' := hbk.out
        go_wp2_with fail
        refine (kB.out _ w13).mono ?_
        rintro ev wq ⟨rfl, hwq⟩
        subst wq
        have kR := S8.read ok.out h13.out (id := 1) (by omega) (by show 1 ≤ 6; omega) hK1.out 0 2000 (by omega) (by omega)
        rw [hD1.out, List.drop_zero, List.take_of_length_le (by rw [textL_len]; omega)] at kR
        replace kR := hidden kR
        go_wp2_with fail
        refine (kR.out).mono ?_
        rintro ev w14 ⟨v, rfl, hV, hB14⟩
        have h14 := hidden (h13.out.more hB14)
        have hVC := hidden (hV.toC (m := mb) (by have := h13.out.lts.2.2.2.2.1; exact this))
        have kC := hidden (fun (wx : World) (hx : Apart [mb] w14 wx) => (by rw [hTX.out]; exact conv_bytes _ _ _ (hVC.out.keep hx).at : (convert 34 9 v).run Tryz.prog wx = .ok (.string TX) wx))
        have hmk : ∀ wx, (Instr.makeSlice 34 (.int .i64 (128 * (MO : Int))) (.int .i64 (128 * (MO : Int)))).run Tryz.prog wx = .ok (.slice (some ⟨wx.heap.size, 0, none⟩) (128 * MO) (128 * MO)) (wx.alloc (.cells (Array.replicate (128 * MO) (.int .u8 0)) 5)) := fun wx => by
          have := make_bytes (128 * MO) (by omega) wx
          rw [show ((128 * MO : Nat) : Int) = 128 * (MO : Int) by omega] at this
          exact this
        have kW := hidden ((by
          have hB8 : Below w14.heap.size w14 (w14.alloc (.cells (Array.replicate (128 * MO) (.int .u8 0)) 5)).drew := ((Below.refl _ _).alloc (Nat.le_refl _) _).drew
          have h14x := h14.out
          have hz8 := (zero_c mb w14 (128 * MO) (by omega) (by have := h14x.lts.2.2.2.2.1; exact this)).keep (Apart.of_below (bs := [mb]) (below_drew1 _))
          obtain ⟨n, hn⟩ : ∃ n : Nat, growb ((D 2).length : Nat) ((128 * MO : Nat) : Int) = (n : Int) := ⟨(growb ((D 2).length : Nat) ((128 * MO : Nat) : Int)).toNat, by have := growb_range ((D 2).length : Nat) ((128 * MO : Nat) : Int); omega⟩
          have hnF : n ≤ F := by
            have e := hn
            rw [hD2.out] at e
            unfold growb at e
            have h0 : blk ((([] : List Int).length : Nat) : Int) = 0 := rfl
            rw [h0, show ((128 * MO : Nat) : Int) = 128 * (MO : Int) by omega] at e
            have := hbk.out
            have := hFb
            omega
          refine (S8.write ok.out (h14x.more hB8) (id := 2) (by omega) (by show 2 ≤ 6; omega) hK2.out (at_ := 0) (n := n) (S2 := 128 * MO) hz8 (by rw [List.length_replicate]; omega) (by rw [List.length_replicate]; omega) (by rw [hD2.out, List.length_replicate]; simp) hn hnF).mono ?_
          rintro e w' ⟨rfl, hq, hqA⟩
          have hq1 : Apart [mb] (w14.alloc (.cells (Array.replicate (128 * MO) (.int .u8 0)) 5)).drew w' := hqA
          exact ⟨rfl, (Apart.of_below hB8).trans hq1, hq.below⟩ : Calls Tryz.prog 11 #[ptr tb, .int .i64 2, .int .i64 0, .slice (some ⟨w14.heap.size, 0, none⟩) (128 * MO) (128 * MO)] (w14.alloc (.cells (Array.replicate (128 * MO) (.int .u8 0)) 5)).drew fun e w' => e = .returned .nilIface ∧ Apart [mb] w14 w' ∧ Below w.heap.size w w'))
        have hmax : max (128 * (MO : Int)) 0 = 128 * (MO : Int) := by omega
        have hmax2 : (0 : Int) ≤ 128 * (MO : Int) := by omega
        have hB0 := hidden h14.out.below
        clear kR hV hB14 h13 hVC h14 hbk'
        go_wp2_with fail
        have hS0 : SFull mb w14 w w14.drew := SFull.mk (Apart.of_below (below_drew1 _)) (hB0.out.drew)
        have hBa : Below w14.heap.size w14 (w14.alloc (.cells (Array.replicate (128 * MO) (.int .u8 0)) 5)).drew := ((Below.refl _ _).alloc (Nat.le_refl _) _).drew
        have hS1 : SFull mb w14 w (w14.alloc (.cells (Array.replicate (128 * MO) (.int .u8 0)) 5)).drew := SFull.mk (Apart.of_below hBa) (hB0.out.trans (hBa.mono hB0.out.size))
        clear hBa
        refine wp_region_held_drew (S := SFull mb w14 w) (by kernel_rfl) hS0 ?_
        intro _
        refine wpAnyH_take (i := 0) (v := ?_) rfl (by kernel_rfl) (by kernel_rfl) (by kernel_rfl) (fun _ _ _ h => h) (Or.inl ⟨by rfl, ?_⟩) hS0 ?_
        rotate_left
        · intro w hw; clear hw; go_simp; try (with_reducible rfl)
        refine wpAnyH_take (i := 1) (v := ?_) rfl (by kernel_rfl) (by kernel_rfl) (by kernel_rfl) (fun _ _ _ h => h) (Or.inl ⟨by rfl, ?_⟩) hS0 ?_
        rotate_left
        · intro w hw; clear hw; go_simp; try (with_reducible rfl)
        refine wpAnyH_ready (rs := [2]) (by kernel_rfl) (by simp) ?_
        refine AllReadyH.cons rfl (fun K hK => ?_) AllReadyH.nil
        go_simp
        refine hK.out _ _ hS0 (fun _ => ?_)
        clear hK K
        refine wpAnyH_ready (rs := [3]) (by kernel_rfl) (by simp) ?_
        refine AllReadyH.cons rfl (fun K hK => ?_) AllReadyH.nil
        go_simp
        refine hK.out _ _ hS0 (fun _ => ?_)
        clear hK K
        refine wpAnyH_ready (rs := [4]) (by kernel_rfl) (by simp) ?_
        refine AllReadyH.cons rfl (fun K hK => ?_) AllReadyH.nil
        have hmk1 := hmk w14.drew
        go_simp
        refine hK.out _ _ (hS1) (fun hSn1 => ?_)
        clear hmk1
        clear hK K
        refine wpAnyH_ready (rs := [5]) (by kernel_rfl) (by simp) ?_
        refine AllReadyH.cons rfl (fun K hK => ?_) AllReadyH.nil
        go_simp
        go_wp2_with (go_at_call 11; refine (kW.out).mono ?_; rintro ev w15 ⟨rfl, hA15, hB15⟩)
        refine hK.out _ _ (SFull.mk hA15 hB15) (fun hSn2 => ?_)
        clear hK K
        refine wpAnyH_ready (rs := [6]) (by kernel_rfl) (by simp) ?_
        refine AllReadyH.cons rfl (fun K hK => ?_) AllReadyH.nil
        go_simp
        refine hK.out _ _ hSn2 (fun _ => ?_)
        clear hK K
        refine wpAnyH_ready (rs := [7]) (by kernel_rfl) (by simp) ?_
        refine AllReadyH.cons rfl (fun K hK => ?_) AllReadyH.nil
        go_simp
        refine hK.out _ _ hSn2 (fun _ => ?_)
        clear hK K
        refine wpAnyH_ready (rs := [8]) (by kernel_rfl) (by simp) ?_
        refine AllReadyH.cons rfl (fun K hK => ?_) AllReadyH.nil
        go_simp
        refine hK.out _ _ hSn2 (fun _ => ?_)
        clear hK K
        refine wpAnyH_ready (rs := [9]) (by kernel_rfl) (by simp) ?_
        refine AllReadyH.cons rfl (fun K hK => ?_) AllReadyH.nil
        go_simp
        refine hK.out _ _ hSn2 (fun _ => ?_)
        clear hK K
        refine wpAnyH_ready (rs := [10]) (by kernel_rfl) (by simp) ?_
        refine AllReadyH.cons rfl (fun K hK => ?_) AllReadyH.nil
        go_simp
        refine hK.out _ _ hSn2 (fun _ => ?_)
        clear hK K
        refine wpAnyH_ready (rs := [11]) (by kernel_rfl) (by simp) ?_
        refine AllReadyH.cons rfl (fun K hK => ?_) AllReadyH.nil
        go_simp
        refine hK.out _ _ hSn2 (fun _ => ?_)
        clear hK K
        refine wpAnyH_take (i := 12) (v := ?_) rfl (by kernel_rfl) (by kernel_rfl) (by kernel_rfl) (fun _ _ _ h => h) (Or.inl ⟨by rfl, ?_⟩) hSn2 ?_
        rotate_left
        · intro w hw; clear hw; go_simp; try (with_reducible rfl)
        refine wpAnyH_take (i := 13) (v := ?_) rfl (by kernel_rfl) (by kernel_rfl) (by kernel_rfl) (fun _ _ _ h => h) (Or.inl ⟨by rfl, ?_⟩) hSn2 ?_
        rotate_left
        · intro w hw; have c0 := kC.out _ (hw).1; clear hw; go_simp; try (with_reducible rfl)
        refine wpAnyH_ready (rs := [14]) (by kernel_rfl) (by simp) ?_
        refine AllReadyH.cons rfl (fun K hK => ?_) AllReadyH.nil
        go_simp
        refine hK.out _ _ hSn2 (fun _ => ?_)
        clear hK K
        refine wpAnyH_ready (rs := [15]) (by kernel_rfl) (by simp) ?_
        refine AllReadyH.cons rfl (fun K hK => ?_) AllReadyH.nil
        go_simp
        go_wp2_with (go_at_call 12; refine (kT2.out _).mono ?_; rintro ev w16 ⟨rfl, hB16⟩)
        refine hK.out _ _ (SFull.more hSn2 hB16) (fun hSn3 => ?_)
        clear hK K
        refine wpAnyH_ready (rs := [16]) (by kernel_rfl) (by simp) ?_
        refine AllReadyH.cons rfl (fun K hK => ?_) AllReadyH.nil
        go_simp
        refine hK.out _ _ hSn3 (fun _ => ?_)
        clear hK K
        refine wpAnyH_ready (rs := [17]) (by kernel_rfl) (by simp) ?_
        refine AllReadyH.cons rfl (fun K hK => ?_) AllReadyH.nil
        go_simp
        refine hK.out _ _ hSn3 (fun _ => ?_)
        clear hK K
        refine wpAnyH_ready (rs := [18]) (by kernel_rfl) (by simp) ?_
        refine AllReadyH.cons rfl (fun K hK => ?_) AllReadyH.nil
        go_simp
        refine hK.out _ _ hSn3 (fun _ => ?_)
        clear hK K
        refine wpAnyH_ready (rs := [19]) (by kernel_rfl) (by simp) ?_
        refine AllReadyH.cons rfl (fun K hK => ?_) AllReadyH.nil
        go_simp
        go_wp2_with (go_at_call 20; refine (kA.out _ (hSn3).2).mono ?_; rintro ev w17 ⟨rfl, hB17⟩)
        refine hK.out _ _ (SFull.more hSn3 hB17) (fun hSn4 => ?_)
        clear hK K
        refine wpAnyH_ready (rs := [20]) (by kernel_rfl) (by simp) ?_
        refine AllReadyH.cons rfl (fun K hK => ?_) AllReadyH.nil
        go_simp
        refine hK.out _ _ hSn4 (fun _ => ?_)
        clear hK K
        refine wpAnyH_ready (rs := [21]) (by kernel_rfl) (by simp) ?_
        refine AllReadyH.cons rfl (fun K hK => ?_) AllReadyH.nil
        go_simp
        refine hK.out _ _ hSn4 (fun _ => ?_)
        clear hK K
        refine wpAnyH_done (by kernel_rfl) ?_ _
        have hz := hidden hSn4
        go_wp2
        go_ret
        exact ⟨rfl, hz.out.2⟩
    · clear h8
      have hbo : (F : Int) < blk (128 * (MO : Int) + 1) := by unfold blk; split <;> (try split) <;> (try split) <;> omega
      have hbk : blk (128 * (MO : Int)) ≤ (F : Int) := by unfold blk; split <;> (try split) <;> (try split) <;> omega
      have ho4 : 128 * (MO : Int) + 1 ≤ 4000 := by omega
      go_wp2_with fail
      refine (kB.out _ w7).mono ?_
      rintro ev w8 ⟨rfl, hw8⟩
      subst w8
      have hMF := hidden hMO
      have hMs : MO ≤ 24 ∧ 8 ≤ MO := by omega
      clear hMO
      replace hbk := hidden hbk
      have hbo' := hbo
      replace hbo := hidden hbo
      have hmk7 : (Instr.makeSlice 34 (.int .i64 (128 * (MO : Int) + 1)) (.int .i64 (128 * (MO : Int) + 1))).run Tryz.prog w7 = .ok (.slice (some ⟨w7.heap.size, 0, none⟩) (128 * MO + 1) (128 * MO + 1)) (w7.alloc (.cells (Array.replicate (128 * MO + 1) (.int .u8 0)) 5)) := by
        have := make_bytes (128 * MO + 1) (by omega) w7
        rw [show ((128 * MO + 1 : Nat) : Int) = 128 * (MO : Int) + 1 by omega] at this
        exact this
      have hB8 : Below w7.heap.size w7 (w7.alloc (.cells (Array.replicate (128 * MO + 1) (.int .u8 0)) 5)) := (Below.refl _ _).alloc (Nat.le_refl _) _
      have hz8 := zero_c mb w7 (128 * MO + 1) (by omega) (by have := h7.out.to.lts.2.2.2.2.1; exact this)
      obtain ⟨n, hn⟩ : ∃ n : Nat, growb ((D 2).length : Nat) ((128 * MO + 1 : Nat) : Int) = (n : Int) := ⟨(growb ((D 2).length : Nat) ((128 * MO + 1 : Nat) : Int)).toNat, by have := growb_range ((D 2).length : Nat) ((128 * MO + 1 : Nat) : Int); omega⟩
      have hnF : F < n := by
        have e := hn
        rw [hD2.out] at e
        unfold growb at e
        have h0 : blk ((([] : List Int).length : Nat) : Int) = 0 := rfl
        rw [h0, show ((128 * MO + 1 : Nat) : Int) = 128 * (MO : Int) + 1 by omega] at e
        have := hbo.out
        omega
      have kF := hidden (S8z.full ok.out (h7.out.more hB8) (id := 2) (by omega) (by show 2 ≤ 6; omega) hK2.out (at_ := 0) (n := n) (S2 := 128 * MO + 1) hz8 (by rw [List.length_replicate]; omega) (by rw [List.length_replicate]; omega) (by rw [hD2.out, List.length_replicate]; simp) hn hnF)
      clear hz8 hn hnF
      generalize w7.alloc (.cells (Array.replicate (128 * MO + 1) (.int .u8 0)) 5) = w8 at *
      go_wp2_with fail
      refine (kF.out).mono ?_
      rintro ev w9 ⟨fb, rfl, hch, h9, hA9⟩
      have kN := hidden (law_num 15 w9 _ _ hch (hGT.out w9 h9.to.below))
      have h9' := hidden h9
      clear kF hch h9 hA9 hmk7 hB8 h7
      go_wp2_with fail
      refine (kN.out).mono ?_
      rintro ev w10 ⟨rfl, hB10⟩
      have h10 := hidden (h9'.out.more hB10)
      clear kN hB10 h9'
      have kD := hidden (S8z.drop ok.out h10.out)
      go_wp2_with fail
      refine (kD.out).mono ?_
      rintro ev w11 ⟨rfl, h11, hA11⟩
      have h11' := hidden h11.to
      clear kD hA11 h11 h10
      have kZ := hidden (S8.size ok.out h11'.out (id := 2) (by omega) (by show 2 ≤ 6; omega) hK2.out)
      rw [hD2.out, show (([] : List Int).length : Nat) = 0 from rfl] at kZ
      go_wp2_with fail
      refine (kZ.out).mono ?_
      rintro ev w12 ⟨rfl, hB12⟩
      have h12 := hidden (h11'.out.more hB12)
      clear kZ hB12 h11'
      have kM2 := hidden (S8.mfree ok.out h12.out)
      go_wp2_with fail
      refine (kM2.out).mono ?_
      rintro ev w13 ⟨rfl, hB13⟩
      have h13 := hidden (h12.out.more hB13)
      clear kM2 hB13 h12
      have hmin : min (128 * (MO : Int)) 4000 = 128 * (MO : Int) := by omega
      have hmin2 : (128 * (MO : Int)) ≤ 4000 := by omega
      go_wp2_with fail
      go_loopg [20] 1 (fun gk q wr => gk = 1 ∧ q = .int .i64 (128 * (MO : Int)) ∧ wr = w13)
      case atStart => exact ⟨rfl, rfl, rfl⟩
      case round =>
        obtain ⟨-, rfl, hw⟩ := hrel
        subst wr
        have hbk' := hbk.out
        go_wp2_with fail
        refine (kB.out _ w13).mono ?_
        rintro ev wq ⟨rfl, hwq⟩
        subst wq
        have kR := S8.read ok.out h13.out (id := 1) (by omega) (by show 1 ≤ 6; omega) hK1.out 0 2000 (by omega) (by omega)
        rw [hD1.out, List.drop_zero, List.take_of_length_le (by rw [textL_len]; omega)] at kR
        replace kR := hidden kR
        go_wp2_with fail
        refine (kR.out).mono ?_
        rintro ev w14 ⟨v, rfl, hV, hB14⟩
        have h14 := hidden (h13.out.more hB14)
        have hVC := hidden (hV.toC (m := mb) (by have := h13.out.lts.2.2.2.2.1; exact this))
        have kC := hidden (fun (wx : World) (hx : Apart [mb] w14 wx) => (by rw [hTX.out]; exact conv_bytes _ _ _ (hVC.out.keep hx).at : (convert 34 9 v).run Tryz.prog wx = .ok (.string TX) wx))
        have hmk : ∀ wx, (Instr.makeSlice 34 (.int .i64 (128 * (MO : Int))) (.int .i64 (128 * (MO : Int)))).run Tryz.prog wx = .ok (.slice (some ⟨wx.heap.size, 0, none⟩) (128 * MO) (128 * MO)) (wx.alloc (.cells (Array.replicate (128 * MO) (.int .u8 0)) 5)) := fun wx => by
          have := make_bytes (128 * MO) (by omega) wx
          rw [show ((128 * MO : Nat) : Int) = 128 * (MO : Int) by omega] at this
          exact this
        have kW := hidden ((by
          have hB8 : Below w14.heap.size w14 (w14.alloc (.cells (Array.replicate (128 * MO) (.int .u8 0)) 5)).drew := ((Below.refl _ _).alloc (Nat.le_refl _) _).drew
          have h14x := h14.out
          have hz8 := (zero_c mb w14 (128 * MO) (by omega) (by have := h14x.lts.2.2.2.2.1; exact this)).keep (Apart.of_below (bs := [mb]) (below_drew1 _))
          obtain ⟨n, hn⟩ : ∃ n : Nat, growb ((D 2).length : Nat) ((128 * MO : Nat) : Int) = (n : Int) := ⟨(growb ((D 2).length : Nat) ((128 * MO : Nat) : Int)).toNat, by have := growb_range ((D 2).length : Nat) ((128 * MO : Nat) : Int); omega⟩
          have hnF : n ≤ F := by
            have e := hn
            rw [hD2.out] at e
            unfold growb at e
            have h0 : blk ((([] : List Int).length : Nat) : Int) = 0 := rfl
            rw [h0, show ((128 * MO : Nat) : Int) = 128 * (MO : Int) by omega] at e
            have := hbk.out
            have := hFb
            omega
          refine (S8.write ok.out (h14x.more hB8) (id := 2) (by omega) (by show 2 ≤ 6; omega) hK2.out (at_ := 0) (n := n) (S2 := 128 * MO) hz8 (by rw [List.length_replicate]; omega) (by rw [List.length_replicate]; omega) (by rw [hD2.out, List.length_replicate]; simp) hn hnF).mono ?_
          rintro e w' ⟨rfl, hq, hqA⟩
          have hq1 : Apart [mb] (w14.alloc (.cells (Array.replicate (128 * MO) (.int .u8 0)) 5)).drew w' := hqA
          exact ⟨rfl, (Apart.of_below hB8).trans hq1, hq.below⟩ : Calls Tryz.prog 11 #[ptr tb, .int .i64 2, .int .i64 0, .slice (some ⟨w14.heap.size, 0, none⟩) (128 * MO) (128 * MO)] (w14.alloc (.cells (Array.replicate (128 * MO) (.int .u8 0)) 5)).drew fun e w' => e = .returned .nilIface ∧ Apart [mb] w14 w' ∧ Below w.heap.size w w'))
        have hmax : max (128 * (MO : Int)) 0 = 128 * (MO : Int) := by omega
        have hmax2 : (0 : Int) ≤ 128 * (MO : Int) := by omega
        have hB0 := hidden h14.out.below
        clear kR hV hB14 h13 hVC h14 hbk'
        go_wp2_with fail
        have hS0 : SFull mb w14 w w14.drew := SFull.mk (Apart.of_below (below_drew1 _)) (hB0.out.drew)
        have hBa : Below w14.heap.size w14 (w14.alloc (.cells (Array.replicate (128 * MO) (.int .u8 0)) 5)).drew := ((Below.refl _ _).alloc (Nat.le_refl _) _).drew
        have hS1 : SFull mb w14 w (w14.alloc (.cells (Array.replicate (128 * MO) (.int .u8 0)) 5)).drew := SFull.mk (Apart.of_below hBa) (hB0.out.trans (hBa.mono hB0.out.size))
        clear hBa
        refine wp_region_held_drew (S := SFull mb w14 w) (by kernel_rfl) hS0 ?_
        intro _
        refine wpAnyH_take (i := 0) (v := ?_) rfl (by kernel_rfl) (by kernel_rfl) (by kernel_rfl) (fun _ _ _ h => h) (Or.inl ⟨by rfl, ?_⟩) hS0 ?_
        rotate_left
        · intro w hw; clear hw; go_simp; try (with_reducible rfl)
        refine wpAnyH_take (i := 1) (v := ?_) rfl (by kernel_rfl) (by kernel_rfl) (by kernel_rfl) (fun _ _ _ h => h) (Or.inl ⟨by rfl, ?_⟩) hS0 ?_
        rotate_left
        · intro w hw; clear hw; go_simp; try (with_reducible rfl)
        refine wpAnyH_ready (rs := [2]) (by kernel_rfl) (by simp) ?_
        refine AllReadyH.cons rfl (fun K hK => ?_) AllReadyH.nil
        go_simp
        refine hK.out _ _ hS0 (fun _ => ?_)
        clear hK K
        refine wpAnyH_ready (rs := [3]) (by kernel_rfl) (by simp) ?_
        refine AllReadyH.cons rfl (fun K hK => ?_) AllReadyH.nil
        go_simp
        refine hK.out _ _ hS0 (fun _ => ?_)
        clear hK K
        refine wpAnyH_ready (rs := [4]) (by kernel_rfl) (by simp) ?_
        refine AllReadyH.cons rfl (fun K hK => ?_) AllReadyH.nil
        have hmk1 := hmk w14.drew
        go_simp
        refine hK.out _ _ (hS1) (fun hSn1 => ?_)
        clear hmk1
        clear hK K
        refine wpAnyH_ready (rs := [5]) (by kernel_rfl) (by simp) ?_
        refine AllReadyH.cons rfl (fun K hK => ?_) AllReadyH.nil
        go_simp
        go_wp2_with (go_at_call 11; refine (kW.out).mono ?_; rintro ev w15 ⟨rfl, hA15, hB15⟩)
        refine hK.out _ _ (SFull.mk hA15 hB15) (fun hSn2 => ?_)
        clear hK K
        refine wpAnyH_ready (rs := [6]) (by kernel_rfl) (by simp) ?_
        refine AllReadyH.cons rfl (fun K hK => ?_) AllReadyH.nil
        go_simp
        refine hK.out _ _ hSn2 (fun _ => ?_)
        clear hK K
        refine wpAnyH_ready (rs := [7]) (by kernel_rfl) (by simp) ?_
        refine AllReadyH.cons rfl (fun K hK => ?_) AllReadyH.nil
        go_simp
        refine hK.out _ _ hSn2 (fun _ => ?_)
        clear hK K
        refine wpAnyH_ready (rs := [8]) (by kernel_rfl) (by simp) ?_
        refine AllReadyH.cons rfl (fun K hK => ?_) AllReadyH.nil
        go_simp
        refine hK.out _ _ hSn2 (fun _ => ?_)
        clear hK K
        refine wpAnyH_ready (rs := [9]) (by kernel_rfl) (by simp) ?_
        refine AllReadyH.cons rfl (fun K hK => ?_) AllReadyH.nil
        go_simp
        refine hK.out _ _ hSn2 (fun _ => ?_)
        clear hK K
        refine wpAnyH_ready (rs := [10]) (by kernel_rfl) (by simp) ?_
        refine AllReadyH.cons rfl (fun K hK => ?_) AllReadyH.nil
        go_simp
        refine hK.out _ _ hSn2 (fun _ => ?_)
        clear hK K
        refine wpAnyH_ready (rs := [11]) (by kernel_rfl) (by simp) ?_
        refine AllReadyH.cons rfl (fun K hK => ?_) AllReadyH.nil
        go_simp
        refine hK.out _ _ hSn2 (fun _ => ?_)
        clear hK K
        refine wpAnyH_take (i := 12) (v := ?_) rfl (by kernel_rfl) (by kernel_rfl) (by kernel_rfl) (fun _ _ _ h => h) (Or.inl ⟨by rfl, ?_⟩) hSn2 ?_
        rotate_left
        · intro w hw; clear hw; go_simp; try (with_reducible rfl)
        refine wpAnyH_take (i := 13) (v := ?_) rfl (by kernel_rfl) (by kernel_rfl) (by kernel_rfl) (fun _ _ _ h => h) (Or.inl ⟨by rfl, ?_⟩) hSn2 ?_
        rotate_left
        · intro w hw; have c0 := kC.out _ (hw).1; clear hw; go_simp; try (with_reducible rfl)
        refine wpAnyH_ready (rs := [14]) (by kernel_rfl) (by simp) ?_
        refine AllReadyH.cons rfl (fun K hK => ?_) AllReadyH.nil
        go_simp
        refine hK.out _ _ hSn2 (fun _ => ?_)
        clear hK K
        refine wpAnyH_ready (rs := [15]) (by kernel_rfl) (by simp) ?_
        refine AllReadyH.cons rfl (fun K hK => ?_) AllReadyH.nil
        go_simp
        go_wp2_with (go_at_call 12; refine (kT2.out _).mono ?_; rintro ev w16 ⟨rfl, hB16⟩)
        refine hK.out _ _ (SFull.more hSn2 hB16) (fun hSn3 => ?_)
        clear hK K
        refine wpAnyH_ready (rs := [16]) (by kernel_rfl) (by simp) ?_
        refine AllReadyH.cons rfl (fun K hK => ?_) AllReadyH.nil
        go_simp
        refine hK.out _ _ hSn3 (fun _ => ?_)
        clear hK K
        refine wpAnyH_ready (rs := [17]) (by kernel_rfl) (by simp) ?_
        refine AllReadyH.cons rfl (fun K hK => ?_) AllReadyH.nil
        go_simp
        refine hK.out _ _ hSn3 (fun _ => ?_)
        clear hK K
        refine wpAnyH_ready (rs := [18]) (by kernel_rfl) (by simp) ?_
        refine AllReadyH.cons rfl (fun K hK => ?_) AllReadyH.nil
        go_simp
        refine hK.out _ _ hSn3 (fun _ => ?_)
        clear hK K
        refine wpAnyH_ready (rs := [19]) (by kernel_rfl) (by simp) ?_
        refine AllReadyH.cons rfl (fun K hK => ?_) AllReadyH.nil
        go_simp
        go_wp2_with (go_at_call 20; refine (kA.out _ (hSn3).2).mono ?_; rintro ev w17 ⟨rfl, hB17⟩)
        refine hK.out _ _ (SFull.more hSn3 hB17) (fun hSn4 => ?_)
        clear hK K
        refine wpAnyH_ready (rs := [20]) (by kernel_rfl) (by simp) ?_
        refine AllReadyH.cons rfl (fun K hK => ?_) AllReadyH.nil
        go_simp
        refine hK.out _ _ hSn4 (fun _ => ?_)
        clear hK K
        refine wpAnyH_ready (rs := [21]) (by kernel_rfl) (by simp) ?_
        refine AllReadyH.cons rfl (fun K hK => ?_) AllReadyH.nil
        go_simp
        refine hK.out _ _ hSn4 (fun _ => ?_)
        clear hK K
        refine wpAnyH_done (by kernel_rfl) ?_ _
        have hz := hidden hSn4
        go_wp2
        go_ret
        exact ⟨rfl, hz.out.2⟩
  · have h8' : ¬ (8 : Int) < (F : Int) := by omega
    have hbo : (F : Int) < blk (128 * (F : Int) + 1) := by unfold blk; split <;> (try split) <;> (try split) <;> omega
    have hbk : blk (128 * (F : Int)) ≤ (F : Int) := by unfold blk; split <;> (try split) <;> (try split) <;> omega
    have ho4 : 128 * (F : Int) + 1 ≤ 4000 := by omega
    go_wp2_with fail
    refine (kB.out _ w7).mono ?_
    rintro ev w8 ⟨rfl, hw8⟩
    subst w8
    replace hbk := hidden hbk
    have hbo' := hbo
    replace hbo := hidden hbo
    have hmk7 : (Instr.makeSlice 34 (.int .i64 (128 * (F : Int) + 1)) (.int .i64 (128 * (F : Int) + 1))).run Tryz.prog w7 = .ok (.slice (some ⟨w7.heap.size, 0, none⟩) (128 * F + 1) (128 * F + 1)) (w7.alloc (.cells (Array.replicate (128 * F + 1) (.int .u8 0)) 5)) := by
      have := make_bytes (128 * F + 1) (by omega) w7
      rw [show ((128 * F + 1 : Nat) : Int) = 128 * (F : Int) + 1 by omega] at this
      exact this
    have hB8 : Below w7.heap.size w7 (w7.alloc (.cells (Array.replicate (128 * F + 1) (.int .u8 0)) 5)) := (Below.refl _ _).alloc (Nat.le_refl _) _
    have hz8 := zero_c mb w7 (128 * F + 1) (by omega) (by have := h7.out.to.lts.2.2.2.2.1; exact this)
    obtain ⟨n, hn⟩ : ∃ n : Nat, growb ((D 2).length : Nat) ((128 * F + 1 : Nat) : Int) = (n : Int) := ⟨(growb ((D 2).length : Nat) ((128 * F + 1 : Nat) : Int)).toNat, by have := growb_range ((D 2).length : Nat) ((128 * F + 1 : Nat) : Int); omega⟩
    have hnF : F < n := by
      have e := hn
      rw [hD2.out] at e
      unfold growb at e
      have h0 : blk ((([] : List Int).length : Nat) : Int) = 0 := rfl
      rw [h0, show ((128 * F + 1 : Nat) : Int) = 128 * (F : Int) + 1 by omega] at e
      have := hbo.out
      omega
    have kF := hidden (S8z.full ok.out (h7.out.more hB8) (id := 2) (by omega) (by show 2 ≤ 6; omega) hK2.out (at_ := 0) (n := n) (S2 := 128 * F + 1) hz8 (by rw [List.length_replicate]; omega) (by rw [List.length_replicate]; omega) (by rw [hD2.out, List.length_replicate]; simp) hn hnF)
    clear hz8 hn hnF
    generalize w7.alloc (.cells (Array.replicate (128 * F + 1) (.int .u8 0)) 5) = w8 at *
    go_wp2_with fail
    refine (kF.out).mono ?_
    rintro ev w9 ⟨fb, rfl, hch, h9, hA9⟩
    have kN := hidden (law_num 15 w9 _ _ hch (hGT.out w9 h9.to.below))
    have h9' := hidden h9
    clear kF hch h9 hA9 hmk7 hB8 h7
    go_wp2_with fail
    refine (kN.out).mono ?_
    rintro ev w10 ⟨rfl, hB10⟩
    have h10 := hidden (h9'.out.more hB10)
    clear kN hB10 h9'
    have kD := hidden (S8z.drop ok.out h10.out)
    go_wp2_with fail
    refine (kD.out).mono ?_
    rintro ev w11 ⟨rfl, h11, hA11⟩
    have h11' := hidden h11.to
    clear kD hA11 h11 h10
    have kZ := hidden (S8.size ok.out h11'.out (id := 2) (by omega) (by show 2 ≤ 6; omega) hK2.out)
    rw [hD2.out, show (([] : List Int).length : Nat) = 0 from rfl] at kZ
    go_wp2_with fail
    refine (kZ.out).mono ?_
    rintro ev w12 ⟨rfl, hB12⟩
    have h12 := hidden (h11'.out.more hB12)
    clear kZ hB12 h11'
    have kM2 := hidden (S8.mfree ok.out h12.out)
    go_wp2_with fail
    refine (kM2.out).mono ?_
    rintro ev w13 ⟨rfl, hB13⟩
    have h13 := hidden (h12.out.more hB13)
    clear kM2 hB13 h12
    have hmin : min (128 * (F : Int)) 4000 = 128 * (F : Int) := by omega
    have hmin2 : (128 * (F : Int)) ≤ 4000 := by omega
    go_wp2_with fail
    go_loopg [20] 1 (fun gk q wr => gk = 1 ∧ q = .int .i64 (128 * (F : Int)) ∧ wr = w13)
    case atStart => exact ⟨rfl, rfl, rfl⟩
    case round =>
      obtain ⟨-, rfl, hw⟩ := hrel
      subst wr
      have hbk' := hbk.out
      go_wp2_with fail
      refine (kB.out _ w13).mono ?_
      rintro ev wq ⟨rfl, hwq⟩
      subst wq
      have kR := S8.read ok.out h13.out (id := 1) (by omega) (by show 1 ≤ 6; omega) hK1.out 0 2000 (by omega) (by omega)
      rw [hD1.out, List.drop_zero, List.take_of_length_le (by rw [textL_len]; omega)] at kR
      replace kR := hidden kR
      go_wp2_with fail
      refine (kR.out).mono ?_
      rintro ev w14 ⟨v, rfl, hV, hB14⟩
      have h14 := hidden (h13.out.more hB14)
      have hVC := hidden (hV.toC (m := mb) (by have := h13.out.lts.2.2.2.2.1; exact this))
      have kC := hidden (fun (wx : World) (hx : Apart [mb] w14 wx) => (by rw [hTX.out]; exact conv_bytes _ _ _ (hVC.out.keep hx).at : (convert 34 9 v).run Tryz.prog wx = .ok (.string TX) wx))
      have hmk : ∀ wx, (Instr.makeSlice 34 (.int .i64 (128 * (F : Int))) (.int .i64 (128 * (F : Int)))).run Tryz.prog wx = .ok (.slice (some ⟨wx.heap.size, 0, none⟩) (128 * F) (128 * F)) (wx.alloc (.cells (Array.replicate (128 * F) (.int .u8 0)) 5)) := fun wx => by
        have := make_bytes (128 * F) (by omega) wx
        rw [show ((128 * F : Nat) : Int) = 128 * (F : Int) by omega] at this
        exact this
      have kW := hidden ((by
        have hB8 : Below w14.heap.size w14 (w14.alloc (.cells (Array.replicate (128 * F) (.int .u8 0)) 5)).drew := ((Below.refl _ _).alloc (Nat.le_refl _) _).drew
        have h14x := h14.out
        have hz8 := (zero_c mb w14 (128 * F) (by omega) (by have := h14x.lts.2.2.2.2.1; exact this)).keep (Apart.of_below (bs := [mb]) (below_drew1 _))
        obtain ⟨n, hn⟩ : ∃ n : Nat, growb ((D 2).length : Nat) ((128 * F : Nat) : Int) = (n : Int) := ⟨(growb ((D 2).length : Nat) ((128 * F : Nat) : Int)).toNat, by have := growb_range ((D 2).length : Nat) ((128 * F : Nat) : Int); omega⟩
        have hnF : n ≤ F := by
          have e := hn
          rw [hD2.out] at e
          unfold growb at e
          have h0 : blk ((([] : List Int).length : Nat) : Int) = 0 := rfl
          rw [h0, show ((128 * F : Nat) : Int) = 128 * (F : Int) by omega] at e
          have := hbk.out
          have := hFb
          omega
        refine (S8.write ok.out (h14x.more hB8) (id := 2) (by omega) (by show 2 ≤ 6; omega) hK2.out (at_ := 0) (n := n) (S2 := 128 * F) hz8 (by rw [List.length_replicate]; omega) (by rw [List.length_replicate]; omega) (by rw [hD2.out, List.length_replicate]; simp) hn hnF).mono ?_
        rintro e w' ⟨rfl, hq, hqA⟩
        have hq1 : Apart [mb] (w14.alloc (.cells (Array.replicate (128 * F) (.int .u8 0)) 5)).drew w' := hqA
        exact ⟨rfl, (Apart.of_below hB8).trans hq1, hq.below⟩ : Calls Tryz.prog 11 #[ptr tb, .int .i64 2, .int .i64 0, .slice (some ⟨w14.heap.size, 0, none⟩) (128 * F) (128 * F)] (w14.alloc (.cells (Array.replicate (128 * F) (.int .u8 0)) 5)).drew fun e w' => e = .returned .nilIface ∧ Apart [mb] w14 w' ∧ Below w.heap.size w w'))
      have hmax : max (128 * (F : Int)) 0 = 128 * (F : Int) := by omega
      have hmax2 : (0 : Int) ≤ 128 * (F : Int) := by omega
      have hB0 := hidden h14.out.below
      clear kR hV hB14 h13 hVC h14 hbk'
      go_wp2_with fail
      have hS0 : SFull mb w14 w w14.drew := SFull.mk (Apart.of_below (below_drew1 _)) (hB0.out.drew)
      have hBa : Below w14.heap.size w14 (w14.alloc (.cells (Array.replicate (128 * F) (.int .u8 0)) 5)).drew := ((Below.refl _ _).alloc (Nat.le_refl _) _).drew
      have hS1 : SFull mb w14 w (w14.alloc (.cells (Array.replicate (128 * F) (.int .u8 0)) 5)).drew := SFull.mk (Apart.of_below hBa) (hB0.out.trans (hBa.mono hB0.out.size))
      clear hBa
      refine wp_region_held_drew (S := SFull mb w14 w) (by kernel_rfl) hS0 ?_
      intro _
      refine wpAnyH_take (i := 0) (v := ?_) rfl (by kernel_rfl) (by kernel_rfl) (by kernel_rfl) (fun _ _ _ h => h) (Or.inl ⟨by rfl, ?_⟩) hS0 ?_
      rotate_left
      · intro w hw; clear hw; go_simp; try (with_reducible rfl)
      refine wpAnyH_take (i := 1) (v := ?_) rfl (by kernel_rfl) (by kernel_rfl) (by kernel_rfl) (fun _ _ _ h => h) (Or.inl ⟨by rfl, ?_⟩) hS0 ?_
      rotate_left
      · intro w hw; clear hw; go_simp; try (with_reducible rfl)
      refine wpAnyH_ready (rs := [2]) (by kernel_rfl) (by simp) ?_
      refine AllReadyH.cons rfl (fun K hK => ?_) AllReadyH.nil
      go_simp
      refine hK.out _ _ hS0 (fun _ => ?_)
      clear hK K
      refine wpAnyH_ready (rs := [3]) (by kernel_rfl) (by simp) ?_
      refine AllReadyH.cons rfl (fun K hK => ?_) AllReadyH.nil
      go_simp
      refine hK.out _ _ hS0 (fun _ => ?_)
      clear hK K
      refine wpAnyH_ready (rs := [4]) (by kernel_rfl) (by simp) ?_
      refine AllReadyH.cons rfl (fun K hK => ?_) AllReadyH.nil
      have hmk1 := hmk w14.drew
      go_simp
      refine hK.out _ _ (hS1) (fun hSn1 => ?_)
      clear hmk1
      clear hK K
      refine wpAnyH_ready (rs := [5]) (by kernel_rfl) (by simp) ?_
      refine AllReadyH.cons rfl (fun K hK => ?_) AllReadyH.nil
      go_simp
      go_wp2_with (go_at_call 11; refine (kW.out).mono ?_; rintro ev w15 ⟨rfl, hA15, hB15⟩)
      refine hK.out _ _ (SFull.mk hA15 hB15) (fun hSn2 => ?_)
      clear hK K
      refine wpAnyH_ready (rs := [6]) (by kernel_rfl) (by simp) ?_
      refine AllReadyH.cons rfl (fun K hK => ?_) AllReadyH.nil
      go_simp
      refine hK.out _ _ hSn2 (fun _ => ?_)
      clear hK K
      refine wpAnyH_ready (rs := [7]) (by kernel_rfl) (by simp) ?_
      refine AllReadyH.cons rfl (fun K hK => ?_) AllReadyH.nil
      go_simp
      refine hK.out _ _ hSn2 (fun _ => ?_)
      clear hK K
      refine wpAnyH_ready (rs := [8]) (by kernel_rfl) (by simp) ?_
      refine AllReadyH.cons rfl (fun K hK => ?_) AllReadyH.nil
      go_simp
      refine hK.out _ _ hSn2 (fun _ => ?_)
      clear hK K
      refine wpAnyH_ready (rs := [9]) (by kernel_rfl) (by simp) ?_
      refine AllReadyH.cons rfl (fun K hK => ?_) AllReadyH.nil
      go_simp
      refine hK.out _ _ hSn2 (fun _ => ?_)
      clear hK K
      refine wpAnyH_ready (rs := [10]) (by kernel_rfl) (by simp) ?_
      refine AllReadyH.cons rfl (fun K hK => ?_) AllReadyH.nil
      go_simp
      refine hK.out _ _ hSn2 (fun _ => ?_)
      clear hK K
      refine wpAnyH_ready (rs := [11]) (by kernel_rfl) (by simp) ?_
      refine AllReadyH.cons rfl (fun K hK => ?_) AllReadyH.nil
      go_simp
      refine hK.out _ _ hSn2 (fun _ => ?_)
      clear hK K
      refine wpAnyH_take (i := 12) (v := ?_) rfl (by kernel_rfl) (by kernel_rfl) (by kernel_rfl) (fun _ _ _ h => h) (Or.inl ⟨by rfl, ?_⟩) hSn2 ?_
      rotate_left
      · intro w hw; clear hw; go_simp; try (with_reducible rfl)
      refine wpAnyH_take (i := 13) (v := ?_) rfl (by kernel_rfl) (by kernel_rfl) (by kernel_rfl) (fun _ _ _ h => h) (Or.inl ⟨by rfl, ?_⟩) hSn2 ?_
      rotate_left
      · intro w hw; have c0 := kC.out _ (hw).1; clear hw; go_simp; try (with_reducible rfl)
      refine wpAnyH_ready (rs := [14]) (by kernel_rfl) (by simp) ?_
      refine AllReadyH.cons rfl (fun K hK => ?_) AllReadyH.nil
      go_simp
      refine hK.out _ _ hSn2 (fun _ => ?_)
      clear hK K
      refine wpAnyH_ready (rs := [15]) (by kernel_rfl) (by simp) ?_
      refine AllReadyH.cons rfl (fun K hK => ?_) AllReadyH.nil
      go_simp
      go_wp2_with (go_at_call 12; refine (kT2.out _).mono ?_; rintro ev w16 ⟨rfl, hB16⟩)
      refine hK.out _ _ (SFull.more hSn2 hB16) (fun hSn3 => ?_)
      clear hK K
      refine wpAnyH_ready (rs := [16]) (by kernel_rfl) (by simp) ?_
      refine AllReadyH.cons rfl (fun K hK => ?_) AllReadyH.nil
      go_simp
      refine hK.out _ _ hSn3 (fun _ => ?_)
      clear hK K
      refine wpAnyH_ready (rs := [17]) (by kernel_rfl) (by simp) ?_
      refine AllReadyH.cons rfl (fun K hK => ?_) AllReadyH.nil
      go_simp
      refine hK.out _ _ hSn3 (fun _ => ?_)
      clear hK K
      refine wpAnyH_ready (rs := [18]) (by kernel_rfl) (by simp) ?_
      refine AllReadyH.cons rfl (fun K hK => ?_) AllReadyH.nil
      go_simp
      refine hK.out _ _ hSn3 (fun _ => ?_)
      clear hK K
      refine wpAnyH_ready (rs := [19]) (by kernel_rfl) (by simp) ?_
      refine AllReadyH.cons rfl (fun K hK => ?_) AllReadyH.nil
      go_simp
      go_wp2_with (go_at_call 20; refine (kA.out _ (hSn3).2).mono ?_; rintro ev w17 ⟨rfl, hB17⟩)
      refine hK.out _ _ (SFull.more hSn3 hB17) (fun hSn4 => ?_)
      clear hK K
      refine wpAnyH_ready (rs := [20]) (by kernel_rfl) (by simp) ?_
      refine AllReadyH.cons rfl (fun K hK => ?_) AllReadyH.nil
      go_simp
      refine hK.out _ _ hSn4 (fun _ => ?_)
      clear hK K
      refine wpAnyH_ready (rs := [21]) (by kernel_rfl) (by simp) ?_
      refine AllReadyH.cons rfl (fun K hK => ?_) AllReadyH.nil
      go_simp
      refine hK.out _ _ hSn4 (fun _ => ?_)
      clear hK K
      refine wpAnyH_done (by kernel_rfl) ?_ _
      have hz := hidden hSn4
      go_wp2
      go_ret
      exact ⟨rfl, hz.out.2⟩
end Go.Proofs.YtopegpjkkicjhaaGreatDoor
