/- DiskApart answers true, whatever it is given, and changes nothing that was there. -/
import Derived.Test.YtmieapdjieaaoaaDoorRa
namespace Go.Proofs.YtmieapdjieaaoaaDoor
open Go.RowKit Go.Extern.Stop Go.Stop Go.Extern
set_option maxRecDepth 100000

theorem mod40 (x : Int) : ∃ I : Nat, (bits .and .i64 x 255).tmod 40 = (I : Int) ∧ I < 40 := by
  have h0 : 0 ≤ bits .and .i64 x 255 := (and_low x 255 (by decide)).1
  have h1 := Int.tmod_lt_of_pos (bits .and .i64 x 255) (b := 40) (by decide)
  have h2 := Int.tmod_nonneg 40 h0
  exact ⟨_, (Int.toNat_of_nonneg h2).symm, by omega⟩

set_option maxHeartbeats 4000000 in
theorem diskApart_calls (i k n m : Int) (w : World) (hG : Ground w) :
    Calls Tryd.prog 3 #[.int .i64 i, .int .i64 k, .int .i64 n, .int .i64 m] w fun e w' => e = .returned (.bool true) ∧ Below w.heap.size w w' := by
  obtain ⟨I, hI, hI2⟩ := mod40 i
  obtain ⟨J, hJ, hJ2⟩ := mod40 k
  obtain ⟨n', hn⟩ : ∃ N, bits .and .i64 n 2047 = N := ⟨_, rfl⟩
  obtain ⟨m', hm⟩ : ∃ N, bits .and .i64 m 2047 = N := ⟨_, rfl⟩
  go_enter Tryd.func3, Tryd.ntmps3
  go_wp2_with fail
  refine (sys_new 40 (by omega) (by omega) w hG).mono ?_
  rintro ev w1 ⟨rfl, hS⟩
  replace hS := hidden hS
  go_upto_if 35 with fail
  go_cut [1] (fun v wx => (∃ K : Nat, v = .int .i64 K ∧ K < 40 ∧ K ≠ I) ∧ wx = w1)
  case first =>
    by_cases hIJ : I = J
    · subst hIJ
      have h1 : ((I : Int) + 1).tmod 40 = (((I + 1) % 40 : Nat) : Int) := by
        rw [show (I : Int) + 1 = ((I + 1 : Nat) : Int) by omega]
        exact Int.ofNat_tmod _ _ |>.symm
      have h2 : (I : Int) < 40 := by omega
      go_wp2_with fail
      go_meet
      case rel => exact ⟨⟨(I + 1) % 40, rfl, by omega, by omega⟩, rfl⟩
    · have h1 : ((I : Int) == (J : Int)) = false := by simp; omega
      go_wp2_with fail
      go_meet
      case rel => exact ⟨⟨J, rfl, hJ2, fun e => hIJ e.symm⟩, rfl⟩
  case rest =>
    obtain ⟨⟨K, rfl, hK2, hKI⟩, rfl⟩ := hcut
    clear hJ hJ2
    replace hKI := hidden hKI
    go_wp2_with fail
    refine (fill_row n' _).mono ?_
    rintro ev w2 ⟨ba, rfl, hA, hba, hB2⟩
    have hlt := hS.out.disk.lt
    have hs2 := hB2.size
    replace hS := hidden (hS.out.more hB2)
    clear hB2
    replace hA := hidden hA
    go_wp2_with fail
    refine (fill_row m' _).mono ?_
    rintro ev w3 ⟨bb, rfl, hBr, hbb, hB3⟩
    have hlA := hA.out.lt
    have hs3 := hB3.size
    replace hS := hidden (hS.out.more hB3)
    replace hA := hidden (hA.out.below hB3)
    clear hB3
    replace hBr := hidden hBr
    generalize hvb : rowV bb = vb
    replace hvb := hidden hvb
    go_wp2_with fail
    refine (sys_write hS.out I hI2 _ _ hA.out.bytes (fillL_len _) (by decide) (by decide) (by decide)).mono ?_
    clear hS
    rintro ev w4 ⟨rfl, hS, hAp⟩
    rw [show burnt (-1) = -1 from rfl] at hS
    replace hA := hidden (hA.out.keep hAp (by simp; omega))
    replace hBr := hidden (hBr.out.keep hAp (by simp; omega))
    clear hAp
    replace hS := hidden hS
    go_wp2_with fail
    refine (sys_write hS.out K hK2 vb _ (hvb.out ▸ hBr.out.bytes) (fillL_len _) (by decide) (by decide) (by decide)).mono ?_
    clear hS
    rintro ev w5 ⟨rfl, hS, hAp⟩
    rw [show burnt (-1) = -1 from rfl, show (0 : Int) + 1 + 1 = 2 from rfl] at hS
    replace hA := hidden (hA.out.keep hAp (by simp; omega))
    replace hBr := hidden (hBr.out.keep hAp (by simp; omega))
    clear hAp
    have c0 := hA.out.cell 0 (by decide)
    have f0 := hA.out.free 0 (by decide)
    generalize (fillL n').getD 0 0 = z0 at c0
    replace hS := hidden hS
    clear hA
    go_upto_region 11 with fail
    have hapA : Apart [ba] w5 (w5.setCell ⟨ba, 0, none⟩ (.int .u8 ((z0 + 1) % 256))) := (Apart.refl [ba] w5).setCell (by simp) _
    have hd1 := hS.out.hd
    replace hS := hidden (hS.out.keep hapA (by simp; omega) (by simp; omega) (by simp; omega))
    replace hBr := hidden (hBr.out.keep hapA (by simp; omega))
    clear hapA c0 f0
    generalize w5.setCell ⟨ba, 0, none⟩ (.int .u8 ((z0 + 1) % 256)) = w6 at hS hBr ⊢
    have hmI : blockL (memW K (fillL m') (memW I (fillL n') fun _ => 0)) I = fillL n' := by rw [memW_other _ _ hKI.out, memW_same _ _ (fillL_len _)]
    have hmK : blockL (memW K (fillL m') (memW I (fillL n') fun _ => 0)) K = fillL m' := memW_same _ _ (fillL_len _) _
    generalize memW K (fillL m') (memW I (fillL n') fun _ => 0) = mem at hS hmI hmK
    replace hmI := hidden hmI
    replace hmK := hidden hmK
    go_wp2_with fail
    refine (sys_read_row hS.out I hI2 (by decide)).mono ?_
    clear hS
    rintro ev w7 ⟨b7, rfl, hX, hb7, hS, hB7⟩
    rw [hmI.out] at hX
    have hlB := hBr.out.lt
    replace hBr := hidden (hBr.out.below hB7)
    clear hB7
    have hbx := hX.bytes
    replace hX := hidden hX
    replace hS := hidden hS
    generalize hvx : rowV b7 = vx at hbx
    replace hvx := hidden hvx
    have kC : ∀ w1, Below w7.heap.size w7 w1 → (convert 27 9 vx).run Tryd.prog w1 = .ok (.string (ofBytes (fillL n'))) w1 := fun w1 h1 => conv_bytes w1 _ _ (hbx.below h1)
    have kF : ∀ w1, Below w7.heap.size w7 w1 → Calls Tryd.prog 9 #[.int .i64 n'] w1 fun ev w' => ∃ v, ev = .returned v ∧ Below w7.heap.size w7 w' ∧ (convert 27 9 v).run Tryd.prog w' = .ok (.string (ofBytes (fillL n'))) w' := fun w1 h1 =>
      (fill_new n' w1).mono fun _ w' ⟨v, h2, h3, h4⟩ => ⟨v, h2, h1.trans (h4.mono h1.size), conv_bytes w' _ _ h3⟩
    generalize ofBytes (fillL n') = s at kC kF
    have hS0 : Below w7.heap.size w7 w7.drew := (Below.refl _ _).drew
    have hc0 := kC w7.drew hS0
    replace kC := hidden kC
    replace kF := hidden kF
    clear hbx
    go_upto_region 12 with fail
    go_cut [78] (fun c wx => c = .bool false ∧ Below w7.heap.size w7 wx)
    case first =>
      refine wp_region_any (by kernel_rfl) ?_
      try (change wpAny _ _ _ _ _ _ _ (World.drew _))
      refine wpAny_ready (rs := [0]) (by kernel_rfl) (by simp) ?_
      refine AllReady.cons rfl (fun K hK => ?_) AllReady.nil
      go_simp
      try (refine hK _ _ ?_; clear hK K)
      refine wpAny_ready (rs := [1]) (by kernel_rfl) (by simp) ?_
      refine AllReady.cons rfl (fun K hK => ?_) AllReady.nil
      go_simp
      try (refine hK _ _ ?_; clear hK K)
      refine wpAny_ready (rs := [2]) (by kernel_rfl) (by simp) ?_
      refine AllReady.cons rfl (fun K hK => ?_) AllReady.nil
      go_simp
      try (refine hK _ _ ?_; clear hK K)
      refine wpAny_take (i := 3) (v := ?_) rfl (by kernel_rfl) (by kernel_rfl) (by kernel_rfl) (fun _ _ _ h => h) (Or.inl ⟨by rfl, ?_⟩) ?_
      rotate_left
      · intro w; go_simp; try (with_reducible rfl)
      refine wpAny_take (i := 5) (v := ?_) rfl (by kernel_rfl) (by kernel_rfl) (by kernel_rfl) (fun _ _ _ h => h) (Or.inl ⟨by rfl, ?_⟩) ?_
      rotate_left
      · intro w; go_simp; try (with_reducible rfl)
      refine wpAny_take (i := 6) (v := ?_) rfl (by kernel_rfl) (by kernel_rfl) (by kernel_rfl) (fun _ _ _ h => h) (Or.inl ⟨by rfl, ?_⟩) ?_
      rotate_left
      · intro w; go_simp; try (with_reducible rfl)
      refine wpAny_ready (rs := [4, 7]) (by kernel_rfl) (by simp) ?_
      refine AllReady.cons rfl (fun K hK => ?_) ?_
      · go_simp
        try (refine hK _ _ ?_; clear hK K)
        refine wpAny_ready (rs := [7]) (by kernel_rfl) (by simp) ?_
        refine AllReady.cons rfl (fun K hK => ?_) AllReady.nil
        go_simp
        go_wp2_with (go_at_call 9; refine (kF.out _ hS0).mono ?_; rintro ev w6 ⟨v6, rfl, hB6, hc6⟩; have hc5 := kC.out w6 hB6)
        try (refine hK _ _ ?_; clear hK K)
        refine wpAny_ready (rs := [8]) (by kernel_rfl) (by simp) ?_
        refine AllReady.cons rfl (fun K hK => ?_) AllReady.nil
        go_simp
        try (refine hK _ _ ?_; clear hK K)
        refine wpAny_ready (rs := [9]) (by kernel_rfl) (by simp) ?_
        refine AllReady.cons rfl (fun K hK => ?_) AllReady.nil
        go_simp
        try (refine hK _ _ ?_; clear hK K)
        refine wpAny_ready (rs := [10]) (by kernel_rfl) (by simp) ?_
        refine AllReady.cons rfl (fun K hK => ?_) AllReady.nil
        go_simp
        try (refine hK _ _ ?_; clear hK K)
        refine wpAny_done (by kernel_rfl) ?_ _
        go_wp2_with fail
        go_meet
        case rel => exact ⟨rfl, hB6⟩
      refine AllReady.cons rfl (fun K hK => ?_) ?_
      · go_simp
        go_wp2_with (go_at_call 9; refine (kF.out _ hS0).mono ?_; rintro ev w6 ⟨v6, rfl, hB6, hc6⟩; have hc5 := kC.out w6 hB6)
        try (refine hK _ _ ?_; clear hK K)
        refine wpAny_ready (rs := [4, 8]) (by kernel_rfl) (by simp) ?_
        refine AllReady.cons rfl (fun K hK => ?_) ?_
        · go_simp
          try (refine hK _ _ ?_; clear hK K)
          refine wpAny_ready (rs := [8]) (by kernel_rfl) (by simp) ?_
          refine AllReady.cons rfl (fun K hK => ?_) AllReady.nil
          go_simp
          try (refine hK _ _ ?_; clear hK K)
          refine wpAny_ready (rs := [9]) (by kernel_rfl) (by simp) ?_
          refine AllReady.cons rfl (fun K hK => ?_) AllReady.nil
          go_simp
          try (refine hK _ _ ?_; clear hK K)
          refine wpAny_ready (rs := [10]) (by kernel_rfl) (by simp) ?_
          refine AllReady.cons rfl (fun K hK => ?_) AllReady.nil
          go_simp
          try (refine hK _ _ ?_; clear hK K)
          refine wpAny_done (by kernel_rfl) ?_ _
          go_wp2_with fail
          go_meet
          case rel => exact ⟨rfl, hB6⟩
        refine AllReady.cons rfl (fun K hK => ?_) ?_
        · go_simp
          try (refine hK _ _ ?_; clear hK K)
          refine wpAny_ready (rs := [4]) (by kernel_rfl) (by simp) ?_
          refine AllReady.cons rfl (fun K hK => ?_) AllReady.nil
          go_simp
          try (refine hK _ _ ?_; clear hK K)
          refine wpAny_ready (rs := [9]) (by kernel_rfl) (by simp) ?_
          refine AllReady.cons rfl (fun K hK => ?_) AllReady.nil
          go_simp
          try (refine hK _ _ ?_; clear hK K)
          refine wpAny_ready (rs := [10]) (by kernel_rfl) (by simp) ?_
          refine AllReady.cons rfl (fun K hK => ?_) AllReady.nil
          go_simp
          try (refine hK _ _ ?_; clear hK K)
          refine wpAny_done (by kernel_rfl) ?_ _
          go_wp2_with fail
          go_meet
          case rel => exact ⟨rfl, hB6⟩
        exact AllReady.nil
      exact AllReady.nil
    case rest =>
      obtain ⟨rfl, hBc⟩ := hcut
      clear kC kF hc0 hS0
      replace hX := hidden (hX.out.below hBc)
      replace hS := hidden (hS.out.more hBc)
      replace hBr := hidden (hBr.out.below hBc)
      have hsc := hBc.size
      clear hBc
      have hvx' := hvx.out
      subst hvx'
      clear hvx
      have c5 := hX.out.cell 5 (by decide)
      have f5 := hX.out.free 5 (by decide)
      generalize (fillL n').getD 5 0 = z5 at c5
      go_upto_region 15 with fail
      have hapX : Apart [b7] wc (wc.setCell ⟨b7, 5, none⟩ (.int .u8 ((z5 + 1) % 256))) := (Apart.refl [b7] wc).setCell (by simp) _
      have hz6 : w.heap.size + 1 < w6.heap.size ∧ w.heap.size < w6.heap.size := by omega
      replace hS := hidden (hS.out.keep hapX (by simp; omega) (by simp; omega) (by simp; omega))
      replace hBr := hidden (hBr.out.keep hapX (by simp; omega))
      clear hapX c5 f5 hX
      generalize wc.setCell ⟨b7, 5, none⟩ (.int .u8 ((z5 + 1) % 256)) = w8 at hS hBr ⊢
      go_wp2_with fail
      refine (sys_read_op hS.out I hI2 (by decide)).mono ?_
      clear hS
      rintro ev w9 ⟨vx, rfl, hbx, hS, hB9⟩
      rw [hmI.out] at hbx
      replace hBr := hidden (hBr.out.below hB9)
      clear hB9
      replace hbx := hidden hbx
      replace hS := hidden hS
      go_wp2_with fail
      refine (sys_read_op hS.out K hK2 (by decide)).mono ?_
      clear hS
      rintro ev w5 ⟨vy, rfl, hby, hS, hB5⟩
      rw [hmK.out] at hby
      have hbb5 := (hBr.out.below hB5).bytes
      have hbx5 := hbx.out.below hB5
      rw [hvb.out] at hbb5
      have kX : ∀ w1, Below w5.heap.size w5 w1 → (convert 27 9 vx).run Tryd.prog w1 = .ok (.string (ofBytes (fillL n'))) w1 := fun w1 h1 => conv_bytes w1 _ _ (hbx5.below h1)
      have kY : ∀ w1, Below w5.heap.size w5 w1 → (convert 27 9 vy).run Tryd.prog w1 = .ok (.string (ofBytes (fillL m'))) w1 := fun w1 h1 => conv_bytes w1 _ _ (hby.below h1)
      have kV : ∀ w1, Below w5.heap.size w5 w1 → (convert 27 9 vb).run Tryd.prog w1 = .ok (.string (ofBytes (fillL m'))) w1 := fun w1 h1 => conv_bytes w1 _ _ (hbb5.below h1)
      have kF : ∀ w1, Below w5.heap.size w5 w1 → Calls Tryd.prog 9 #[.int .i64 n'] w1 fun ev w' => ∃ v, ev = .returned v ∧ Below w5.heap.size w5 w' ∧ (convert 27 9 v).run Tryd.prog w' = .ok (.string (ofBytes (fillL n'))) w' := fun w1 h1 =>
        (fill_new n' w1).mono fun _ w' ⟨v, h2, h3, h4⟩ => ⟨v, h2, h1.trans (h4.mono h1.size), conv_bytes w' _ _ h3⟩
      have kW : ∀ w1, Below w5.heap.size w5 w1 → Calls Tryd.prog 12 #[ptr (w.heap.size + 1)] w1 fun ev w' => ev = .returned (.int .i64 2) ∧ Below w5.heap.size w5 w' := fun w1 h1 => (sys_writes (hS.more h1)).mono fun _ _ h => ⟨h.1, by rw [h.2]; exact h1⟩
      have kA : ∀ w1, Below w5.heap.size w5 w1 → Calls Tryd.prog 13 #[] w1 fun ev w' => ev = .returned (.bool true) ∧ Below w5.heap.size w5 w' := fun w1 h1 => (awake_calls w1 (hS.ground.below h1)).mono fun _ _ h => ⟨h.1, h1.trans (h.2.mono h1.size)⟩
      generalize ofBytes (fillL n') = s at kX kF
      generalize ofBytes (fillL m') = u at kY kV
      have hS0 : Below w5.heap.size w5 w5.drew := (Below.refl _ _).drew
      have hB0 := hidden hS.below
      have hx0 := kX w5.drew hS0
      have hy0 := kY w5.drew hS0
      have hv0 := kV w5.drew hS0
      replace kX := hidden kX
      replace kY := hidden kY
      replace kV := hidden kV
      replace kF := hidden kF
      replace kW := hidden kW
      replace kA := hidden kA
      clear hbb5 hbx5 hby hbx hBr hB5 hS hmI hmK
      go_upto_region 17 with fail
      go_cut [8] (fun c wx => c = .bool true ∧ Below w5.heap.size w5 wx)
      case first =>
        clear hB0
        refine wp_region_any (by kernel_rfl) ?_
        try (change wpAny _ _ _ _ _ _ _ (World.drew _))
        refine wpAny_ready (rs := [0]) (by kernel_rfl) (by simp) ?_
        refine AllReady.cons rfl (fun K hK => ?_) AllReady.nil
        go_simp
        try (refine hK _ _ ?_; clear hK K)
        refine wpAny_ready (rs := [1]) (by kernel_rfl) (by simp) ?_
        refine AllReady.cons rfl (fun K hK => ?_) AllReady.nil
        go_simp
        try (refine hK _ _ ?_; clear hK K)
        refine wpAny_ready (rs := [2]) (by kernel_rfl) (by simp) ?_
        refine AllReady.cons rfl (fun K hK => ?_) AllReady.nil
        go_simp
        try (refine hK _ _ ?_; clear hK K)
        refine wpAny_ready (rs := [3]) (by kernel_rfl) (by simp) ?_
        refine AllReady.cons rfl (fun K hK => ?_) AllReady.nil
        go_simp
        try (refine hK _ _ ?_; clear hK K)
        refine wpAny_ready (rs := [4]) (by kernel_rfl) (by simp) ?_
        refine AllReady.cons rfl (fun K hK => ?_) AllReady.nil
        go_simp
        try (refine hK _ _ ?_; clear hK K)
        refine wpAny_ready (rs := [5]) (by kernel_rfl) (by simp) ?_
        refine AllReady.cons rfl (fun K hK => ?_) AllReady.nil
        go_simp
        try (refine hK _ _ ?_; clear hK K)
        refine wpAny_ready (rs := [6]) (by kernel_rfl) (by simp) ?_
        refine AllReady.cons rfl (fun K hK => ?_) AllReady.nil
        go_simp
        try (refine hK _ _ ?_; clear hK K)
        refine wpAny_take (i := 7) (v := ?_) rfl (by kernel_rfl) (by kernel_rfl) (by kernel_rfl) (fun _ _ _ h => h) (Or.inl ⟨by rfl, ?_⟩) ?_
        rotate_left
        · intro w; go_simp; try (with_reducible rfl)
        refine wpAny_take (i := 9) (v := ?_) rfl (by kernel_rfl) (by kernel_rfl) (by kernel_rfl) (fun _ _ _ h => h) (Or.inl ⟨by rfl, ?_⟩) ?_
        rotate_left
        · intro w; go_simp; try (with_reducible rfl)
        refine wpAny_take (i := 10) (v := ?_) rfl (by kernel_rfl) (by kernel_rfl) (by kernel_rfl) (fun _ _ _ h => h) (Or.inl ⟨by rfl, ?_⟩) ?_
        rotate_left
        · intro w; go_simp; try (with_reducible rfl)
        refine wpAny_ready (rs := [8, 11]) (by kernel_rfl) (by simp) ?_
        refine AllReady.cons rfl (fun K hK => ?_) ?_
        · go_simp
          try (refine hK _ _ ?_; clear hK K)
          refine wpAny_ready (rs := [11]) (by kernel_rfl) (by simp) ?_
          refine AllReady.cons rfl (fun K hK => ?_) AllReady.nil
          go_simp
          go_wp2_with (go_at_call 9; refine (kF.out _ hS0).mono ?_; rintro ev w7 ⟨v7, rfl, hB7, hc7⟩; have hx7 := kX.out w7 hB7; have hy7 := kY.out w7 hB7; have hb7 := kV.out w7 hB7)
          try (refine hK _ _ ?_; clear hK K)
          refine wpAny_ready (rs := [12]) (by kernel_rfl) (by simp) ?_
          refine AllReady.cons rfl (fun K hK => ?_) AllReady.nil
          go_simp
          try (refine hK _ _ ?_; clear hK K)
          refine wpAny_ready (rs := [13]) (by kernel_rfl) (by simp) ?_
          refine AllReady.cons rfl (fun K hK => ?_) AllReady.nil
          go_simp
          try (refine hK _ _ ?_; clear hK K)
          refine wpAny_ready (rs := [14]) (by kernel_rfl) (by simp) ?_
          refine AllReady.cons rfl (fun K hK => ?_) AllReady.nil
          go_simp
          try (refine hK _ _ ?_; clear hK K)
          refine wpAny_ready (rs := [15]) (by kernel_rfl) (by simp) ?_
          refine AllReady.cons rfl (fun K hK => ?_) AllReady.nil
          go_simp
          try (refine hK _ _ ?_; clear hK K)
          refine wpAny_take (i := 16) (v := ?_) rfl (by kernel_rfl) (by kernel_rfl) (by kernel_rfl) (fun _ _ _ h => h) (Or.inl ⟨by rfl, ?_⟩) ?_
          rotate_left
          · intro w; go_simp; try (with_reducible rfl)
          refine wpAny_take (i := 18) (v := ?_) rfl (by kernel_rfl) (by kernel_rfl) (by kernel_rfl) (fun _ _ _ h => h) (Or.inl ⟨by rfl, ?_⟩) ?_
          rotate_left
          · intro w; go_simp; try (with_reducible rfl)
          refine wpAny_ready (rs := [17, 19]) (by kernel_rfl) (by simp) ?_
          refine AllReady.cons rfl (fun K hK => ?_) ?_
          · go_simp
            try (refine hK _ _ ?_; clear hK K)
            refine wpAny_ready (rs := [19]) (by kernel_rfl) (by simp) ?_
            refine AllReady.cons rfl (fun K hK => ?_) AllReady.nil
            go_simp
            try (refine hK _ _ ?_; clear hK K)
            refine wpAny_ready (rs := [20]) (by kernel_rfl) (by simp) ?_
            refine AllReady.cons rfl (fun K hK => ?_) AllReady.nil
            go_simp
            try (refine hK _ _ ?_; clear hK K)
            refine wpAny_ready (rs := [21]) (by kernel_rfl) (by simp) ?_
            refine AllReady.cons rfl (fun K hK => ?_) AllReady.nil
            go_simp
            try (refine hK _ _ ?_; clear hK K)
            refine wpAny_ready (rs := [22]) (by kernel_rfl) (by simp) ?_
            refine AllReady.cons rfl (fun K hK => ?_) AllReady.nil
            go_simp
            try (refine hK _ _ ?_; clear hK K)
            refine wpAny_ready (rs := [23]) (by kernel_rfl) (by simp) ?_
            refine AllReady.cons rfl (fun K hK => ?_) AllReady.nil
            go_simp
            try (refine hK _ _ ?_; clear hK K)
            refine wpAny_ready (rs := [24]) (by kernel_rfl) (by simp) ?_
            refine AllReady.cons rfl (fun K hK => ?_) AllReady.nil
            go_simp
            go_wp2_with (go_at_call 12; refine (kW.out _ hB7).mono ?_; rintro ev w8 ⟨rfl, hB8⟩)
            try (refine hK _ _ ?_; clear hK K)
            refine wpAny_ready (rs := [25]) (by kernel_rfl) (by simp) ?_
            refine AllReady.cons rfl (fun K hK => ?_) AllReady.nil
            go_simp
            try (refine hK _ _ ?_; clear hK K)
            refine wpAny_ready (rs := [26]) (by kernel_rfl) (by simp) ?_
            refine AllReady.cons rfl (fun K hK => ?_) AllReady.nil
            go_simp
            try (refine hK _ _ ?_; clear hK K)
            refine wpAny_ready (rs := [27]) (by kernel_rfl) (by simp) ?_
            refine AllReady.cons rfl (fun K hK => ?_) AllReady.nil
            go_simp
            try (refine hK _ _ ?_; clear hK K)
            refine wpAny_ready (rs := [28]) (by kernel_rfl) (by simp) ?_
            refine AllReady.cons rfl (fun K hK => ?_) AllReady.nil
            go_simp
            go_wp2_with (go_at_call 13; refine (kA.out _ hB8).mono ?_; rintro ev w9 ⟨rfl, hB9⟩)
            try (refine hK _ _ ?_; clear hK K)
            refine wpAny_ready (rs := [29]) (by kernel_rfl) (by simp) ?_
            refine AllReady.cons rfl (fun K hK => ?_) AllReady.nil
            go_simp
            try (refine hK _ _ ?_; clear hK K)
            refine wpAny_ready (rs := [30]) (by kernel_rfl) (by simp) ?_
            refine AllReady.cons rfl (fun K hK => ?_) AllReady.nil
            go_simp
            try (refine hK _ _ ?_; clear hK K)
            refine wpAny_done (by kernel_rfl) ?_ _
            go_wp2_with fail
            go_meet
            case rel => exact ⟨rfl, hB9⟩
          refine AllReady.cons rfl (fun K hK => ?_) ?_
          · go_simp
            try (refine hK _ _ ?_; clear hK K)
            refine wpAny_ready (rs := [17]) (by kernel_rfl) (by simp) ?_
            refine AllReady.cons rfl (fun K hK => ?_) AllReady.nil
            go_simp
            try (refine hK _ _ ?_; clear hK K)
            refine wpAny_ready (rs := [20]) (by kernel_rfl) (by simp) ?_
            refine AllReady.cons rfl (fun K hK => ?_) AllReady.nil
            go_simp
            try (refine hK _ _ ?_; clear hK K)
            refine wpAny_ready (rs := [21]) (by kernel_rfl) (by simp) ?_
            refine AllReady.cons rfl (fun K hK => ?_) AllReady.nil
            go_simp
            try (refine hK _ _ ?_; clear hK K)
            refine wpAny_ready (rs := [22]) (by kernel_rfl) (by simp) ?_
            refine AllReady.cons rfl (fun K hK => ?_) AllReady.nil
            go_simp
            try (refine hK _ _ ?_; clear hK K)
            refine wpAny_ready (rs := [23]) (by kernel_rfl) (by simp) ?_
            refine AllReady.cons rfl (fun K hK => ?_) AllReady.nil
            go_simp
            try (refine hK _ _ ?_; clear hK K)
            refine wpAny_ready (rs := [24]) (by kernel_rfl) (by simp) ?_
            refine AllReady.cons rfl (fun K hK => ?_) AllReady.nil
            go_simp
            go_wp2_with (go_at_call 12; refine (kW.out _ hB7).mono ?_; rintro ev w8 ⟨rfl, hB8⟩)
            try (refine hK _ _ ?_; clear hK K)
            refine wpAny_ready (rs := [25]) (by kernel_rfl) (by simp) ?_
            refine AllReady.cons rfl (fun K hK => ?_) AllReady.nil
            go_simp
            try (refine hK _ _ ?_; clear hK K)
            refine wpAny_ready (rs := [26]) (by kernel_rfl) (by simp) ?_
            refine AllReady.cons rfl (fun K hK => ?_) AllReady.nil
            go_simp
            try (refine hK _ _ ?_; clear hK K)
            refine wpAny_ready (rs := [27]) (by kernel_rfl) (by simp) ?_
            refine AllReady.cons rfl (fun K hK => ?_) AllReady.nil
            go_simp
            try (refine hK _ _ ?_; clear hK K)
            refine wpAny_ready (rs := [28]) (by kernel_rfl) (by simp) ?_
            refine AllReady.cons rfl (fun K hK => ?_) AllReady.nil
            go_simp
            go_wp2_with (go_at_call 13; refine (kA.out _ hB8).mono ?_; rintro ev w9 ⟨rfl, hB9⟩)
            try (refine hK _ _ ?_; clear hK K)
            refine wpAny_ready (rs := [29]) (by kernel_rfl) (by simp) ?_
            refine AllReady.cons rfl (fun K hK => ?_) AllReady.nil
            go_simp
            try (refine hK _ _ ?_; clear hK K)
            refine wpAny_ready (rs := [30]) (by kernel_rfl) (by simp) ?_
            refine AllReady.cons rfl (fun K hK => ?_) AllReady.nil
            go_simp
            try (refine hK _ _ ?_; clear hK K)
            refine wpAny_done (by kernel_rfl) ?_ _
            go_wp2_with fail
            go_meet
            case rel => exact ⟨rfl, hB9⟩
          exact AllReady.nil
        refine AllReady.cons rfl (fun K hK => ?_) ?_
        · go_simp
          go_wp2_with (go_at_call 9; refine (kF.out _ hS0).mono ?_; rintro ev w7 ⟨v7, rfl, hB7, hc7⟩; have hx7 := kX.out w7 hB7; have hy7 := kY.out w7 hB7; have hb7 := kV.out w7 hB7)
          try (refine hK _ _ ?_; clear hK K)
          refine wpAny_ready (rs := [8, 12]) (by kernel_rfl) (by simp) ?_
          refine AllReady.cons rfl (fun K hK => ?_) ?_
          · go_simp
            try (refine hK _ _ ?_; clear hK K)
            refine wpAny_ready (rs := [12]) (by kernel_rfl) (by simp) ?_
            refine AllReady.cons rfl (fun K hK => ?_) AllReady.nil
            go_simp
            try (refine hK _ _ ?_; clear hK K)
            refine wpAny_ready (rs := [13]) (by kernel_rfl) (by simp) ?_
            refine AllReady.cons rfl (fun K hK => ?_) AllReady.nil
            go_simp
            try (refine hK _ _ ?_; clear hK K)
            refine wpAny_ready (rs := [14]) (by kernel_rfl) (by simp) ?_
            refine AllReady.cons rfl (fun K hK => ?_) AllReady.nil
            go_simp
            try (refine hK _ _ ?_; clear hK K)
            refine wpAny_ready (rs := [15]) (by kernel_rfl) (by simp) ?_
            refine AllReady.cons rfl (fun K hK => ?_) AllReady.nil
            go_simp
            try (refine hK _ _ ?_; clear hK K)
            refine wpAny_take (i := 16) (v := ?_) rfl (by kernel_rfl) (by kernel_rfl) (by kernel_rfl) (fun _ _ _ h => h) (Or.inl ⟨by rfl, ?_⟩) ?_
            rotate_left
            · intro w; go_simp; try (with_reducible rfl)
            refine wpAny_take (i := 18) (v := ?_) rfl (by kernel_rfl) (by kernel_rfl) (by kernel_rfl) (fun _ _ _ h => h) (Or.inl ⟨by rfl, ?_⟩) ?_
            rotate_left
            · intro w; go_simp; try (with_reducible rfl)
            refine wpAny_ready (rs := [17, 19]) (by kernel_rfl) (by simp) ?_
            refine AllReady.cons rfl (fun K hK => ?_) ?_
            · go_simp
              try (refine hK _ _ ?_; clear hK K)
              refine wpAny_ready (rs := [19]) (by kernel_rfl) (by simp) ?_
              refine AllReady.cons rfl (fun K hK => ?_) AllReady.nil
              go_simp
              try (refine hK _ _ ?_; clear hK K)
              refine wpAny_ready (rs := [20]) (by kernel_rfl) (by simp) ?_
              refine AllReady.cons rfl (fun K hK => ?_) AllReady.nil
              go_simp
              try (refine hK _ _ ?_; clear hK K)
              refine wpAny_ready (rs := [21]) (by kernel_rfl) (by simp) ?_
              refine AllReady.cons rfl (fun K hK => ?_) AllReady.nil
              go_simp
              try (refine hK _ _ ?_; clear hK K)
              refine wpAny_ready (rs := [22]) (by kernel_rfl) (by simp) ?_
              refine AllReady.cons rfl (fun K hK => ?_) AllReady.nil
              go_simp
              try (refine hK _ _ ?_; clear hK K)
              refine wpAny_ready (rs := [23]) (by kernel_rfl) (by simp) ?_
              refine AllReady.cons rfl (fun K hK => ?_) AllReady.nil
              go_simp
              try (refine hK _ _ ?_; clear hK K)
              refine wpAny_ready (rs := [24]) (by kernel_rfl) (by simp) ?_
              refine AllReady.cons rfl (fun K hK => ?_) AllReady.nil
              go_simp
              go_wp2_with (go_at_call 12; refine (kW.out _ hB7).mono ?_; rintro ev w8 ⟨rfl, hB8⟩)
              try (refine hK _ _ ?_; clear hK K)
              refine wpAny_ready (rs := [25]) (by kernel_rfl) (by simp) ?_
              refine AllReady.cons rfl (fun K hK => ?_) AllReady.nil
              go_simp
              try (refine hK _ _ ?_; clear hK K)
              refine wpAny_ready (rs := [26]) (by kernel_rfl) (by simp) ?_
              refine AllReady.cons rfl (fun K hK => ?_) AllReady.nil
              go_simp
              try (refine hK _ _ ?_; clear hK K)
              refine wpAny_ready (rs := [27]) (by kernel_rfl) (by simp) ?_
              refine AllReady.cons rfl (fun K hK => ?_) AllReady.nil
              go_simp
              try (refine hK _ _ ?_; clear hK K)
              refine wpAny_ready (rs := [28]) (by kernel_rfl) (by simp) ?_
              refine AllReady.cons rfl (fun K hK => ?_) AllReady.nil
              go_simp
              go_wp2_with (go_at_call 13; refine (kA.out _ hB8).mono ?_; rintro ev w9 ⟨rfl, hB9⟩)
              try (refine hK _ _ ?_; clear hK K)
              refine wpAny_ready (rs := [29]) (by kernel_rfl) (by simp) ?_
              refine AllReady.cons rfl (fun K hK => ?_) AllReady.nil
              go_simp
              try (refine hK _ _ ?_; clear hK K)
              refine wpAny_ready (rs := [30]) (by kernel_rfl) (by simp) ?_
              refine AllReady.cons rfl (fun K hK => ?_) AllReady.nil
              go_simp
              try (refine hK _ _ ?_; clear hK K)
              refine wpAny_done (by kernel_rfl) ?_ _
              go_wp2_with fail
              go_meet
              case rel => exact ⟨rfl, hB9⟩
            refine AllReady.cons rfl (fun K hK => ?_) ?_
            · go_simp
              try (refine hK _ _ ?_; clear hK K)
              refine wpAny_ready (rs := [17]) (by kernel_rfl) (by simp) ?_
              refine AllReady.cons rfl (fun K hK => ?_) AllReady.nil
              go_simp
              try (refine hK _ _ ?_; clear hK K)
              refine wpAny_ready (rs := [20]) (by kernel_rfl) (by simp) ?_
              refine AllReady.cons rfl (fun K hK => ?_) AllReady.nil
              go_simp
              try (refine hK _ _ ?_; clear hK K)
              refine wpAny_ready (rs := [21]) (by kernel_rfl) (by simp) ?_
              refine AllReady.cons rfl (fun K hK => ?_) AllReady.nil
              go_simp
              try (refine hK _ _ ?_; clear hK K)
              refine wpAny_ready (rs := [22]) (by kernel_rfl) (by simp) ?_
              refine AllReady.cons rfl (fun K hK => ?_) AllReady.nil
              go_simp
              try (refine hK _ _ ?_; clear hK K)
              refine wpAny_ready (rs := [23]) (by kernel_rfl) (by simp) ?_
              refine AllReady.cons rfl (fun K hK => ?_) AllReady.nil
              go_simp
              try (refine hK _ _ ?_; clear hK K)
              refine wpAny_ready (rs := [24]) (by kernel_rfl) (by simp) ?_
              refine AllReady.cons rfl (fun K hK => ?_) AllReady.nil
              go_simp
              go_wp2_with (go_at_call 12; refine (kW.out _ hB7).mono ?_; rintro ev w8 ⟨rfl, hB8⟩)
              try (refine hK _ _ ?_; clear hK K)
              refine wpAny_ready (rs := [25]) (by kernel_rfl) (by simp) ?_
              refine AllReady.cons rfl (fun K hK => ?_) AllReady.nil
              go_simp
              try (refine hK _ _ ?_; clear hK K)
              refine wpAny_ready (rs := [26]) (by kernel_rfl) (by simp) ?_
              refine AllReady.cons rfl (fun K hK => ?_) AllReady.nil
              go_simp
              try (refine hK _ _ ?_; clear hK K)
              refine wpAny_ready (rs := [27]) (by kernel_rfl) (by simp) ?_
              refine AllReady.cons rfl (fun K hK => ?_) AllReady.nil
              go_simp
              try (refine hK _ _ ?_; clear hK K)
              refine wpAny_ready (rs := [28]) (by kernel_rfl) (by simp) ?_
              refine AllReady.cons rfl (fun K hK => ?_) AllReady.nil
              go_simp
              go_wp2_with (go_at_call 13; refine (kA.out _ hB8).mono ?_; rintro ev w9 ⟨rfl, hB9⟩)
              try (refine hK _ _ ?_; clear hK K)
              refine wpAny_ready (rs := [29]) (by kernel_rfl) (by simp) ?_
              refine AllReady.cons rfl (fun K hK => ?_) AllReady.nil
              go_simp
              try (refine hK _ _ ?_; clear hK K)
              refine wpAny_ready (rs := [30]) (by kernel_rfl) (by simp) ?_
              refine AllReady.cons rfl (fun K hK => ?_) AllReady.nil
              go_simp
              try (refine hK _ _ ?_; clear hK K)
              refine wpAny_done (by kernel_rfl) ?_ _
              go_wp2_with fail
              go_meet
              case rel => exact ⟨rfl, hB9⟩
            exact AllReady.nil
          refine AllReady.cons rfl (fun K hK => ?_) ?_
          · go_simp
            try (refine hK _ _ ?_; clear hK K)
            refine wpAny_ready (rs := [8]) (by kernel_rfl) (by simp) ?_
            refine AllReady.cons rfl (fun K hK => ?_) AllReady.nil
            go_simp
            try (refine hK _ _ ?_; clear hK K)
            refine wpAny_ready (rs := [13]) (by kernel_rfl) (by simp) ?_
            refine AllReady.cons rfl (fun K hK => ?_) AllReady.nil
            go_simp
            try (refine hK _ _ ?_; clear hK K)
            refine wpAny_ready (rs := [14]) (by kernel_rfl) (by simp) ?_
            refine AllReady.cons rfl (fun K hK => ?_) AllReady.nil
            go_simp
            try (refine hK _ _ ?_; clear hK K)
            refine wpAny_ready (rs := [15]) (by kernel_rfl) (by simp) ?_
            refine AllReady.cons rfl (fun K hK => ?_) AllReady.nil
            go_simp
            try (refine hK _ _ ?_; clear hK K)
            refine wpAny_take (i := 16) (v := ?_) rfl (by kernel_rfl) (by kernel_rfl) (by kernel_rfl) (fun _ _ _ h => h) (Or.inl ⟨by rfl, ?_⟩) ?_
            rotate_left
            · intro w; go_simp; try (with_reducible rfl)
            refine wpAny_take (i := 18) (v := ?_) rfl (by kernel_rfl) (by kernel_rfl) (by kernel_rfl) (fun _ _ _ h => h) (Or.inl ⟨by rfl, ?_⟩) ?_
            rotate_left
            · intro w; go_simp; try (with_reducible rfl)
            refine wpAny_ready (rs := [17, 19]) (by kernel_rfl) (by simp) ?_
            refine AllReady.cons rfl (fun K hK => ?_) ?_
            · go_simp
              try (refine hK _ _ ?_; clear hK K)
              refine wpAny_ready (rs := [19]) (by kernel_rfl) (by simp) ?_
              refine AllReady.cons rfl (fun K hK => ?_) AllReady.nil
              go_simp
              try (refine hK _ _ ?_; clear hK K)
              refine wpAny_ready (rs := [20]) (by kernel_rfl) (by simp) ?_
              refine AllReady.cons rfl (fun K hK => ?_) AllReady.nil
              go_simp
              try (refine hK _ _ ?_; clear hK K)
              refine wpAny_ready (rs := [21]) (by kernel_rfl) (by simp) ?_
              refine AllReady.cons rfl (fun K hK => ?_) AllReady.nil
              go_simp
              try (refine hK _ _ ?_; clear hK K)
              refine wpAny_ready (rs := [22]) (by kernel_rfl) (by simp) ?_
              refine AllReady.cons rfl (fun K hK => ?_) AllReady.nil
              go_simp
              try (refine hK _ _ ?_; clear hK K)
              refine wpAny_ready (rs := [23]) (by kernel_rfl) (by simp) ?_
              refine AllReady.cons rfl (fun K hK => ?_) AllReady.nil
              go_simp
              try (refine hK _ _ ?_; clear hK K)
              refine wpAny_ready (rs := [24]) (by kernel_rfl) (by simp) ?_
              refine AllReady.cons rfl (fun K hK => ?_) AllReady.nil
              go_simp
              go_wp2_with (go_at_call 12; refine (kW.out _ hB7).mono ?_; rintro ev w8 ⟨rfl, hB8⟩)
              try (refine hK _ _ ?_; clear hK K)
              refine wpAny_ready (rs := [25]) (by kernel_rfl) (by simp) ?_
              refine AllReady.cons rfl (fun K hK => ?_) AllReady.nil
              go_simp
              try (refine hK _ _ ?_; clear hK K)
              refine wpAny_ready (rs := [26]) (by kernel_rfl) (by simp) ?_
              refine AllReady.cons rfl (fun K hK => ?_) AllReady.nil
              go_simp
              try (refine hK _ _ ?_; clear hK K)
              refine wpAny_ready (rs := [27]) (by kernel_rfl) (by simp) ?_
              refine AllReady.cons rfl (fun K hK => ?_) AllReady.nil
              go_simp
              try (refine hK _ _ ?_; clear hK K)
              refine wpAny_ready (rs := [28]) (by kernel_rfl) (by simp) ?_
              refine AllReady.cons rfl (fun K hK => ?_) AllReady.nil
              go_simp
              go_wp2_with (go_at_call 13; refine (kA.out _ hB8).mono ?_; rintro ev w9 ⟨rfl, hB9⟩)
              try (refine hK _ _ ?_; clear hK K)
              refine wpAny_ready (rs := [29]) (by kernel_rfl) (by simp) ?_
              refine AllReady.cons rfl (fun K hK => ?_) AllReady.nil
              go_simp
              try (refine hK _ _ ?_; clear hK K)
              refine wpAny_ready (rs := [30]) (by kernel_rfl) (by simp) ?_
              refine AllReady.cons rfl (fun K hK => ?_) AllReady.nil
              go_simp
              try (refine hK _ _ ?_; clear hK K)
              refine wpAny_done (by kernel_rfl) ?_ _
              go_wp2_with fail
              go_meet
              case rel => exact ⟨rfl, hB9⟩
            refine AllReady.cons rfl (fun K hK => ?_) ?_
            · go_simp
              try (refine hK _ _ ?_; clear hK K)
              refine wpAny_ready (rs := [17]) (by kernel_rfl) (by simp) ?_
              refine AllReady.cons rfl (fun K hK => ?_) AllReady.nil
              go_simp
              try (refine hK _ _ ?_; clear hK K)
              refine wpAny_ready (rs := [20]) (by kernel_rfl) (by simp) ?_
              refine AllReady.cons rfl (fun K hK => ?_) AllReady.nil
              go_simp
              try (refine hK _ _ ?_; clear hK K)
              refine wpAny_ready (rs := [21]) (by kernel_rfl) (by simp) ?_
              refine AllReady.cons rfl (fun K hK => ?_) AllReady.nil
              go_simp
              try (refine hK _ _ ?_; clear hK K)
              refine wpAny_ready (rs := [22]) (by kernel_rfl) (by simp) ?_
              refine AllReady.cons rfl (fun K hK => ?_) AllReady.nil
              go_simp
              try (refine hK _ _ ?_; clear hK K)
              refine wpAny_ready (rs := [23]) (by kernel_rfl) (by simp) ?_
              refine AllReady.cons rfl (fun K hK => ?_) AllReady.nil
              go_simp
              try (refine hK _ _ ?_; clear hK K)
              refine wpAny_ready (rs := [24]) (by kernel_rfl) (by simp) ?_
              refine AllReady.cons rfl (fun K hK => ?_) AllReady.nil
              go_simp
              go_wp2_with (go_at_call 12; refine (kW.out _ hB7).mono ?_; rintro ev w8 ⟨rfl, hB8⟩)
              try (refine hK _ _ ?_; clear hK K)
              refine wpAny_ready (rs := [25]) (by kernel_rfl) (by simp) ?_
              refine AllReady.cons rfl (fun K hK => ?_) AllReady.nil
              go_simp
              try (refine hK _ _ ?_; clear hK K)
              refine wpAny_ready (rs := [26]) (by kernel_rfl) (by simp) ?_
              refine AllReady.cons rfl (fun K hK => ?_) AllReady.nil
              go_simp
              try (refine hK _ _ ?_; clear hK K)
              refine wpAny_ready (rs := [27]) (by kernel_rfl) (by simp) ?_
              refine AllReady.cons rfl (fun K hK => ?_) AllReady.nil
              go_simp
              try (refine hK _ _ ?_; clear hK K)
              refine wpAny_ready (rs := [28]) (by kernel_rfl) (by simp) ?_
              refine AllReady.cons rfl (fun K hK => ?_) AllReady.nil
              go_simp
              go_wp2_with (go_at_call 13; refine (kA.out _ hB8).mono ?_; rintro ev w9 ⟨rfl, hB9⟩)
              try (refine hK _ _ ?_; clear hK K)
              refine wpAny_ready (rs := [29]) (by kernel_rfl) (by simp) ?_
              refine AllReady.cons rfl (fun K hK => ?_) AllReady.nil
              go_simp
              try (refine hK _ _ ?_; clear hK K)
              refine wpAny_ready (rs := [30]) (by kernel_rfl) (by simp) ?_
              refine AllReady.cons rfl (fun K hK => ?_) AllReady.nil
              go_simp
              try (refine hK _ _ ?_; clear hK K)
              refine wpAny_done (by kernel_rfl) ?_ _
              go_wp2_with fail
              go_meet
              case rel => exact ⟨rfl, hB9⟩
            exact AllReady.nil
          exact AllReady.nil
        exact AllReady.nil
      case rest =>
        obtain ⟨rfl, hBc⟩ := hcut
        go_wp2
        go_ret
        exact ⟨rfl, hB0.out.trans (hBc.mono hB0.out.size)⟩
end Go.Proofs.YtmieapdjieaaoaaDoor
