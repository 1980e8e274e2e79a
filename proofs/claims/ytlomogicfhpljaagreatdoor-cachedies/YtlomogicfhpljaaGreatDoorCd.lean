/- CacheDies, walked. -/
import Derived.Test.YtlomogicfhpljaaGreatDoorCd2
import Derived.Deep.CutBlock
namespace Go.Proofs.YtlomogicfhpljaaGreatDoor
open Go.RowKit Go.Extern.Stop Go.Stop Go.Extern Go.Maps
set_option maxRecDepth 100000

theorem take5_bytes (w : World) : BytesAt (w.alloc (.cells (fillA 7 128) 5)) (.slice (some ⟨w.heap.size, 0, none⟩) 5 128) (fill7.take 5) :=
  bytes_take (fillL_len 7) (fillA_bytes 7 w) (by omega) (by omega)
theorem and31 (x : Int) : ∃ m : Nat, m ≤ 31 ∧ bits .and .i64 x 31 = (m : Int) := by
  have := and_low x 31 (by decide)
  exact ⟨(bits .and .i64 x 31).toNat, by have h : bits .and .i64 x ((31 : Nat) : Int) = bits .and .i64 x 31 := rfl; rw [h] at this; omega, by have h : bits .and .i64 x ((31 : Nat) : Int) = bits .and .i64 x 31 := rfl; rw [h] at this; omega⟩
theorem fill7_get_range (k : Nat) : 0 ≤ fill7.getD k 0 ∧ fill7.getD k 0 ≤ 255 := by
  by_cases hk : k < fill7.length
  · have : fill7.getD k 0 = fill7[k] := by simp [List.getD, hk]
    rw [this]; exact fill7_row.2 _ (List.getElem_mem hk)
  · have : fill7.getD k 0 = 0 := by simp [List.getD, hk]
    rw [this]; omega
theorem take5_len : (fill7.take 5).length = 5 := by simp [fill7_row.1]
set_option maxHeartbeats 4000000 in
theorem cacheDies_calls (bl nn at1 : Int) (w : World) (hG : Ground w) (hGT : GT w) :
    Calls Tryz.prog 6 #[.int .i64 bl, .int .i64 nn, .int .i64 at1] w fun e w' => e = .returned (.bool true) ∧ Below w.heap.size w w' := by
  have hmd := hidden (made_calls 8 (by omega) (by omega) w hG)
  replace hGT := hidden hGT
  replace hG := hidden hG
  go_enter Tryz.func6, Tryz.ntmps6
  go_wp2_with fail
  refine (hmd.out).mono ?_
  rintro ev w1 ⟨jb, cb, mb, rfl, hC1⟩
  generalize hd : w.heap.size + 1 = d at hC1 ⊢
  replace hC1 := hidden hC1
  clear hmd
  obtain ⟨X, hX⟩ : ∃ X, nn % 256 = X := ⟨_, rfl⟩
  obtain ⟨Y, hY⟩ : ∃ Y, wrap64 (nn + 1) % 256 = Y := ⟨_, rfl⟩
  have hXr : 0 ≤ X ∧ X ≤ 255 := by omega
  have hYr : 0 ≤ Y ∧ Y ≤ 255 := by omega
  go_upto_block 0 with fail
  go_cut [] (fun wx => CSt w d w.heap.size 60 jb cb mb 20 8 12 (fun _ => 0) 0 (-1) (allM rowA (sel bl 12)) wx)
  case first =>
    go_wp2_with fail
    go_loopg [9] 13 (fun gk q wr => ∃ k : Nat, k ≤ 12 ∧ gk = 13 - k ∧ q = .int .i64 k ∧ Hid (CSt w d w.heap.size 60 jb cb mb 20 8 12 (fun _ => 0) 0 (-1) (allM rowA (sel bl k)) wr))
    case atStart => exact ⟨0, by omega, rfl, rfl, hC1⟩
    case round =>
      obtain ⟨k, hk, hgk, rfl, hI⟩ := hrel
      replace hgk := hidden hgk
      clear hC1
      by_cases hlt : k < 12
      · by_cases hb : bitOf bl k
        · have hb1 : bits .and .i64 (bl / 2 ^ k) 1 = 1 := hb
          have hF := hidden (fill_calls 7 wr)
          replace hb := hidden hb
          go_wp2_with fail
          refine (hF.out).mono ?_
          rintro ev w2 ⟨rfl, hw2⟩
          have hB2 : Below wr.heap.size wr w2 := by rw [hw2]; exact (Below.refl _ _).alloc (Nat.le_refl _) _
          have hb2 : BytesAt w2 (.slice (some ⟨wr.heap.size, 0, none⟩) 5 128) (fill7.take 5) := by rw [hw2]; exact take5_bytes wr
          by_cases h8 : (sel bl k).length < 8
          · have hW := hidden (dies_write (hI.out.more hB2) hlt hb.out h8 (blockL_zero k) 0 _ _ hb2 (by rw [take5_len]; omega) rfl)
            clear hB2 hb2 hw2 hF hI
            go_wp2_with fail
            refine (hW.out).mono ?_
            rintro ev w3 ⟨rfl, hI3, -⟩
            replace hI3 := hidden hI3
            clear hW
            go_wp2_with fail
            go_roundg (13 - (k + 1))
            case measure => rw [hgk.out]; omega
            case rel => exact ⟨k + 1, by omega, rfl, by go_num, hI3⟩
          · have hW := hidden (dies_big (hI.out.more hB2) hlt h8 _ _ hb2 (by rw [take5_len]; omega))
            clear hB2 hb2 hw2 hF hI
            go_wp2_with fail
            refine (hW.out).mono ?_
            rintro ev w3 ⟨b3, rfl, hI3⟩
            have hT := hidden (dies_told hI3)
            have h8' : ¬ ((sel bl (k + 1)).length : Int) < 8 := by rw [sel_full h8]; omega
            have h8f := sel_few bl (k + 1)
            clear hW hI3
            go_wp2_with fail
            refine (hT.out).mono ?_
            rintro ev w4 ⟨a4, cap4, rfl, hI4⟩
            replace hI4 := hidden hI4
            clear hT
            go_wp2_with fail
            go_roundg (13 - (k + 1))
            case measure => rw [hgk.out]; omega
            case rel => exact ⟨k + 1, by omega, rfl, by go_num, hI4⟩
        · have hb1 : ¬ bits .and .i64 (bl / 2 ^ k) 1 = 1 := hb
          have hI3 : Hid (CSt w d w.heap.size 60 jb cb mb 20 8 12 (fun _ => 0) 0 (-1) (allM rowA (sel bl (k + 1))) wr) := hidden (by rw [sel_no hb]; exact hI.out)
          clear hI hb
          go_wp2_with fail
          go_roundg (13 - (k + 1))
          case measure => rw [hgk.out]; omega
          case rel => exact ⟨k + 1, by omega, rfl, by go_num, hI3⟩
      · obtain rfl : k = 12 := by omega
        go_wp2_with fail
        go_meet
        case rel => exact hI.out
  case rest =>
    have hF1 := hidden (dies_flush1 hcut)
    clear hcut hC1
    go_wp2_with fail
    refine (hF1.out).mono ?_
    rintro ev w3 ⟨mem1, wr1, rfl, hC3, hw0, hw1, hid1, hA1⟩
    replace hC3 := hidden hC3
    replace hid1 := hidden hid1
    replace hA1 := hidden hA1
    clear hF1
    go_upto_block 2 with fail
    go_cut [10] (fun l wx => l = .int .i64 (sel bl 12).length ∧ CSt w d w.heap.size 60 jb cb mb 20 8 12 mem1 wr1 (-1) (allM (rowB X Y) (sel bl 12)) wx)
    case first =>
      go_wp2_with fail
      go_loopg [10, 11] 13 (fun gk l q wr => ∃ k : Nat, k ≤ 12 ∧ gk = 13 - k ∧ q = .int .i64 k ∧ l = .int .i64 (sel bl k).length ∧ Hid (CSt w d w.heap.size 60 jb cb mb 20 8 12 mem1 wr1 (-1) (allM (rowB X Y) (sel bl k)) wr))
      case atStart => exact ⟨0, by omega, rfl, rfl, rfl, hC3⟩
      case round =>
        obtain ⟨k, hk, hgk, rfl, rfl, hI⟩ := hrel
        replace hgk := hidden hgk
        clear hC3
        have h8f := sel_few bl k
        by_cases hlt : k < 12 ∧ (sel bl k).length < 8
        · have hl1 : (k : Int) < 12 := by omega
          have hl2 : ((sel bl k).length : Int) < 8 := by omega
          by_cases hb : bitOf bl k
          · have hb1 : bits .and .i64 (bl / 2 ^ k) 1 = 1 := hb
            replace hb := hidden hb
            have hBa : Below wr.heap.size wr (wr.alloc (.cells #[.int .u8 X, .int .u8 Y] 5)) := (Below.refl _ _).alloc (Nat.le_refl _) _
            have hW := hidden (dies_write (hI.out.more hBa) hlt.1 hb.out hlt.2 (hA1.out k (sel_in hlt.1 hb.out hlt.2)) 3 _ [X, Y] (lit_bytes wr [X, Y] (by simp; omega) (by simp) (0, 0)) (by simp) rfl)
            have hsl : ((sel bl k).length : Int) + 1 = ((sel bl (k + 1)).length : Int) := by rw [sel_yes hb.out hlt.2]; simp
            clear hBa hI
            go_wp2_with fail
            refine (hW.out).mono ?_
            rintro ev w4 ⟨rfl, hI4, -⟩
            replace hI4 := hidden hI4
            clear hW
            go_wp2_with fail
            go_roundg (13 - (k + 1))
            case measure => rw [hgk.out]; omega
            case rel => exact ⟨k + 1, by omega, rfl, by go_num, by rw [← hsl], hI4⟩
          · have hb1 : ¬ bits .and .i64 (bl / 2 ^ k) 1 = 1 := hb
            have hI4 : Hid (CSt w d w.heap.size 60 jb cb mb 20 8 12 mem1 wr1 (-1) (allM (rowB X Y) (sel bl (k + 1))) wr) := hidden (by rw [sel_no hb]; exact hI.out)
            have hsl := hidden (sel_no hb)
            clear hI hb
            go_wp2_with fail
            go_roundg (13 - (k + 1))
            case measure => rw [hgk.out]; omega
            case rel => exact ⟨k + 1, by omega, rfl, by go_num, by rw [hsl.out], hI4⟩
        · have hse := hidden (sel_end hk hlt)
          have hstop : ¬ ((k : Int) < 12 ∧ ((sel bl k).length : Int) < 8) := by omega
          go_wp2_with fail
          all_goals (go_meet; case rel => exact ⟨by rw [hse.out], by rw [← hse.out]; exact hI.out⟩)
    case rest =>
      obtain ⟨rfl, hC5⟩ := hcut
      obtain ⟨L, hL⟩ : ∃ L, (sel bl 12).length = L := ⟨_, rfl⟩
      rw [hL]
      have hL8 : L ≤ 8 := by rw [← hL]; exact sel_few bl 12
      replace hC5 := hidden hC5
      replace hL := hidden hL
      clear hC3
      by_cases hL0 : L = 0
      · subst hL0
        go_wp2_with fail
        refine (cawake_calls _ hC5.out.sys.ground (hGT.out.below hC5.out.sys.below)).mono ?_
        rintro ev w6 ⟨rfl, hB6⟩
        have hE := hidden (hC5.out.sys.below.trans (hB6.mono hC5.out.sys.below.size))
        clear hB6 hC5
        go_wp2
        go_ret
        exact ⟨rfl, hE.out⟩
      · have hL1 : ¬ (L : Int) = 0 := by omega
        have hLb : ((L : Int) == 0) = false := by simp; omega
        obtain ⟨F, hF31, eF⟩ := and31 at1
        go_wp2_with fail
        refine (sys_fuse hC5.out.sys F).mono ?_
        rintro ev w6 ⟨rfl, hS6, hA6⟩
        have hfu : fused (-1) F = F := by unfold fused; simp; omega
        rw [hfu] at hS6
        have hF2 := hidden (dies_flush2 (rowB_row hXr hYr) (hC5.out.disked (hA6.mono (by simp)) hS6) (by unfold LeftOk; omega) ⟨hw0, hw1⟩ hid1.out (by rw [hL.out]; omega))
        clear hS6 hA6 hC5 hfu
        go_wp2_with fail
        refine (hF2.out).mono ?_
        rintro ev w7 ⟨E, mem7, wr7, left7, rfl, hS7, hw7, hw7', hor⟩
        replace hS7 := hidden hS7
        replace hor := hidden hor
        clear hF2
        go_upto_region 23 with fail
        go_cut [93] (fun c wx => c = .bool false ∧ Below w7.heap.size w7 wx)
        case first =>
          rcases hor.out with ⟨rfl, -, -⟩ | ⟨b, i, rfl, hc, -⟩
          · clear hor
            go_wp2_with fail
            go_meet
            case rel => exact ⟨rfl, Below.refl _ _⟩
          · have hIs := hidden (law_is 50 (by decide) w7 sCache sNone _ _ hc (hGT.out.below hS7.out.below))
            clear hor hc
            go_wp2_with fail
            refine (hIs.out).mono ?_
            rintro ev w8 ⟨rfl, hB8⟩
            replace hB8 := hidden hB8
            go_wp2_with fail
            go_meet
            case rel => exact ⟨rfl, hB8.out⟩
        case rest =>
          obtain ⟨rfl, hB8⟩ := hcut
          rename_i wcA
          have hS8 := hidden (hS7.out.more hB8)
          clear hB8 hS7
          go_wp2_with fail
          refine (sys_power hS8.out).mono ?_
          rintro ev w9 ⟨rfl, hS9, -⟩
          have hOp := hidden (dies_open (bl := bl) (rowB_row hXr hYr) hS9 ⟨hw7, hw7'⟩ (by rw [hL.out]; omega) (E ≠ .nilIface) hA1.out (by
            rcases hor.out with ⟨-, h1, h2⟩ | ⟨b, i, h1, -, h2⟩
            · exact Or.inl ⟨h1, h2⟩
            · exact Or.inr ⟨by rw [h1]; exact fun e => (by cases e), h2⟩))
          have hEv : Hid (E = .nilIface ∨ ∃ b, E = flt b) := hidden (by
            rcases hor.out with ⟨h1, -, -⟩ | ⟨b, i, h1, -, -⟩
            · exact Or.inl h1
            · exact Or.inr ⟨b, h1⟩)
          clear hS9 hS8 hor
          go_wp2_with fail
          refine (hOp.out).mono ?_
          rintro ev w10 ⟨jb2, mem3, wr3, rfl, hS10, hJ10, hT⟩
          obtain ⟨T, hTr, hTT, hTall⟩ : ∃ T, Row T ∧ (T = rowB X Y ∨ E ≠ .nilIface ∧ T = rowA) ∧ ∀ j ∈ sel bl 12, blockL mem3 j = T := by
            rcases hT with h | ⟨h1, h2⟩
            · exact ⟨_, rowB_row hXr hYr, Or.inl rfl, h⟩
            · exact ⟨_, rowA_row, Or.inr ⟨h1, rfl⟩, h2⟩
          obtain ⟨Zc, S3, f3, f4, hS3, hf3, hf4, hFl, hFc⟩ := fill7_op
          obtain ⟨t3, ht3⟩ : ∃ t3, T.getD 3 0 = t3 := ⟨_, rfl⟩
          obtain ⟨t4, ht4⟩ : ∃ t4, T.getD 4 0 = t4 := ⟨_, rfl⟩
          have hT3 : T.take 3 = fill7.take 3 := row_take3 hTr (fun k hk => by
            rcases hTT with rfl | ⟨-, rfl⟩
            · rw [rowB_get X Y k (by omega), if_neg (by omega), if_neg (by omega)]
            · exact rowA_get k (by omega))
          have hor2 : (t3 = X ∧ t4 = Y) ∨ (E ≠ .nilIface ∧ t3 = f3 ∧ t4 = f4) := by
            rcases hTT with h | ⟨h1, h2⟩
            · left; rw [← ht3, ← ht4, h, rowB_get X Y 3 (by omega), rowB_get X Y 4 (by omega)]; simp
            · right; rw [← ht3, ← ht4, h2, hf3, hf4, rowA_get 3 (by omega), rowA_get 4 (by omega)]; exact ⟨h1, rfl, rfl⟩
          have ht3r : 0 ≤ t3 ∧ t3 ≤ 255 := by rcases hor2 with h | ⟨-, h1, -⟩; omega; rw [h1, hf3]; exact fill7_get_range 3
          have ht4r : 0 ≤ t4 ∧ t4 ≤ 255 := by rcases hor2 with h | ⟨-, -, h1⟩; omega; rw [h1, hf4]; exact fill7_get_range 4
          have kR : ∀ k, k ∈ sel bl 12 → ∀ w1, Below w10.heap.size w10 w1 → Calls Tryz.prog 24 #[ptr jb2, .int .i64 k] w1 fun e w' => ∃ b, e = .returned (.tuple #[.slice (some ⟨b, 0, none⟩) 128 128, .nilIface]) ∧ Below w10.heap.size w10 w' ∧ b < w'.heap.size ∧ (∀ w2, Below w'.heap.size w' w2 → (convert 26 9 (.slice (some ⟨b, 0, none⟩) 3 128)).run Tryz.prog w2 = .ok (.string S3) w2 ∧ w2.cell? ⟨b, 3, none⟩ = some (.int .u8 t3) ∧ w2.cell? ⟨b, 4, none⟩ = some (.int .u8 t4)) := fun k hk w1 h1 => by
            have hk12 := sel_lt bl 12 k hk
            refine (jread_row (hS10.more h1) (by decide) jb2 20 8 (hJ10.below h1) k (by omega)).mono ?_
            rintro e w' ⟨b, rfl, hLi, hb, hB⟩
            rw [hTall k hk] at hLi
            refine ⟨b, rfl, h1.trans (hB.mono h1.size), hLi.lt, fun w2 h2 => ?_⟩
            have hLi2 := hLi.below h2
            refine ⟨by rw [hS3, ← hT3]; exact conv_bytes w2 _ _ (bytes_take hTr.1 hLi2.bytes (by omega) (by omega)), ?_, ?_⟩
            · rw [← ht3]; exact hLi2.cell 3 (by omega)
            · rw [← ht4]; exact hLi2.cell 4 (by omega)
          have hBw10 := hidden hS10.below
          have hGr10 := hidden hS10.ground
          replace kR := hidden kR
          replace hFl := hidden hFl
          replace hFc := hidden hFc
          replace hor2 := hidden hor2
          clear hOp hS10 hJ10 hT hTT hTall hTr hT3 ht3 ht4 hS3 hf3 hf4
          go_upto_block 4 with fail
          go_cut [15] (fun c wx => (∃ D : Nat, D ≤ 8 ∧ c = .int .i64 D ∧ (t3 = X ∧ t4 = Y → D = L) ∧ (¬ (t3 = X ∧ t4 = Y) → D = 0)) ∧ Below w10.heap.size w10 wx)
          case first =>
            go_wp2_with fail
            go_loopg [15, 16, 17] 13 (fun gk c s q wr => ∃ k D : Nat, k ≤ 12 ∧ gk = 13 - k ∧ q = .int .i64 k ∧ s = .int .i64 (sel bl k).length ∧ c = .int .i64 D ∧ Hid (D ≤ 8 ∧ (t3 = X ∧ t4 = Y → D = (sel bl k).length) ∧ (¬ (t3 = X ∧ t4 = Y) → D = 0) ∧ Below w10.heap.size w10 wr))
            case atStart => exact ⟨0, 0, by omega, rfl, rfl, rfl, rfl, hidden ⟨by omega, fun _ => rfl, fun _ => rfl, Below.refl _ _⟩⟩
            case round =>
              obtain ⟨k, D, hk, hgk, rfl, rfl, rfl, hI⟩ := hrel
              replace hgk := hidden hgk
              have h8f := sel_few bl k
              have hD8 := hI.out.1
              by_cases hlt : k < 12 ∧ (sel bl k).length < 8
              · have hl1 : (k : Int) < 12 := by omega
                have hl2 : ((sel bl k).length : Int) < 8 := by omega
                by_cases hb : bitOf bl k
                · have hb1 : bits .and .i64 (bl / 2 ^ k) 1 = 1 := hb
                  have hsl : ((sel bl k).length : Int) + 1 = ((sel bl (k + 1)).length : Int) := by rw [sel_yes hb hlt.2]; simp
                  have hsl2 : Hid ((sel bl k).length + 1 = (sel bl (k + 1)).length) := hidden (by omega)
                  have hR := hidden (kR.out k (sel_in hlt.1 hb hlt.2) wr hI.out.2.2.2)
                  replace hI := hidden (And.intro hI.out.2.1 hI.out.2.2.1)
                  clear hb
                  go_wp2_with fail
                  refine (hR.out).mono ?_
                  rintro ev w11 ⟨b, rfl, hB11, hbl, hk11⟩
                  replace hk11 := hidden hk11
                  replace hB11 := hidden hB11
                  clear hR
                  go_upto_region 36 with fail
                  go_cut [138] (fun c wx => c = .bool false ∧ Below w11.heap.size w11 wx)
                  case first =>
                    have e1 := (hk11.out _ (below_drew1 w11)).1
                    have hF1 : Hid (Calls Tryz.prog 14 #[.int .i64 7] w11.drew fun e w' => e = .returned (.slice (some ⟨w11.heap.size, 0, none⟩) 128 128) ∧ Below w11.heap.size w11 w' ∧ (convert 26 9 (.slice (some ⟨b, 0, none⟩) 3 128)).run Tryz.prog w' = .ok (.string S3) w' ∧ (convert 26 9 (.slice (some ⟨w11.heap.size, 0, none⟩) 3 128)).run Tryz.prog w' = .ok (.string S3) w') := hidden ((hFl.out w11.drew).mono fun e w' ⟨h1, h2⟩ => by
                      have hB : Below w11.heap.size w11 w' := by rw [h2]; exact (below_drew1 w11).alloc (below_drew1 w11).size _
                      exact ⟨h1, hB, (hk11.out _ hB).1, (hFc.out w11.drew w' (by rw [h2]; exact Below.refl _ _)).1⟩)
                    clear hB11
                    refine wp_region_any (by kernel_rfl) ?_
                    try (change wpAny _ _ _ _ _ _ _ (World.drew _))
                    refine wpAny_ready (rs := [0]) (by kernel_rfl) (by simp) ?_
                    refine AllReady.cons rfl (fun K hK => ?_) AllReady.nil
                    go_simp
                    try (refine hK _ _ ?_; clear hK K)
                    refine wpAny_ready (rs := [1]) (by kernel_rfl) (by simp) ?_
                    refine AllReady.cons rfl (fun K hK => ?_) AllReady.nil
                    go_simp
                    try (refine hK _ _ ?_; clear hK K)
                    refine wpAny_ready (rs := [2]) (by kernel_rfl) (by simp) ?_
                    refine AllReady.cons rfl (fun K hK => ?_) AllReady.nil
                    go_simp
                    try (refine hK _ _ ?_; clear hK K)
                    refine wpAny_take (i := 3) (v := ?_) rfl (by kernel_rfl) (by kernel_rfl) (by kernel_rfl) (fun _ _ _ h => h) (Or.inl ⟨by rfl, ?_⟩) ?_
                    rotate_left
                    · intro w; go_simp; try (with_reducible rfl)
                    refine wpAny_ready (rs := [4, 6]) (by kernel_rfl) (by simp) ?_
                    refine AllReady.cons rfl (fun K hK => ?_) ?_
                    · go_simp
                      try (refine hK _ _ ?_; clear hK K)
                      refine wpAny_ready (rs := [5, 6]) (by kernel_rfl) (by simp) ?_
                      refine AllReady.cons rfl (fun K hK => ?_) ?_
                      · go_simp
                        try (refine hK _ _ ?_; clear hK K)
                        refine wpAny_ready (rs := [6]) (by kernel_rfl) (by simp) ?_
                        refine AllReady.cons rfl (fun K hK => ?_) AllReady.nil
                        go_simp
                        go_wp2_with (go_at_call 14; refine (hF1.out).mono ?_; rintro ev w12 ⟨rfl, hB12, e2, e3⟩)
                        try (refine hK _ _ ?_; clear hK K)
                        refine wpAny_ready (rs := [7]) (by kernel_rfl) (by simp) ?_
                        refine AllReady.cons rfl (fun K hK => ?_) AllReady.nil
                        go_simp
                        try (refine hK _ _ ?_; clear hK K)
                        refine wpAny_ready (rs := [8]) (by kernel_rfl) (by simp) ?_
                        refine AllReady.cons rfl (fun K hK => ?_) AllReady.nil
                        go_simp
                        try (refine hK _ _ ?_; clear hK K)
                        refine wpAny_ready (rs := [9]) (by kernel_rfl) (by simp) ?_
                        refine AllReady.cons rfl (fun K hK => ?_) AllReady.nil
                        go_simp
                        try (refine hK _ _ ?_; clear hK K)
                        refine wpAny_ready (rs := [10]) (by kernel_rfl) (by simp) ?_
                        refine AllReady.cons rfl (fun K hK => ?_) AllReady.nil
                        go_simp
                        try (refine hK _ _ ?_; clear hK K)
                        refine wpAny_done (by kernel_rfl) ?_ _
                        go_wp2_with fail
                        go_meet
                        case rel => exact ⟨rfl, hB12⟩
                      refine AllReady.cons rfl (fun K hK => ?_) ?_
                      · go_simp
                        go_wp2_with (go_at_call 14; refine (hF1.out).mono ?_; rintro ev w12 ⟨rfl, hB12, e2, e3⟩)
                        try (refine hK _ _ ?_; clear hK K)
                        refine wpAny_ready (rs := [5, 7]) (by kernel_rfl) (by simp) ?_
                        refine AllReady.cons rfl (fun K hK => ?_) ?_
                        · go_simp
                          try (refine hK _ _ ?_; clear hK K)
                          refine wpAny_ready (rs := [7]) (by kernel_rfl) (by simp) ?_
                          refine AllReady.cons rfl (fun K hK => ?_) AllReady.nil
                          go_simp
                          try (refine hK _ _ ?_; clear hK K)
                          refine wpAny_ready (rs := [8]) (by kernel_rfl) (by simp) ?_
                          refine AllReady.cons rfl (fun K hK => ?_) AllReady.nil
                          go_simp
                          try (refine hK _ _ ?_; clear hK K)
                          refine wpAny_ready (rs := [9]) (by kernel_rfl) (by simp) ?_
                          refine AllReady.cons rfl (fun K hK => ?_) AllReady.nil
                          go_simp
                          try (refine hK _ _ ?_; clear hK K)
                          refine wpAny_ready (rs := [10]) (by kernel_rfl) (by simp) ?_
                          refine AllReady.cons rfl (fun K hK => ?_) AllReady.nil
                          go_simp
                          try (refine hK _ _ ?_; clear hK K)
                          refine wpAny_done (by kernel_rfl) ?_ _
                          go_wp2_with fail
                          go_meet
                          case rel => exact ⟨rfl, hB12⟩
                        refine AllReady.cons rfl (fun K hK => ?_) ?_
                        · go_simp
                          try (refine hK _ _ ?_; clear hK K)
                          refine wpAny_ready (rs := [5, 8]) (by kernel_rfl) (by simp) ?_
                          refine AllReady.cons rfl (fun K hK => ?_) ?_
                          · go_simp
                            try (refine hK _ _ ?_; clear hK K)
                            refine wpAny_ready (rs := [8]) (by kernel_rfl) (by simp) ?_
                            refine AllReady.cons rfl (fun K hK => ?_) AllReady.nil
                            go_simp
                            try (refine hK _ _ ?_; clear hK K)
                            refine wpAny_ready (rs := [9]) (by kernel_rfl) (by simp) ?_
                            refine AllReady.cons rfl (fun K hK => ?_) AllReady.nil
                            go_simp
                            try (refine hK _ _ ?_; clear hK K)
                            refine wpAny_ready (rs := [10]) (by kernel_rfl) (by simp) ?_
                            refine AllReady.cons rfl (fun K hK => ?_) AllReady.nil
                            go_simp
                            try (refine hK _ _ ?_; clear hK K)
                            refine wpAny_done (by kernel_rfl) ?_ _
                            go_wp2_with fail
                            go_meet
                            case rel => exact ⟨rfl, hB12⟩
                          refine AllReady.cons rfl (fun K hK => ?_) ?_
                          · go_simp
                            try (refine hK _ _ ?_; clear hK K)
                            refine wpAny_ready (rs := [5]) (by kernel_rfl) (by simp) ?_
                            refine AllReady.cons rfl (fun K hK => ?_) AllReady.nil
                            go_simp
                            try (refine hK _ _ ?_; clear hK K)
                            refine wpAny_ready (rs := [9]) (by kernel_rfl) (by simp) ?_
                            refine AllReady.cons rfl (fun K hK => ?_) AllReady.nil
                            go_simp
                            try (refine hK _ _ ?_; clear hK K)
                            refine wpAny_ready (rs := [10]) (by kernel_rfl) (by simp) ?_
                            refine AllReady.cons rfl (fun K hK => ?_) AllReady.nil
                            go_simp
                            try (refine hK _ _ ?_; clear hK K)
                            refine wpAny_done (by kernel_rfl) ?_ _
                            go_wp2_with fail
                            go_meet
                            case rel => exact ⟨rfl, hB12⟩
                          exact AllReady.nil
                        exact AllReady.nil
                      exact AllReady.nil
                    refine AllReady.cons rfl (fun K hK => ?_) ?_
                    · go_simp
                      go_wp2_with (go_at_call 14; refine (hF1.out).mono ?_; rintro ev w12 ⟨rfl, hB12, e2, e3⟩)
                      try (refine hK _ _ ?_; clear hK K)
                      refine wpAny_ready (rs := [4, 7]) (by kernel_rfl) (by simp) ?_
                      refine AllReady.cons rfl (fun K hK => ?_) ?_
                      · go_simp
                        try (refine hK _ _ ?_; clear hK K)
                        refine wpAny_ready (rs := [5, 7]) (by kernel_rfl) (by simp) ?_
                        refine AllReady.cons rfl (fun K hK => ?_) ?_
                        · go_simp
                          try (refine hK _ _ ?_; clear hK K)
                          refine wpAny_ready (rs := [7]) (by kernel_rfl) (by simp) ?_
                          refine AllReady.cons rfl (fun K hK => ?_) AllReady.nil
                          go_simp
                          try (refine hK _ _ ?_; clear hK K)
                          refine wpAny_ready (rs := [8]) (by kernel_rfl) (by simp) ?_
                          refine AllReady.cons rfl (fun K hK => ?_) AllReady.nil
                          go_simp
                          try (refine hK _ _ ?_; clear hK K)
                          refine wpAny_ready (rs := [9]) (by kernel_rfl) (by simp) ?_
                          refine AllReady.cons rfl (fun K hK => ?_) AllReady.nil
                          go_simp
                          try (refine hK _ _ ?_; clear hK K)
                          refine wpAny_ready (rs := [10]) (by kernel_rfl) (by simp) ?_
                          refine AllReady.cons rfl (fun K hK => ?_) AllReady.nil
                          go_simp
                          try (refine hK _ _ ?_; clear hK K)
                          refine wpAny_done (by kernel_rfl) ?_ _
                          go_wp2_with fail
                          go_meet
                          case rel => exact ⟨rfl, hB12⟩
                        refine AllReady.cons rfl (fun K hK => ?_) ?_
                        · go_simp
                          try (refine hK _ _ ?_; clear hK K)
                          refine wpAny_ready (rs := [5, 8]) (by kernel_rfl) (by simp) ?_
                          refine AllReady.cons rfl (fun K hK => ?_) ?_
                          · go_simp
                            try (refine hK _ _ ?_; clear hK K)
                            refine wpAny_ready (rs := [8]) (by kernel_rfl) (by simp) ?_
                            refine AllReady.cons rfl (fun K hK => ?_) AllReady.nil
                            go_simp
                            try (refine hK _ _ ?_; clear hK K)
                            refine wpAny_ready (rs := [9]) (by kernel_rfl) (by simp) ?_
                            refine AllReady.cons rfl (fun K hK => ?_) AllReady.nil
                            go_simp
                            try (refine hK _ _ ?_; clear hK K)
                            refine wpAny_ready (rs := [10]) (by kernel_rfl) (by simp) ?_
                            refine AllReady.cons rfl (fun K hK => ?_) AllReady.nil
                            go_simp
                            try (refine hK _ _ ?_; clear hK K)
                            refine wpAny_done (by kernel_rfl) ?_ _
                            go_wp2_with fail
                            go_meet
                            case rel => exact ⟨rfl, hB12⟩
                          refine AllReady.cons rfl (fun K hK => ?_) ?_
                          · go_simp
                            try (refine hK _ _ ?_; clear hK K)
                            refine wpAny_ready (rs := [5]) (by kernel_rfl) (by simp) ?_
                            refine AllReady.cons rfl (fun K hK => ?_) AllReady.nil
                            go_simp
                            try (refine hK _ _ ?_; clear hK K)
                            refine wpAny_ready (rs := [9]) (by kernel_rfl) (by simp) ?_
                            refine AllReady.cons rfl (fun K hK => ?_) AllReady.nil
                            go_simp
                            try (refine hK _ _ ?_; clear hK K)
                            refine wpAny_ready (rs := [10]) (by kernel_rfl) (by simp) ?_
                            refine AllReady.cons rfl (fun K hK => ?_) AllReady.nil
                            go_simp
                            try (refine hK _ _ ?_; clear hK K)
                            refine wpAny_done (by kernel_rfl) ?_ _
                            go_wp2_with fail
                            go_meet
                            case rel => exact ⟨rfl, hB12⟩
                          exact AllReady.nil
                        exact AllReady.nil
                      refine AllReady.cons rfl (fun K hK => ?_) ?_
                      · go_simp
                        try (refine hK _ _ ?_; clear hK K)
                        refine wpAny_ready (rs := [4, 8]) (by kernel_rfl) (by simp) ?_
                        refine AllReady.cons rfl (fun K hK => ?_) ?_
                        · go_simp
                          try (refine hK _ _ ?_; clear hK K)
                          refine wpAny_ready (rs := [5, 8]) (by kernel_rfl) (by simp) ?_
                          refine AllReady.cons rfl (fun K hK => ?_) ?_
                          · go_simp
                            try (refine hK _ _ ?_; clear hK K)
                            refine wpAny_ready (rs := [8]) (by kernel_rfl) (by simp) ?_
                            refine AllReady.cons rfl (fun K hK => ?_) AllReady.nil
                            go_simp
                            try (refine hK _ _ ?_; clear hK K)
                            refine wpAny_ready (rs := [9]) (by kernel_rfl) (by simp) ?_
                            refine AllReady.cons rfl (fun K hK => ?_) AllReady.nil
                            go_simp
                            try (refine hK _ _ ?_; clear hK K)
                            refine wpAny_ready (rs := [10]) (by kernel_rfl) (by simp) ?_
                            refine AllReady.cons rfl (fun K hK => ?_) AllReady.nil
                            go_simp
                            try (refine hK _ _ ?_; clear hK K)
                            refine wpAny_done (by kernel_rfl) ?_ _
                            go_wp2_with fail
                            go_meet
                            case rel => exact ⟨rfl, hB12⟩
                          refine AllReady.cons rfl (fun K hK => ?_) ?_
                          · go_simp
                            try (refine hK _ _ ?_; clear hK K)
                            refine wpAny_ready (rs := [5]) (by kernel_rfl) (by simp) ?_
                            refine AllReady.cons rfl (fun K hK => ?_) AllReady.nil
                            go_simp
                            try (refine hK _ _ ?_; clear hK K)
                            refine wpAny_ready (rs := [9]) (by kernel_rfl) (by simp) ?_
                            refine AllReady.cons rfl (fun K hK => ?_) AllReady.nil
                            go_simp
                            try (refine hK _ _ ?_; clear hK K)
                            refine wpAny_ready (rs := [10]) (by kernel_rfl) (by simp) ?_
                            refine AllReady.cons rfl (fun K hK => ?_) AllReady.nil
                            go_simp
                            try (refine hK _ _ ?_; clear hK K)
                            refine wpAny_done (by kernel_rfl) ?_ _
                            go_wp2_with fail
                            go_meet
                            case rel => exact ⟨rfl, hB12⟩
                          exact AllReady.nil
                        refine AllReady.cons rfl (fun K hK => ?_) ?_
                        · go_simp
                          try (refine hK _ _ ?_; clear hK K)
                          refine wpAny_ready (rs := [4]) (by kernel_rfl) (by simp) ?_
                          refine AllReady.cons rfl (fun K hK => ?_) AllReady.nil
                          go_simp
                          try (refine hK _ _ ?_; clear hK K)
                          refine wpAny_ready (rs := [5]) (by kernel_rfl) (by simp) ?_
                          refine AllReady.cons rfl (fun K hK => ?_) AllReady.nil
                          go_simp
                          try (refine hK _ _ ?_; clear hK K)
                          refine wpAny_ready (rs := [9]) (by kernel_rfl) (by simp) ?_
                          refine AllReady.cons rfl (fun K hK => ?_) AllReady.nil
                          go_simp
                          try (refine hK _ _ ?_; clear hK K)
                          refine wpAny_ready (rs := [10]) (by kernel_rfl) (by simp) ?_
                          refine AllReady.cons rfl (fun K hK => ?_) AllReady.nil
                          go_simp
                          try (refine hK _ _ ?_; clear hK K)
                          refine wpAny_done (by kernel_rfl) ?_ _
                          go_wp2_with fail
                          go_meet
                          case rel => exact ⟨rfl, hB12⟩
                        exact AllReady.nil
                      exact AllReady.nil
                    exact AllReady.nil
                  case rest =>
                    obtain ⟨rfl, hB12⟩ := hcut
                    have hB13 := hidden (hB11.out.trans (hB12.mono hB11.out.size))
                    obtain ⟨-, c3, c4⟩ := hk11.out _ hB12
                    have hkd := hidden (fun w2 (h2 : Below wc.heap.size wc w2) => hk11.out w2 (hB12.trans (h2.mono hB12.size)))
                    clear hB12 hk11 hB11
                    generalize wc = wd at c3 c4 hkd hB13 ⊢
                    by_cases hit : t3 = X ∧ t4 = Y
                    · have i3 : (t3 == X) = true := by simp [hit.1]
                      have i4 : (t4 == Y) = true := by simp [hit.2]
                      obtain ⟨rfl, rfl⟩ := hit
                      have hI5 : Hid (D + 1 ≤ 8 ∧ (t3 = t3 ∧ t4 = t4 → D + 1 = (sel bl (k + 1)).length) ∧ (¬ (t3 = t3 ∧ t4 = t4) → D + 1 = 0) ∧ Below w10.heap.size w10 wd) := hidden ⟨by have := hI.out.1 ⟨rfl, rfl⟩; omega, fun _ => by rw [hI.out.1 ⟨rfl, rfl⟩]; exact hsl2.out, fun h => absurd ⟨rfl, rfl⟩ h, hB13.out⟩
                      go_wp2_with fail
                      go_roundg (13 - (k + 1))
                      case measure => rw [hgk.out]; omega
                      case rel => exact ⟨k + 1, D + 1, by omega, rfl, by go_num, by rw [← hsl], by go_num, hI5⟩
                    · obtain ⟨hbad, h3, h4⟩ := hor2.out.resolve_left hit
                      have hI5 : Hid (∀ wx, Below w10.heap.size w10 wx → D ≤ 8 ∧ (t3 = X ∧ t4 = Y → D = (sel bl (k + 1)).length) ∧ (¬ (t3 = X ∧ t4 = Y) → D = 0) ∧ Below w10.heap.size w10 wx) := hidden fun wx hx => ⟨hD8, fun h => absurd h hit, hI.out.2, hx⟩
                      have hnt : ¬ (t3 = X ∧ t4 = Y) := hit
                      replace hit := hidden hit
                      replace h3 := hidden h3
                      replace h4 := hidden h4
                      go_upto_region 38 with fail
                      go_cut [153] (fun c wx => c = .bool false ∧ wd = wx)
                      case first =>
                        by_cases i3 : t3 = X
                        · have i4 : ¬ t4 = Y := fun e => hnt ⟨i3, e⟩
                          go_wp2_with fail
                          go_meet
                          case rel => exact ⟨by simp [i4], rfl⟩
                        · go_wp2_with fail
                          go_meet
                          case rel => exact ⟨by simp, rfl⟩
                      case rest =>
                      obtain ⟨rfl, rfl⟩ := hcut
                      clear hnt
                      replace h3 := h3.out
                      replace h4 := h4.out
                      subst h3 h4
                      have hdr := below_drew1 wd
                      have c3d := (hdr.cell (p := ⟨b, 3, none⟩) (lt_of_cell (a := ⟨b, 3, none⟩) c3)).trans c3
                      have c4d := (hdr.cell (p := ⟨b, 4, none⟩) (lt_of_cell (a := ⟨b, 4, none⟩) c4)).trans c4
                      have hF1 : Hid (Calls Tryz.prog 14 #[.int .i64 7] wd.drew fun e w' => e = .returned (.slice (some ⟨wd.heap.size, 0, none⟩) 128 128) ∧ Below wd.heap.size wd w' ∧ w'.cell? ⟨b, 3, none⟩ = some (.int .u8 t3) ∧ w'.cell? ⟨b, 4, none⟩ = some (.int .u8 t4) ∧ w'.cell? ⟨wd.heap.size, 3, none⟩ = some (.int .u8 t3)) := hidden ((hFl.out wd.drew).mono fun e w' ⟨h1, h2⟩ => by
                        have hB : Below wd.heap.size wd w' := by rw [h2]; exact hdr.alloc hdr.size _
                        exact ⟨h1, hB, (hkd.out _ hB).2.1, (hkd.out _ hB).2.2, (hFc.out wd.drew w' (by rw [h2]; exact Below.refl _ _)).2.1⟩)
                      have kF2 : Hid (∀ wx, Below wd.heap.size wd wx → Calls Tryz.prog 14 #[.int .i64 7] wx fun e w' => e = .returned (.slice (some ⟨wx.heap.size, 0, none⟩) 128 128) ∧ Below wd.heap.size wd w' ∧ w'.cell? ⟨b, 4, none⟩ = some (.int .u8 t4) ∧ w'.cell? ⟨wx.heap.size, 4, none⟩ = some (.int .u8 t4)) := hidden fun wx hx => (hFl.out wx).mono fun e w' ⟨h1, h2⟩ => by
                        have hB : Below wd.heap.size wd w' := by rw [h2]; exact hx.alloc hx.size _
                        exact ⟨h1, hB, (hkd.out _ hB).2.2, (hFc.out wx w' (by rw [h2]; exact Below.refl _ _)).2.2⟩
                      go_upto_region 40 with fail
                      go_cut [171] (fun c wx => c = .bool false ∧ Below wd.heap.size wd wx)
                      case first =>
                        clear hI5 hB13
                        refine wp_region_any (by kernel_rfl) ?_
                        try (change wpAny _ _ _ _ _ _ _ (World.drew _))
                        refine wpAny_take (i := 0) (v := ?_) rfl (by kernel_rfl) (by kernel_rfl) (by kernel_rfl) (fun _ _ _ h => h) (Or.inl ⟨by rfl, ?_⟩) ?_
                        rotate_left
                        · intro w; go_simp; try (with_reducible rfl)
                        refine wpAny_take (i := 1) (v := ?_) rfl (by kernel_rfl) (by kernel_rfl) (by kernel_rfl) (fun _ _ _ h => h) (Or.inl ⟨by rfl, ?_⟩) ?_
                        rotate_left
                        · intro w; go_simp; try (with_reducible rfl)
                        refine wpAny_ready (rs := [2, 3]) (by kernel_rfl) (by simp) ?_
                        refine AllReady.cons rfl (fun K hK => ?_) ?_
                        · go_simp
                          try (refine hK _ _ ?_; clear hK K)
                          refine wpAny_ready (rs := [3]) (by kernel_rfl) (by simp) ?_
                          refine AllReady.cons rfl (fun K hK => ?_) AllReady.nil
                          go_simp
                          go_wp2_with (go_at_call 14; refine (hF1.out).mono ?_; rintro ev w14 ⟨rfl, hB14, c3b, c4b, g3⟩; have hF2 := kF2.out _ hB14)
                          try (refine hK _ _ ?_; clear hK K)
                          refine wpAny_ready (rs := [4]) (by kernel_rfl) (by simp) ?_
                          refine AllReady.cons rfl (fun K hK => ?_) AllReady.nil
                          go_simp
                          try (refine hK _ _ ?_; clear hK K)
                          refine wpAny_ready (rs := [5]) (by kernel_rfl) (by simp) ?_
                          refine AllReady.cons rfl (fun K hK => ?_) AllReady.nil
                          go_simp
                          try (refine hK _ _ ?_; clear hK K)
                          refine wpAny_ready (rs := [6]) (by kernel_rfl) (by simp) ?_
                          refine AllReady.cons rfl (fun K hK => ?_) AllReady.nil
                          go_simp
                          try (refine hK _ _ ?_; clear hK K)
                          refine wpAny_ready (rs := [7]) (by kernel_rfl) (by simp) ?_
                          refine AllReady.cons rfl (fun K hK => ?_) AllReady.nil
                          go_simp
                          try (refine hK _ _ ?_; clear hK K)
                          refine wpAny_take (i := 8) (v := ?_) rfl (by kernel_rfl) (by kernel_rfl) (by kernel_rfl) (fun _ _ _ h => h) (Or.inl ⟨by rfl, ?_⟩) ?_
                          rotate_left
                          · intro w; go_simp; try (with_reducible rfl)
                          refine wpAny_take (i := 9) (v := ?_) rfl (by kernel_rfl) (by kernel_rfl) (by kernel_rfl) (fun _ _ _ h => h) (Or.inl ⟨by rfl, ?_⟩) ?_
                          rotate_left
                          · intro w; go_simp; try (with_reducible rfl)
                          refine wpAny_ready (rs := [10, 11]) (by kernel_rfl) (by simp) ?_
                          refine AllReady.cons rfl (fun K hK => ?_) ?_
                          · go_simp
                            try (refine hK _ _ ?_; clear hK K)
                            refine wpAny_ready (rs := [11]) (by kernel_rfl) (by simp) ?_
                            refine AllReady.cons rfl (fun K hK => ?_) AllReady.nil
                            go_simp
                            go_wp2_with (go_at_call 14; refine (hF2).mono ?_; rintro ev w15 ⟨rfl, hB15, c4c, g4⟩)
                            try (refine hK _ _ ?_; clear hK K)
                            refine wpAny_ready (rs := [12]) (by kernel_rfl) (by simp) ?_
                            refine AllReady.cons rfl (fun K hK => ?_) AllReady.nil
                            go_simp
                            try (refine hK _ _ ?_; clear hK K)
                            refine wpAny_ready (rs := [13]) (by kernel_rfl) (by simp) ?_
                            refine AllReady.cons rfl (fun K hK => ?_) AllReady.nil
                            go_simp
                            try (refine hK _ _ ?_; clear hK K)
                            refine wpAny_ready (rs := [14]) (by kernel_rfl) (by simp) ?_
                            refine AllReady.cons rfl (fun K hK => ?_) AllReady.nil
                            go_simp
                            try (refine hK _ _ ?_; clear hK K)
                            refine wpAny_ready (rs := [15]) (by kernel_rfl) (by simp) ?_
                            refine AllReady.cons rfl (fun K hK => ?_) AllReady.nil
                            go_simp
                            try (refine hK _ _ ?_; clear hK K)
                            refine wpAny_done (by kernel_rfl) ?_ _
                            go_wp2_with fail
                            go_meet
                            case rel => exact ⟨rfl, hB15⟩
                          refine AllReady.cons rfl (fun K hK => ?_) ?_
                          · go_simp
                            go_wp2_with (go_at_call 14; refine (hF2).mono ?_; rintro ev w15 ⟨rfl, hB15, c4c, g4⟩)
                            try (refine hK _ _ ?_; clear hK K)
                            refine wpAny_take (i := 12) (v := ?_) rfl (by kernel_rfl) (by kernel_rfl) (by kernel_rfl) (fun _ _ _ h => h) (Or.inl ⟨by rfl, ?_⟩) ?_
                            rotate_left
                            · intro w; go_simp; try (with_reducible rfl)
                            refine wpAny_ready (rs := [10, 13]) (by kernel_rfl) (by simp) ?_
                            refine AllReady.cons rfl (fun K hK => ?_) ?_
                            · go_simp
                              try (refine hK _ _ ?_; clear hK K)
                              refine wpAny_ready (rs := [13]) (by kernel_rfl) (by simp) ?_
                              refine AllReady.cons rfl (fun K hK => ?_) AllReady.nil
                              go_simp
                              try (refine hK _ _ ?_; clear hK K)
                              refine wpAny_ready (rs := [14]) (by kernel_rfl) (by simp) ?_
                              refine AllReady.cons rfl (fun K hK => ?_) AllReady.nil
                              go_simp
                              try (refine hK _ _ ?_; clear hK K)
                              refine wpAny_ready (rs := [15]) (by kernel_rfl) (by simp) ?_
                              refine AllReady.cons rfl (fun K hK => ?_) AllReady.nil
                              go_simp
                              try (refine hK _ _ ?_; clear hK K)
                              refine wpAny_done (by kernel_rfl) ?_ _
                              go_wp2_with fail
                              go_meet
                              case rel => exact ⟨rfl, hB15⟩
                            refine AllReady.cons rfl (fun K hK => ?_) ?_
                            · go_simp
                              try (refine hK _ _ ?_; clear hK K)
                              refine wpAny_ready (rs := [10]) (by kernel_rfl) (by simp) ?_
                              refine AllReady.cons rfl (fun K hK => ?_) AllReady.nil
                              go_simp
                              try (refine hK _ _ ?_; clear hK K)
                              refine wpAny_ready (rs := [14]) (by kernel_rfl) (by simp) ?_
                              refine AllReady.cons rfl (fun K hK => ?_) AllReady.nil
                              go_simp
                              try (refine hK _ _ ?_; clear hK K)
                              refine wpAny_ready (rs := [15]) (by kernel_rfl) (by simp) ?_
                              refine AllReady.cons rfl (fun K hK => ?_) AllReady.nil
                              go_simp
                              try (refine hK _ _ ?_; clear hK K)
                              refine wpAny_done (by kernel_rfl) ?_ _
                              go_wp2_with fail
                              go_meet
                              case rel => exact ⟨rfl, hB15⟩
                            exact AllReady.nil
                          exact AllReady.nil
                        refine AllReady.cons rfl (fun K hK => ?_) ?_
                        · go_simp
                          go_wp2_with (go_at_call 14; refine (hF1.out).mono ?_; rintro ev w14 ⟨rfl, hB14, c3b, c4b, g3⟩; have hF2 := kF2.out _ hB14)
                          try (refine hK _ _ ?_; clear hK K)
                          refine wpAny_take (i := 4) (v := ?_) rfl (by kernel_rfl) (by kernel_rfl) (by kernel_rfl) (fun _ _ _ h => h) (Or.inl ⟨by rfl, ?_⟩) ?_
                          rotate_left
                          · intro w; go_simp; try (with_reducible rfl)
                          refine wpAny_ready (rs := [2, 5]) (by kernel_rfl) (by simp) ?_
                          refine AllReady.cons rfl (fun K hK => ?_) ?_
                          · go_simp
                            try (refine hK _ _ ?_; clear hK K)
                            refine wpAny_ready (rs := [5]) (by kernel_rfl) (by simp) ?_
                            refine AllReady.cons rfl (fun K hK => ?_) AllReady.nil
                            go_simp
                            try (refine hK _ _ ?_; clear hK K)
                            refine wpAny_ready (rs := [6]) (by kernel_rfl) (by simp) ?_
                            refine AllReady.cons rfl (fun K hK => ?_) AllReady.nil
                            go_simp
                            try (refine hK _ _ ?_; clear hK K)
                            refine wpAny_ready (rs := [7]) (by kernel_rfl) (by simp) ?_
                            refine AllReady.cons rfl (fun K hK => ?_) AllReady.nil
                            go_simp
                            try (refine hK _ _ ?_; clear hK K)
                            refine wpAny_take (i := 8) (v := ?_) rfl (by kernel_rfl) (by kernel_rfl) (by kernel_rfl) (fun _ _ _ h => h) (Or.inl ⟨by rfl, ?_⟩) ?_
                            rotate_left
                            · intro w; go_simp; try (with_reducible rfl)
                            refine wpAny_take (i := 9) (v := ?_) rfl (by kernel_rfl) (by kernel_rfl) (by kernel_rfl) (fun _ _ _ h => h) (Or.inl ⟨by rfl, ?_⟩) ?_
                            rotate_left
                            · intro w; go_simp; try (with_reducible rfl)
                            refine wpAny_ready (rs := [10, 11]) (by kernel_rfl) (by simp) ?_
                            refine AllReady.cons rfl (fun K hK => ?_) ?_
                            · go_simp
                              try (refine hK _ _ ?_; clear hK K)
                              refine wpAny_ready (rs := [11]) (by kernel_rfl) (by simp) ?_
                              refine AllReady.cons rfl (fun K hK => ?_) AllReady.nil
                              go_simp
                              go_wp2_with (go_at_call 14; refine (hF2).mono ?_; rintro ev w15 ⟨rfl, hB15, c4c, g4⟩)
                              try (refine hK _ _ ?_; clear hK K)
                              refine wpAny_ready (rs := [12]) (by kernel_rfl) (by simp) ?_
                              refine AllReady.cons rfl (fun K hK => ?_) AllReady.nil
                              go_simp
                              try (refine hK _ _ ?_; clear hK K)
                              refine wpAny_ready (rs := [13]) (by kernel_rfl) (by simp) ?_
                              refine AllReady.cons rfl (fun K hK => ?_) AllReady.nil
                              go_simp
                              try (refine hK _ _ ?_; clear hK K)
                              refine wpAny_ready (rs := [14]) (by kernel_rfl) (by simp) ?_
                              refine AllReady.cons rfl (fun K hK => ?_) AllReady.nil
                              go_simp
                              try (refine hK _ _ ?_; clear hK K)
                              refine wpAny_ready (rs := [15]) (by kernel_rfl) (by simp) ?_
                              refine AllReady.cons rfl (fun K hK => ?_) AllReady.nil
                              go_simp
                              try (refine hK _ _ ?_; clear hK K)
                              refine wpAny_done (by kernel_rfl) ?_ _
                              go_wp2_with fail
                              go_meet
                              case rel => exact ⟨rfl, hB15⟩
                            refine AllReady.cons rfl (fun K hK => ?_) ?_
                            · go_simp
                              go_wp2_with (go_at_call 14; refine (hF2).mono ?_; rintro ev w15 ⟨rfl, hB15, c4c, g4⟩)
                              try (refine hK _ _ ?_; clear hK K)
                              refine wpAny_take (i := 12) (v := ?_) rfl (by kernel_rfl) (by kernel_rfl) (by kernel_rfl) (fun _ _ _ h => h) (Or.inl ⟨by rfl, ?_⟩) ?_
                              rotate_left
                              · intro w; go_simp; try (with_reducible rfl)
                              refine wpAny_ready (rs := [10, 13]) (by kernel_rfl) (by simp) ?_
                              refine AllReady.cons rfl (fun K hK => ?_) ?_
                              · go_simp
                                try (refine hK _ _ ?_; clear hK K)
                                refine wpAny_ready (rs := [13]) (by kernel_rfl) (by simp) ?_
                                refine AllReady.cons rfl (fun K hK => ?_) AllReady.nil
                                go_simp
                                try (refine hK _ _ ?_; clear hK K)
                                refine wpAny_ready (rs := [14]) (by kernel_rfl) (by simp) ?_
                                refine AllReady.cons rfl (fun K hK => ?_) AllReady.nil
                                go_simp
                                try (refine hK _ _ ?_; clear hK K)
                                refine wpAny_ready (rs := [15]) (by kernel_rfl) (by simp) ?_
                                refine AllReady.cons rfl (fun K hK => ?_) AllReady.nil
                                go_simp
                                try (refine hK _ _ ?_; clear hK K)
                                refine wpAny_done (by kernel_rfl) ?_ _
                                go_wp2_with fail
                                go_meet
                                case rel => exact ⟨rfl, hB15⟩
                              refine AllReady.cons rfl (fun K hK => ?_) ?_
                              · go_simp
                                try (refine hK _ _ ?_; clear hK K)
                                refine wpAny_ready (rs := [10]) (by kernel_rfl) (by simp) ?_
                                refine AllReady.cons rfl (fun K hK => ?_) AllReady.nil
                                go_simp
                                try (refine hK _ _ ?_; clear hK K)
                                refine wpAny_ready (rs := [14]) (by kernel_rfl) (by simp) ?_
                                refine AllReady.cons rfl (fun K hK => ?_) AllReady.nil
                                go_simp
                                try (refine hK _ _ ?_; clear hK K)
                                refine wpAny_ready (rs := [15]) (by kernel_rfl) (by simp) ?_
                                refine AllReady.cons rfl (fun K hK => ?_) AllReady.nil
                                go_simp
                                try (refine hK _ _ ?_; clear hK K)
                                refine wpAny_done (by kernel_rfl) ?_ _
                                go_wp2_with fail
                                go_meet
                                case rel => exact ⟨rfl, hB15⟩
                              exact AllReady.nil
                            exact AllReady.nil
                          refine AllReady.cons rfl (fun K hK => ?_) ?_
                          · go_simp
                            try (refine hK _ _ ?_; clear hK K)
                            refine wpAny_ready (rs := [2]) (by kernel_rfl) (by simp) ?_
                            refine AllReady.cons rfl (fun K hK => ?_) AllReady.nil
                            go_simp
                            try (refine hK _ _ ?_; clear hK K)
                            refine wpAny_ready (rs := [6]) (by kernel_rfl) (by simp) ?_
                            refine AllReady.cons rfl (fun K hK => ?_) AllReady.nil
                            go_simp
                            try (refine hK _ _ ?_; clear hK K)
                            refine wpAny_ready (rs := [7]) (by kernel_rfl) (by simp) ?_
                            refine AllReady.cons rfl (fun K hK => ?_) AllReady.nil
                            go_simp
                            try (refine hK _ _ ?_; clear hK K)
                            refine wpAny_take (i := 8) (v := ?_) rfl (by kernel_rfl) (by kernel_rfl) (by kernel_rfl) (fun _ _ _ h => h) (Or.inl ⟨by rfl, ?_⟩) ?_
                            rotate_left
                            · intro w; go_simp; try (with_reducible rfl)
                            refine wpAny_take (i := 9) (v := ?_) rfl (by kernel_rfl) (by kernel_rfl) (by kernel_rfl) (fun _ _ _ h => h) (Or.inl ⟨by rfl, ?_⟩) ?_
                            rotate_left
                            · intro w; go_simp; try (with_reducible rfl)
                            refine wpAny_ready (rs := [10, 11]) (by kernel_rfl) (by simp) ?_
                            refine AllReady.cons rfl (fun K hK => ?_) ?_
                            · go_simp
                              try (refine hK _ _ ?_; clear hK K)
                              refine wpAny_ready (rs := [11]) (by kernel_rfl) (by simp) ?_
                              refine AllReady.cons rfl (fun K hK => ?_) AllReady.nil
                              go_simp
                              go_wp2_with (go_at_call 14; refine (hF2).mono ?_; rintro ev w15 ⟨rfl, hB15, c4c, g4⟩)
                              try (refine hK _ _ ?_; clear hK K)
                              refine wpAny_ready (rs := [12]) (by kernel_rfl) (by simp) ?_
                              refine AllReady.cons rfl (fun K hK => ?_) AllReady.nil
                              go_simp
                              try (refine hK _ _ ?_; clear hK K)
                              refine wpAny_ready (rs := [13]) (by kernel_rfl) (by simp) ?_
                              refine AllReady.cons rfl (fun K hK => ?_) AllReady.nil
                              go_simp
                              try (refine hK _ _ ?_; clear hK K)
                              refine wpAny_ready (rs := [14]) (by kernel_rfl) (by simp) ?_
                              refine AllReady.cons rfl (fun K hK => ?_) AllReady.nil
                              go_simp
                              try (refine hK _ _ ?_; clear hK K)
                              refine wpAny_ready (rs := [15]) (by kernel_rfl) (by simp) ?_
                              refine AllReady.cons rfl (fun K hK => ?_) AllReady.nil
                              go_simp
                              try (refine hK _ _ ?_; clear hK K)
                              refine wpAny_done (by kernel_rfl) ?_ _
                              go_wp2_with fail
                              go_meet
                              case rel => exact ⟨rfl, hB15⟩
                            refine AllReady.cons rfl (fun K hK => ?_) ?_
                            · go_simp
                              go_wp2_with (go_at_call 14; refine (hF2).mono ?_; rintro ev w15 ⟨rfl, hB15, c4c, g4⟩)
                              try (refine hK _ _ ?_; clear hK K)
                              refine wpAny_take (i := 12) (v := ?_) rfl (by kernel_rfl) (by kernel_rfl) (by kernel_rfl) (fun _ _ _ h => h) (Or.inl ⟨by rfl, ?_⟩) ?_
                              rotate_left
                              · intro w; go_simp; try (with_reducible rfl)
                              refine wpAny_ready (rs := [10, 13]) (by kernel_rfl) (by simp) ?_
                              refine AllReady.cons rfl (fun K hK => ?_) ?_
                              · go_simp
                                try (refine hK _ _ ?_; clear hK K)
                                refine wpAny_ready (rs := [13]) (by kernel_rfl) (by simp) ?_
                                refine AllReady.cons rfl (fun K hK => ?_) AllReady.nil
                                go_simp
                                try (refine hK _ _ ?_; clear hK K)
                                refine wpAny_ready (rs := [14]) (by kernel_rfl) (by simp) ?_
                                refine AllReady.cons rfl (fun K hK => ?_) AllReady.nil
                                go_simp
                                try (refine hK _ _ ?_; clear hK K)
                                refine wpAny_ready (rs := [15]) (by kernel_rfl) (by simp) ?_
                                refine AllReady.cons rfl (fun K hK => ?_) AllReady.nil
                                go_simp
                                try (refine hK _ _ ?_; clear hK K)
                                refine wpAny_done (by kernel_rfl) ?_ _
                                go_wp2_with fail
                                go_meet
                                case rel => exact ⟨rfl, hB15⟩
                              refine AllReady.cons rfl (fun K hK => ?_) ?_
                              · go_simp
                                try (refine hK _ _ ?_; clear hK K)
                                refine wpAny_ready (rs := [10]) (by kernel_rfl) (by simp) ?_
                                refine AllReady.cons rfl (fun K hK => ?_) AllReady.nil
                                go_simp
                                try (refine hK _ _ ?_; clear hK K)
                                refine wpAny_ready (rs := [14]) (by kernel_rfl) (by simp) ?_
                                refine AllReady.cons rfl (fun K hK => ?_) AllReady.nil
                                go_simp
                                try (refine hK _ _ ?_; clear hK K)
                                refine wpAny_ready (rs := [15]) (by kernel_rfl) (by simp) ?_
                                refine AllReady.cons rfl (fun K hK => ?_) AllReady.nil
                                go_simp
                                try (refine hK _ _ ?_; clear hK K)
                                refine wpAny_done (by kernel_rfl) ?_ _
                                go_wp2_with fail
                                go_meet
                                case rel => exact ⟨rfl, hB15⟩
                              exact AllReady.nil
                            exact AllReady.nil
                          exact AllReady.nil
                        exact AllReady.nil
                      case rest =>
                        obtain ⟨rfl, hB16⟩ := hcut
                        have hI6 := hidden (hI5.out _ (hB13.out.trans (hB16.mono hB13.out.size)))
                        clear hB16
                        go_wp2_with fail
                        go_roundg (13 - (k + 1))
                        case measure => rw [hgk.out]; omega
                        case rel => exact ⟨k + 1, D, by omega, rfl, by go_num, by rw [← hsl], rfl, hI6⟩
                · have hb1 : bits .and .i64 (bl / 2 ^ k) 1 = 0 := by
                    have h1 := and_low (bl / 2 ^ k) 1 (by decide)
                    have h2 : bits .and .i64 (bl / 2 ^ k) ((1 : Nat) : Int) = bits .and .i64 (bl / 2 ^ k) 1 := rfl
                    rw [h2] at h1
                    have h3 : ¬ bits .and .i64 (bl / 2 ^ k) 1 = 1 := hb
                    omega
                  have hsl := hidden (sel_no hb)
                  clear hb
                  go_wp2_with fail
                  go_roundg (13 - (k + 1))
                  case measure => rw [hgk.out]; omega
                  case rel => exact ⟨k + 1, D, by omega, rfl, by go_num, by rw [hsl.out], rfl, hidden (by rw [hsl.out]; exact hI.out)⟩
              · have hse := hidden (sel_end hk hlt)
                have hstop : ¬ ((k : Int) < 12 ∧ ((sel bl k).length : Int) < 8) := by omega
                go_wp2_with fail
                all_goals (go_meet; case rel => exact ⟨⟨D, hD8, rfl, fun h => by rw [hI.out.2.1 h, hse.out, hL.out], hI.out.2.2.1⟩, hI.out.2.2.2⟩)
          case rest =>
            obtain ⟨⟨D, hD8, rfl, hDL, hD0⟩, hB14⟩ := hcut
            replace hB14 := hidden hB14
            replace hDL := hidden hDL
            replace hD0 := hidden hD0
            clear kR
            have kF : Hid (∀ wx, Below w10.heap.size w10 wx → Calls Tryz.prog 14 #[.int .i64 7] wx fun e w' => e = .returned (.slice (some ⟨wx.heap.size, 0, none⟩) 128 128) ∧ Below w10.heap.size w10 w' ∧ w'.cell? ⟨wx.heap.size, 3, none⟩ = some (.int .u8 f3) ∧ w'.cell? ⟨wx.heap.size, 4, none⟩ = some (.int .u8 f4)) := hidden fun wx hx => (hFl.out wx).mono fun e w' ⟨h1, h2⟩ => by
              have hB : Below w10.heap.size w10 w' := by rw [h2]; exact hx.alloc hx.size _
              exact ⟨h1, hB, (hFc.out wx w' (by rw [h2]; exact Below.refl _ _)).2⟩
            go_upto_region 42 with fail
            go_cut [20] (fun c wx => (∃ s : Bool, c = .bool s) ∧ Below w10.heap.size w10 wx)
            case first =>
              by_cases i3 : X = f3
              · go_wp2_with fail
                refine (kF.out _ hB14.out).mono ?_
                rintro ev w16 ⟨rfl, hB16, g3, -⟩
                have hF2 := hidden (kF.out _ hB16)
                clear hB16
                go_wp2_with fail
                refine (hF2.out).mono ?_
                rintro ev w17 ⟨rfl, hB17, -, g4⟩
                replace hB17 := hidden hB17
                go_wp2_with fail
                go_meet
                case rel => exact ⟨⟨_, rfl⟩, hB17.out⟩
              · go_wp2_with fail
                refine (kF.out _ hB14.out).mono ?_
                rintro ev w16 ⟨rfl, hB16, g3, -⟩
                replace hB16 := hidden hB16
                go_wp2_with fail
                go_meet
                case rel => exact ⟨⟨_, rfl⟩, hB16.out⟩
            case rest =>
              obtain ⟨⟨s, rfl⟩, hB18⟩ := hcut
              have hBw := hBw10.out.trans (hB18.mono hBw10.out.size)
              have hAw := hidden (cawake_calls _ (hGr10.out.below hB18) (hGT.out.below hBw))
              replace hBw := hidden hBw
              clear hB18 kF hFl hFc hB14
              by_cases hit : t3 = X ∧ t4 = Y
              · obtain rfl : D = L := hDL.out hit
                clear hit
                cases s
                · go_wp2_with fail
                  refine (hAw.out).mono ?_
                  rintro ev w19 ⟨rfl, hB19⟩
                  have hE := hidden (hBw.out.trans (hB19.mono hBw.out.size))
                  clear hB19
                  go_wp2
                  go_ret
                  exact ⟨by simp, hE.out⟩
                · go_wp2_with fail
                  refine (hAw.out).mono ?_
                  rintro ev w19 ⟨rfl, hB19⟩
                  have hE := hidden (hBw.out.trans (hB19.mono hBw.out.size))
                  clear hB19
                  go_wp2
                  go_ret
                  exact ⟨by simp, hE.out⟩
              · obtain rfl : D = 0 := hD0.out hit
                obtain ⟨hbad, -⟩ := hor2.out.resolve_left hit
                rcases hEv.out with h | ⟨b9, h9⟩
                · exact absurd h hbad
                · subst h9
                  clear hit hbad hor2 hEv
                  cases s
                  · go_wp2_with fail
                    refine (hAw.out).mono ?_
                    rintro ev w19 ⟨rfl, hB19⟩
                    have hE := hidden (hBw.out.trans (hB19.mono hBw.out.size))
                    clear hB19
                    go_wp2
                    go_ret
                    exact ⟨by simp, hE.out⟩
                  · go_wp2_with fail
                    refine (hAw.out).mono ?_
                    rintro ev w19 ⟨rfl, hB19⟩
                    have hE := hidden (hBw.out.trans (hB19.mono hBw.out.size))
                    clear hB19
                    go_wp2
                    go_ret
                    exact ⟨by simp, hE.out⟩
end Go.Proofs.YtlomogicfhpljaaGreatDoor
