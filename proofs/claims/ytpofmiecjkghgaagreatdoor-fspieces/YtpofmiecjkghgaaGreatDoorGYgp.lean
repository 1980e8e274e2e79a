/- FsPieces answers true, whatever it is given, and changes nothing that was there. -/
import Derived.Test.YtpofmiecjkghgaaGreatDoorGYep
import Derived.Test.YtpofmiecjkghgaaGreatDoorGVfp
import Derived.Test.YtpofmiecjkghgaaGreatDoorGXfp
import Derived.Deep.CutBlock
namespace Go.Proofs.YtpofmiecjkghgaaGreatDoor
open Go.RowKit Go.Extern.Stop Go.Stop Go.Extern Go.Maps Go.Sort Go.Shelf
set_option maxRecDepth 1000000
set_option maxHeartbeats 16000000
def IntsIn (w : World) (v : Value) (zs : List Int) : Prop :=
  ∃ a cap, v = .slice a zs.length cap /\ zs.length <= maxLen /\ (zs ≠ [] -> ∃ b off, a = some ⟨b, off, none⟩ /\ b < w.heap.size /\ ∀ k, k < zs.length -> w.cell? ⟨b, off + k, none⟩ = some (.int .i64 (zs.getD k 0)))
theorem wrap_pc (n : Nat) (h : n <= 4000) : IntKind.i64.wrap (n : Int) = (n : Int) := by
  simp [IntKind.wrap, IntKind.bits, IntKind.signed]
  omega
theorem wp_lastP {P : Program} {c : Code} {Q : Exit -> Act -> World -> Prop} {a : Act} {w : World} (h : Code.wp P c (Exit.then (fun a w => Q .normal a w) Q) a w) : Code.wp P c Q a w := wp_mono h (fun e a w h => by cases e <;> exact h)
theorem pad_step (d : List Int) (j : Nat) : ofBytes (d ++ List.replicate j 0) ++ ⟨#[0]⟩ = ofBytes (d ++ List.replicate (j + 1) 0) := by
  have e : (⟨#[0]⟩ : ByteArray) = ofBytes [0] := rfl
  rw [e, ofB_append, List.append_assoc, List.replicate_succ']
theorem piece_cat (d zs : List Int) (at_ : Nat) : (ofBytes (grownL d (at_ + zs.length))).extract 0 at_ ++ ofBytes zs ++ (ofBytes (grownL d (at_ + zs.length))).extract (at_ + zs.length) (max d.length (at_ + zs.length)) = ofBytes (putD d zs at_ (max d.length (at_ + zs.length))) := by
  have hgl : (grownL d (at_ + zs.length)).length = max d.length (at_ + zs.length) := by unfold grownL; rw [List.length_append, List.length_replicate]; omega
  rw [ofB_cut, ofB_cut, ofB_append, ofB_append, List.drop_zero, List.take_of_length_le (i := max d.length (at_ + zs.length)) (by omega), piece_text]
theorem cut_tail (d : List Int) (n i : Nat) (h1 : min n d.length <= i) (h2 : i < n) : ((grownL d n).take n).getD i 0 = 0 := by
  unfold grownL
  rw [List.getD_eq_getElem?_getD, List.getElem?_take, if_pos h2, List.getElem?_append_right (by omega), List.getElem?_replicate]
  split <;> rfl
theorem cut_head (d : List Int) (n : Nat) : ((grownL d n).take n).take (min n d.length) = d.take (min n d.length) := by
  unfold grownL
  rw [List.take_take, List.take_append_of_le_length (by omega)]
  congr 1
  omega
theorem pcut_len (d : List Int) (n : Nat) : ((grownL d n).take n).length = n := by
  unfold grownL
  rw [List.length_take, List.length_append, List.length_replicate]
  omega
theorem fsPieces_calls (v : Value) (ls : List Int) (zc : Int) (w : World) (hv : IntsIn w v ls) (hG : Ground w) (hGT : GT w) :
    Calls Tryz.prog 5 #[v, .int .i64 zc] w fun e w' => e = .returned (.bool true) /\ Below w.heap.size w w' := by
  have kM := hidden (New11_calls (n := 240) (i := 12) (r := 0) (dd := 131) ⟨by omega, by omega, by omega, by omega, by omega, by omega, by omega, by omega⟩ w hG)
  obtain ⟨la, vcap, rfl, hmax, hc⟩ := hv
  have kc := hidden (fun (wx : World) (hx : Below w.heap.size w wx) (k : Nat) (hk : k < ls.length) => show ∃ b off, la = some ⟨b, off, none⟩ /\ wx.cell? ⟨b, off + k, none⟩ = some (.int .i64 (ls.getD k 0)) from by
    obtain ⟨b, off, ha, hb, hcell⟩ := hc (by intro e; rw [e] at hk; simp at hk)
    exact ⟨b, off, ha, (hx.cell (p := ⟨b, off + k, none⟩) hb).trans (hcell k hk)⟩)
  have hmax2 : (ls.length : Int) <= 9223372036854775807 := by unfold maxLen at hmax; omega
  obtain ⟨cn, hcn, hcn4⟩ : ∃ n : Nat, (bits .and .i64 zc 65535).tmod 4001 = (n : Int) /\ n <= 4000 := by
    have hal : 0 <= bits .and .i64 zc 65535 /\ bits .and .i64 zc 65535 <= 65535 := and_low zc 65535 (by decide)
    have e : (bits .and .i64 zc 65535).tmod 4001 = bits .and .i64 zc 65535 % 4001 := Int.tmod_eq_emod_of_nonneg hal.1
    refine ⟨((bits .and .i64 zc 65535) % 4001).toNat, ?_, by omega⟩
    rw [e]
    omega
  replace hGT := hidden hGT
  replace hcn := hidden hcn
  clear hG hc hmax
  generalize hNN : ls.length = NN at *
  go_enter Tryz.func5, Tryz.ntmps5
  go_wp2_with fail
  refine (kM.out).mono ?_
  rintro ev w1 ⟨E, fb, hb, xb, rfl, hN11⟩
  have c0 := (pc_new hN11 hGT.out).x1
  have l0 := lt_of_cell (a := ⟨xb, 1, none⟩) c0
  have kK := hidden (pc_make (pc_new hN11 hGT.out) (by omega))
  clear hN11 kM
  go_wp2_with fail
  refine (kK.out).mono ?_
  rintro ev w2 ⟨rfl, hS2⟩
  have c2 := hS2.x1
  have l2 := lt_of_cell (a := ⟨xb, 1, none⟩) c2
  have kH := hidden (pc_hold hS2 (by omega))
  clear kK c0 l0 hS2
  go_wp2_with fail
  refine (kH.out).mono ?_
  rintro ev w3 ⟨rfl, hS3⟩
  replace hS3 := hidden hS3
  clear kH c2 l2
  go_wp2_with fail
  go_loopg [8, 9] 15 (fun gk p q wr => ∃ (i : Nat) (d : List Int), i <= 14 /\ gk = 15 - i /\ p = .string (ofBytes d) /\ q = .int .i64 (i : Nat) /\ Hid (PcS fb hb xb d (10000 + 2000 * i) w wr))
  case atStart => exact ⟨0, [], by omega, rfl, rfl, rfl, hidden (hS3.out.up (by omega))⟩
  case round =>
    obtain ⟨i, d, hi, hgk, rfl, rfl, hS⟩ := hrel
    rename World => wo
    have hgk' := hidden hgk
    clear hS3 hgk
    by_cases hlt : i < NN /\ i < 14
    · obtain ⟨hl1, hl2⟩ := hlt
      have hl1' : (i : Int) < (NN : Int) := by omega
      have hl2' : (i : Int) < 14 := by omega
      obtain ⟨lb, lo, rfl, hcl⟩ := kc.out _ hS.out.1.bel i (by omega)
      generalize ls.getD i 0 = z at hcl
      obtain ⟨at_, hat, hat2⟩ : ∃ n : Nat, (bits .and .i64 z 65535).tmod 3000 = (n : Int) /\ n <= 2999 := by
        have hal : 0 <= bits .and .i64 z 65535 /\ bits .and .i64 z 65535 <= 65535 := and_low z 65535 (by decide)
        have e : (bits .and .i64 z 65535).tmod 3000 = bits .and .i64 z 65535 % 3000 := Int.tmod_eq_emod_of_nonneg hal.1
        refine ⟨((bits .and .i64 z 65535) % 3000).toNat, ?_, by omega⟩
        rw [e]
        omega
      obtain ⟨L, hL, hL2⟩ : ∃ n : Nat, bits .and .i64 (z / 65536) 511 = (n : Int) /\ n <= 511 := by
        have hal : 0 <= bits .and .i64 (z / 65536) 511 /\ bits .and .i64 (z / 65536) 511 <= 511 := and_low (z / 65536) 511 (by decide)
        exact ⟨(bits .and .i64 (z / 65536) 511).toNat, by omega, by omega⟩
      obtain ⟨lim, hlim, hlm⟩ : ∃ lim, 10000 + 2000 * i = lim /\ lim <= 100000 := ⟨_, rfl, by omega⟩
      rw [hlim] at hS
      replace hlim := hidden hlim
      go_upto_region 11 with fail
      refine pc11 wo lb lo i NN vcap at_ L z hl1' hat hL hat2 hL2 (hidden hcl) (fun wx => PcS fb hb xb d lim w wx) (hidden fun wx wy hx hy => hx.below hy) hS _ _ _ _ _ _ _ _ _ _ _ _ _ _ _ _ _ _ _ _ _ _ _ _ _ _ _ _ _ _ _ _ _ _ _ _ _ _ _ _ _ _ _ _ _ _ _ _ _ _ _ _ _ _ _ _ _ _ _ _ _ _ _ _ _ _ _ _ _ _ _ _ _ _ _ _ _ _ _ _ _ _ _ _ _ _ _ _ _ _ _ _ _ _ _ _ _ _ _ _ _ _ _ _ _ _ _ _ _ _ _ _ _ _ _ _ _ _ _ _ _ _ _ _ _ _ _ _ _ _ _ _ _ _ _ _ _ _ _ _ _ _ _ _ _ _ _ _ _ _ _ _ _ _ _ _ _ _ _ _ _ _ _ _ _ _ _ _ _ _ _ _ _ _ _ _ _ (hidden ?kk11) (hidden ?qp11)
      case qp11 => exact fun _ a a' _ h e => by cases a; cases a'; cases e; exact h
      case kk11 =>
        intro v50 v51 v52 v53 v54 v55 v56 v57 v58 v59 v60 v61 w4 hS4
        replace hS4 := hidden hS4
        clear hS hcl hat hL
        dsimp only
        obtain ⟨zs, hzs⟩ : ∃ zs, text11 (i : Int) L = zs := ⟨_, rfl⟩
        have kT := fun (wx : World) => Text11_calls (i : Int) L (by omega) wx
        have hzr := text11_range (i : Int) L
        have hzl : zs.length = L := by rw [<- hzs]; exact text11_len _ _
        rw [hzs] at kT hzr
        replace kT := hidden kT
        replace hzr := hidden hzr
        replace hzs := hidden hzs
        have hdl := hidden hS4.out.2
        by_cases h0 : 0 < L
        · have h0' : (0 : Int) < (L : Int) := by omega
          have kC := hidden (fun (wx : World) (hx : PcS fb hb xb d lim w wx) => show ∃ bv w', (convert 9 38 (.string (ofBytes zs))).run Tryz.prog wx = .ok bv w' /\ XAt xb fb w' /\ Hid (Calls Tryz.prog 15 #[ptr fb, .int .i64 2, .int .i64 (at_ : Int), bv] w' fun e w'' => e = .returned .nilIface /\ PcS fb hb xb (putD d zs at_ (max d.length (at_ + zs.length))) (lim + 1000) w w'') from by
            obtain ⟨cap, w5, hcv, hbc, hB5⟩ := bytes_of fb wx zs hzr.out (by omega) hx.1.fb_lt
            have hx5 := hx.below hB5
            exact ⟨_, w5, hcv, hx5.x1, hidden (pc_write hx5 hbc (by omega) (by omega) (by omega))⟩)
          obtain ⟨TX, hTX⟩ : ∃ TX, ofBytes zs = TX := ⟨_, rfl⟩
          have hTXs : TX.size = L := by rw [<- hTX, ofB_size]; exact hzl
          rw [hTX] at kT kC
          replace hTX := hidden hTX
          go_upto_region 12 with fail
          refine pc12 w4 fb xb i at_ L TX (fun wx => PcS fb hb xb d lim w wx) (hidden fun wx hx => hx.x1) (hidden fun wx wy hx hy => hx.below hy) (fun wx => PcS fb hb xb (putD d zs at_ (max d.length (at_ + zs.length))) (lim + 1000) w wx) (hidden fun wx hx => hx.x1) kT kC hS4 _ _ _ _ _ _ _ _ _ _ _ _ _ _ _ _ _ _ _ _ _ _ _ _ _ _ _ _ _ _ _ _ _ _ _ _ _ _ _ _ _ _ _ _ _ _ _ _ _ _ _ _ _ _ _ _ _ _ _ _ _ _ _ _ _ _ _ _ _ _ _ _ _ _ _ _ _ _ _ _ _ _ _ _ _ _ _ _ _ _ _ _ _ _ _ _ _ _ _ _ _ _ _ _ _ _ _ _ _ _ _ _ _ _ _ _ _ _ _ _ _ _ _ _ _ _ _ _ _ _ _ _ _ _ _ _ _ _ _ _ _ _ _ _ _ _ _ _ _ _ _ _ _ _ _ _ _ _ _ _ _ _ _ _ _ _ _ _ _ _ _ _ _ _ (hidden ?kk12) (hidden ?qp12)
          case qp12 => exact fun _ a a' _ h e => by cases a; cases a'; cases e; exact h
          case kk12 =>
            intro v62 v63 v64 v65 v66 v67 v68 v69 v70 v71 v72 w6 hS6
            replace hS6 := hidden hS6
            clear hS4 kC
            dsimp only
            obtain ⟨AL, hAL, hAL2⟩ : ∃ AL : Nat, (at_ : Int) + (L : Int) = (AL : Int) /\ AL <= 3510 := ⟨at_ + L, by omega, by omega⟩
            obtain ⟨DL, hDL⟩ : ∃ DL, d.length = DL := ⟨_, rfl⟩
            have hsz := hidden (fun (j : Nat) => show (ofBytes (d ++ List.replicate j 0)).size = DL + j from by rw [ofB_size, List.length_append, List.length_replicate, hDL])
            have hDL4 : DL <= 4000 := by have := hdl.out; omega
            have hd0 : ofBytes d = ofBytes (d ++ List.replicate 0 0) := by rw [List.replicate_zero, List.append_nil]
            rw [hd0]
            replace hd0 := hidden hd0
            replace hDL := hidden hDL
            go_wp2_with fail
            go_loopg [8] 4001 (fun gk q wr => ∃ j : Nat, (j = 0 \/ DL + j <= AL) /\ gk = 4001 - j /\ q = .string (ofBytes (d ++ List.replicate j 0)) /\ Hid (PcS fb hb xb (putD d zs at_ (max d.length (at_ + zs.length))) (lim + 1000) w wr))
            case atStart => exact ⟨0, Or.inl rfl, rfl, rfl, hS6⟩
            case round =>
              obtain ⟨j, hj, hgk2, rfl, hS7⟩ := hrel
              have hgk2' := hidden hgk2
              clear hS6 hgk2
              have hsj := hsz.out j
              have hpd := pad_step d j
              obtain ⟨SX, hSX⟩ : ∃ SX, ofBytes (d ++ List.replicate j 0) = SX := ⟨_, rfl⟩
              rw [hSX] at hsj hpd
              rw [hSX]
              replace hSX := hidden hSX
              by_cases hlj : DL + j < AL
              · have h8 : ((DL + j : Nat) : Int) < (AL : Int) := by omega
                have h9 : ¬ 9223372036854775807 < DL + j + 1 := by omega
                go_wp2
                go_roundg (4001 - (j + 1))
                case measure => rw [hgk2'.out]; omega
                case rel => exact ⟨j + 1, Or.inr (by omega), rfl, by first | rfl | rw [hpd], hS7⟩
              · have h8 : ¬ ((DL + j : Nat) : Int) < (AL : Int) := by omega
                have hgr : SX = ofBytes (grownL d (at_ + zs.length)) := by
                  rw [<- hSX.out]
                  unfold grownL
                  have := hDL.out
                  rw [show at_ + zs.length - d.length = j by omega]
                have hG : DL + j = max d.length (at_ + zs.length) := by have := hDL.out; omega
                have hcat : SX.extract 0 at_ ++ TX ++ SX.extract AL (DL + j) = ofBytes (putD d zs at_ (max d.length (at_ + zs.length))) := by
                  rw [hgr, <- hTX.out, hG, show AL = at_ + zs.length by omega]
                  exact piece_cat d zs at_
                replace hgr := hidden hgr
                replace hG := hidden hG
                obtain ⟨RX, hRX⟩ : ∃ RX, ofBytes (putD d zs at_ (max d.length (at_ + zs.length))) = RX := ⟨_, rfl⟩
                rw [hRX] at hcat
                replace hRX := hidden hRX
                obtain ⟨GG, hGG, hGG4, hGGa⟩ : ∃ GG, DL + j = GG /\ GG <= 4000 /\ AL <= GG := ⟨_, rfl, by omega, by omega⟩
                rw [hGG] at hsj hcat h8
                replace hGG := hidden hGG
                replace hpd := hidden hpd
                go_upto_region 17 with fail
                refine wp_lastP (pc17 wr i at_ L AL GG SX TX RX hsj hTXs (by omega) (by rw [hAL]; exact wrap_pc _ (by omega)) hGGa hGG4 hL2 hcat (fun wx => PcS fb hb xb (putD d zs at_ (max d.length (at_ + zs.length))) (lim + 1000) w wx) (hidden fun wx wy hx hy => hx.below hy) kT hS7 _ _ _ _ _ _ _ _ _ _ _ _ _ _ _ _ _ _ _ _ _ _ _ _ _ _ _ _ _ _ _ _ _ _ _ _ _ _ _ _ _ _ _ _ _ _ _ _ _ _ _ _ _ _ _ _ _ _ _ _ _ _ _ _ _ _ _ _ _ _ _ _ _ _ _ _ _ _ _ _ _ _ _ _ _ _ _ _ _ _ _ _ _ _ _ _ _ _ _ _ _ _ _ _ _ _ _ _ _ _ _ _ _ _ _ _ _ _ _ _ _ _ _ _ _ _ _ _ _ _ _ _ _ _ _ _ _ _ _ _ _ _ _ _ _ _ _ _ _ _ _ _ _ _ _ _ _ _ _ _ _ _ _ _ _ _ _ _ _ _ _ _ _ _ _ (hidden ?kk17) (hidden ?qp17))
                case qp17 => exact fun _ a a' _ h e => by cases a; cases a'; cases e; exact h
                case kk17 =>
                  intro v84 v85 v86 v87 v88 v89 v90 v91 v92 v93 v94 v95 v96 w8 hS8
                  replace hS8 := hidden hS8
                  clear hS7 kT hcat
                  dsimp only
                  go_wp2
                  go_roundg (15 - (i + 1))
                  case measure => rw [hgk'.out]; omega
                  case rel => exact ⟨i + 1, putD d zs at_ (max d.length (at_ + zs.length)), by omega, rfl, by rw [hRX.out], by go_num, hidden (hS8.out.up (by have := hlim.out; omega))⟩
        · have h0' : ¬ (0 : Int) < (L : Int) := by omega
          have hz0 : zs = [] := List.length_eq_zero_iff.1 (by omega)
          subst hz0
          have kC := hidden (fun (wx : World) (hx : PcS fb hb xb d lim w wx) => show ∃ bv w', (convert 9 38 (.string (ofBytes []))).run Tryz.prog wx = .ok bv w' /\ XAt xb fb w' /\ Hid (Calls Tryz.prog 15 #[ptr fb, .int .i64 2, .int .i64 (at_ : Int), bv] w' fun e w'' => e = .returned .nilIface /\ PcS fb hb xb d (lim + 1000) w w'') from by
            obtain ⟨cap, w5, hcv, hbc, hB5⟩ := bytes_of fb wx [] hzr.out (by simp) hx.1.fb_lt
            have hx5 := hx.below hB5
            exact ⟨_, w5, hcv, hx5.x1, hidden (pc_nought hx5 (at_ := at_) (ba := some ⟨wx.heap.size, 0, none⟩) (bc := cap) (by omega) (by omega))⟩)
          obtain ⟨TX, hTX⟩ : ∃ TX, ofBytes [] = TX := ⟨_, rfl⟩
          rw [hTX] at kT kC
          replace hTX := hidden hTX
          go_upto_region 12 with fail
          refine pc12 w4 fb xb i at_ L TX (fun wx => PcS fb hb xb d lim w wx) (hidden fun wx hx => hx.x1) (hidden fun wx wy hx hy => hx.below hy) (fun wx => PcS fb hb xb d (lim + 1000) w wx) (hidden fun wx hx => hx.x1) kT kC hS4 _ _ _ _ _ _ _ _ _ _ _ _ _ _ _ _ _ _ _ _ _ _ _ _ _ _ _ _ _ _ _ _ _ _ _ _ _ _ _ _ _ _ _ _ _ _ _ _ _ _ _ _ _ _ _ _ _ _ _ _ _ _ _ _ _ _ _ _ _ _ _ _ _ _ _ _ _ _ _ _ _ _ _ _ _ _ _ _ _ _ _ _ _ _ _ _ _ _ _ _ _ _ _ _ _ _ _ _ _ _ _ _ _ _ _ _ _ _ _ _ _ _ _ _ _ _ _ _ _ _ _ _ _ _ _ _ _ _ _ _ _ _ _ _ _ _ _ _ _ _ _ _ _ _ _ _ _ _ _ _ _ _ _ _ _ _ _ _ _ _ _ _ _ _ (hidden ?kk12) (hidden ?qp12)
          case qp12 => exact fun _ a a' _ h e => by cases a; cases a'; cases e; exact h
          case kk12 =>
            intro v62 v63 v64 v65 v66 v67 v68 v69 v70 v71 v72 w6 hS6
            replace hS6 := hidden hS6
            clear hS4 kC kT
            dsimp only
            go_wp2
            go_roundg (15 - (i + 1))
            case measure => rw [hgk'.out]; omega
            case rel => exact ⟨i + 1, d, by omega, rfl, rfl, by go_num, hidden (hS6.out.up (by have := hlim.out; omega))⟩
    · have hn1 : ¬ ((i : Int) < (NN : Int) /\ (i : Int) < 14) := by omega
      have hdl := hidden hS.out.2
      have c1 := hS.out.x1
      have l1 := lt_of_cell (a := ⟨xb, 1, none⟩) c1
      obtain ⟨lim, hlim, hlm⟩ : ∃ lim, 10000 + 2000 * i = lim /\ lim <= 100000 := ⟨_, rfl, by omega⟩
      rw [hlim] at hS
      replace hlim := hidden hlim
      have kR := hidden (pc_read hS.out (by omega))
      have hcn' := hcn.out
      obtain ⟨SX, hSX⟩ : ∃ SX, ofBytes d = SX := ⟨_, rfl⟩
      have hSXs : SX.size = d.length := by rw [<- hSX, ofB_size]
      rw [hSX]
      replace hSX := hidden hSX
      obtain ⟨DL, hDL, hDL4⟩ : ∃ DL, d.length = DL /\ DL <= 4000 := ⟨_, rfl, hdl.out⟩
      rw [hDL] at hSXs
      replace hDL := hidden hDL
      clear hS
      go_upto_region 9 with fail
      go_cut [47] (fun q wx => q = .bool false /\ wx = wo)
      case first =>
        by_cases h1 : i < NN
        · have e1 : (i : Int) < (NN : Int) := by omega
          have e2 : ¬ (i : Int) < 14 := by omega
          go_wp2_with fail
          go_meet
          case rel => exact ⟨rfl, rfl⟩
        · have e1 : ¬ (i : Int) < (NN : Int) := by omega
          go_wp2_with fail
          go_meet
          case rel => exact ⟨rfl, rfl⟩
      case rest =>
        obtain ⟨rfl, hwc⟩ := hcut
        replace hwc := hwc.symm
        subst hwc
        replace hn1 := hidden hn1
        go_wp2_with fail
        refine (kR.out).mono ?_
        rintro ev w4 ⟨bv, rfl, ⟨base, hO⟩, hS4⟩
        have hbat := ownV_at hO
        have hbat2 := hbat
        obtain ⟨ba, bc, rfl, -⟩ := hbat2
        have hcv := conv_bytes _ _ _ hbat
        rw [hSX.out] at hcv
        have c4 := hS4.x1
        have l4 := lt_of_cell (a := ⟨xb, 1, none⟩) c4
        have kC := hidden (pc_cut hS4 hcn4 (by omega))
        clear kR c1 l1 hO hbat hcn'
        rw [hDL.out] at hcv ⊢
        go_wp2_with fail
        refine (kC.out).mono ?_
        rintro ev w5 ⟨rfl, hE5⟩
        have c5 := hE5.x1
        have l5 := lt_of_cell (a := ⟨xb, 1, none⟩) c5
        have kG := hidden (pc_get hE5 (by omega))
        clear kC c4 l4 hcv hS4 hE5
        go_wp2_with fail
        refine (kG.out).mono ?_
        rintro ev w6 ⟨⟨ga, gc, rfl, hgc1, hgc2, hb6⟩, hE6⟩
        have hcl := pcut_len d cn
        obtain ⟨k, hk⟩ : ∃ k : Nat, min cn DL = k := ⟨_, rfl⟩
        have hkn : k <= cn := by omega
        have hkD : k <= DL := by omega
        have hS6 := hidden (show PcE fb hb xb ((grownL d cn).take cn) (lim + 1000 + 1000 + 1000) w w6 /\ BytesC fb w6 (.slice ga cn gc) ((grownL d cn).take cn) from ⟨hE6, by rw [hcl] at hb6; exact hb6⟩)
        rw [hcl] at hgc1
        rw [hcl]
        clear kG c5 l5 hE6 hb6 hcl
        replace hk := hidden hk
        go_upto_region 23 with fail
        go_cut [17] (fun q wx => q = .int .i64 (k : Int) /\ wx = w6)
        case first =>
          by_cases h1 : cn <= DL
          · have e1 : (cn : Int) <= (DL : Int) := by omega
            have e2 : min (cn : Int) (DL : Int) = (k : Int) := by have := hk.out; omega
            go_wp2_with fail
            go_meet
            case rel => exact ⟨by first | rfl | rw [<- e2], rfl⟩
          · have e1 : ¬ (cn : Int) <= (DL : Int) := by omega
            have e2 : min (cn : Int) (DL : Int) = (k : Int) := by have := hk.out; omega
            go_wp2_with fail
            go_meet
            case rel => exact ⟨by first | rfl | rw [<- e2], rfl⟩
        case rest =>
          obtain ⟨rfl, hwc⟩ := hcut
          replace hwc := hwc.symm
          subst hwc
          have hcv := hidden (fun (wx : World) (hx : PcE fb hb xb ((grownL d cn).take cn) (lim + 1000 + 1000 + 1000) w wx /\ BytesC fb wx (.slice ga cn gc) ((grownL d cn).take cn)) => show (convert 38 9 (.slice ga k gc)).run Tryz.prog wx = .ok (.string (SX.extract 0 k)) wx from by
            have hb : BytesC fb wx (.slice ga ((grownL d cn).take cn).length gc) ((grownL d cn).take cn) := by rw [pcut_len]; exact hx.2
            have ht := (hb.take k (by rw [pcut_len]; exact hkn)).at
            have hcc := conv_bytes _ _ _ ht
            rw [hcc, <- hSX.out, ofB_cut, List.drop_zero, <- hk.out, <- hDL.out, cut_head])
          go_upto_region 24 with fail
          refine pc24 w6 cn k gc ga SX (fun wx => PcE fb hb xb ((grownL d cn).take cn) (lim + 1000 + 1000 + 1000) w wx /\ BytesC fb wx (.slice ga cn gc) ((grownL d cn).take cn)) (hidden fun wx wy hx hy => ⟨hx.1.below hy, hx.2.keep (Apart.of_below hy)⟩) hkn (by rw [hSXs]; exact hkD) (by rw [hSXs]; exact hDL4) hcn4 hgc1 hgc2 hcv hS6 _ _ _ _ _ _ _ _ _ _ _ _ _ _ _ _ _ _ _ _ _ _ _ _ _ _ _ _ _ _ _ _ _ _ _ _ _ _ _ _ _ _ _ _ _ _ _ _ _ _ _ _ _ _ _ _ _ _ _ _ _ _ _ _ _ _ _ _ _ _ _ _ _ _ _ _ _ _ _ _ _ _ _ _ _ _ _ _ _ _ _ _ _ _ _ _ _ _ _ _ _ _ _ _ _ _ _ _ _ _ _ _ _ _ _ _ _ _ _ _ _ _ _ _ _ _ _ _ _ _ _ _ _ _ _ _ _ _ _ _ _ _ _ _ _ _ _ _ _ _ _ _ _ _ _ _ _ _ _ _ _ _ _ _ _ _ _ _ _ _ _ _ _ _ (hidden ?kk24) (hidden ?qp24)
          case qp24 => exact fun _ a a' _ h e => by cases a; cases a'; cases e; exact h
          case kk24 =>
            intro v139 v140 v141 v142 v143 v144 v145 v146 v147 v148 v149 v150 v151 v152 v153 v154 v155 w7 hS7
            replace hS7 := hidden hS7
            clear hS6 hcv
            dsimp only
            go_wp2_with fail
            go_loopg [18] 4001 (fun gk q wr => ∃ j : Nat, k <= j /\ (j <= cn \/ j = k) /\ gk = 4001 - (j - k) /\ q = .int .i64 (j : Nat) /\ wr = w7)
            case atStart => exact ⟨k, Nat.le_refl _, Or.inr rfl, by omega, rfl, rfl⟩
            case round =>
              obtain ⟨j, hkj, hjn, hgk2, rfl, hwr⟩ := hrel
              subst hwr
              have hgk2' := hidden hgk2
              clear hgk2
              by_cases hlj : j < cn
              · have hlj' : (j : Int) < (cn : Int) := by omega
                have hcell := hS7.out.2
                obtain ⟨a, c, hav, -, -, -, -, hcc⟩ := hcell
                obtain ⟨rfl, -, -⟩ := Value.slice.inj hav
                obtain ⟨b, off, rfl, hbl, -, hck⟩ := hcc (by intro e; have := pcut_len d cn; rw [e] at this; simp at this; omega)
                have hz := hck j (by rw [pcut_len]; exact hlj)
                rw [cut_tail d cn j (by have := hk.out; have := hDL.out; omega) hlj] at hz
                have hzl := lt_of_cell (a := ⟨b, off + j, none⟩) hz
                clear hav hcc hck
                go_wp2
                go_roundg (4001 - (j + 1 - k))
                case measure => rw [hgk2'.out]; omega
                case rel => exact ⟨j + 1, by omega, Or.inl (by omega), rfl, by go_num, rfl⟩
              · have hlj' : ¬ (j : Int) < (cn : Int) := by omega
                have kQ := hidden (pc_check hS7.out.1 (by omega))
                have c7 := hS7.out.1.x1
                have l7 := lt_of_cell (a := ⟨xb, 1, none⟩) c7
                clear hS7
                go_wp2_with fail
                refine (kQ.out).mono ?_
                rintro ev w9 ⟨rfl, hbA, hgA, htA⟩
                have kW := hidden (awake11_calls w9 hgA htA)
                replace hbA := hidden hbA
                clear kQ c7 l7 hgA htA
                go_wp2_with fail
                refine (kW.out).mono ?_
                rintro ev wB ⟨rfl, hBB⟩
                have hE := hidden (hbA.out.trans (hBB.mono hbA.out.size))
                clear kW hBB hbA
                go_wp2
                go_ret
                exact ⟨rfl, hE.out⟩
end Go.Proofs.YtpofmiecjkghgaaGreatDoor
