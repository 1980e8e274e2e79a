/- FsFills answers true, whatever it is given, and changes nothing that was there. -/
import Derived.Test.YtleafmdjhmnjmaaGreatDoorGFdp
import Derived.Test.YtleafmdjhmnjmaaGreatDoorGFep
import Derived.Deep.CutBlock
namespace Go.Proofs.YtleafmdjhmnjmaaGreatDoor
open Go.RowKit Go.Extern.Stop Go.Stop Go.Extern Go.Maps Go.Sort Go.Shelf
set_option maxRecDepth 1000000
set_option maxHeartbeats 16000000
theorem mk_appF (a b : List UInt8) : mkB a ++ mkB b = mkB (a ++ b) := by
  apply ByteArray.ext
  apply Array.toList_inj.1
  rw [ByteArray.data_append, Array.toList_append]
  simp [mkB]
theorem it_mkF (k : Nat) : itoaB (k : Int) = mkB (Lib.itoa (k : Int)) := by simp [mkB, itoaB]
theorem flf_join (k : Nat) : (⟨#[47, 100, 47, 102]⟩ : ByteArray) ++ itoaB (k : Int) = mkB ([47, 100] ++ 47 :: nmP 102 k) := by
  rw [it_mkF, show (⟨#[47, 100, 47, 102]⟩ : ByteArray) = mkB [47, 100, 47, 102] from rfl, mk_appF]
  rfl
theorem flk_join (k : Nat) : (⟨#[47, 107]⟩ : ByteArray) ++ itoaB (k : Int) = mkB (47 :: nmP 107 k) := by
  rw [it_mkF, show (⟨#[47, 107]⟩ : ByteArray) = mkB [47, 107] from rfl, mk_appF]
  rfl
def PutR (rs fb hb xb bn n lim : Nat) (w0 : World) (b : Prop) (v : Value) (w : World) : Prop := (b /\ v = .nilIface /\ FlS rs fb hb xb bn (n + 1) 0 0 0 lim w0 w) \/ (¬ b /\ (∃ ll x, v = flt x /\ Chain w ll (num 15) (flt x)) /\ FlS rs fb hb xb bn n 0 0 0 lim w0 w)
theorem fsFills_calls (za zb : Int) (w : World) (hG : Ground w) (hGT : GT w) :
    Calls Tryz.prog 3 #[.int .i64 za, .int .i64 zb] w fun e w' => e = .returned (.bool true) /\ Below w.heap.size w w' := by
  obtain ⟨r0, hr0, hr7⟩ : ∃ r : Nat, bits .and .i64 zb 7 = (r : Int) /\ r <= 7 := by
    have hal : 0 <= bits .and .i64 zb 7 /\ bits .and .i64 zb 7 <= 7 := and_low zb 7 (by decide)
    exact ⟨(bits .and .i64 zb 7).toNat, by omega, by omega⟩
  obtain ⟨rs, hrs, hrs1, hrs8⟩ : ∃ rs : Nat, (r0 : Int) + 1 = (rs : Int) /\ 1 <= rs /\ rs <= 8 := ⟨r0 + 1, by omega, by omega, by omega⟩
  obtain ⟨z0, hz0, hz2⟩ : ∃ z : Nat, (bits .and .i64 za 65535).tmod 3000 = (z : Int) /\ z <= 2999 := by
    have hal : 0 <= bits .and .i64 za 65535 /\ bits .and .i64 za 65535 <= 65535 := and_low za 65535 (by decide)
    have e : (bits .and .i64 za 65535).tmod 3000 = bits .and .i64 za 65535 % 3000 := Int.tmod_eq_emod_of_nonneg hal.1
    refine ⟨((bits .and .i64 za 65535) % 3000).toNat, ?_, by omega⟩
    rw [e]
    omega
  obtain ⟨sz, hsz, hsz1, hsz2⟩ : ∃ sz : Nat, (z0 : Int) + 200 = (sz : Int) /\ 200 <= sz /\ sz <= 3199 := ⟨z0 + 200, by omega, by omega, by omega⟩
  obtain ⟨bn, hbn, hbn1, hbn2⟩ : ∃ bn : Nat, blk (sz : Int) = (bn : Int) /\ 1 <= bn /\ bn <= 30 := by
    have h : 1 <= blk (sz : Int) /\ blk (sz : Int) <= 30 := by unfold blk; split <;> (try split) <;> (try split) <;> omega
    exact ⟨(blk (sz : Int)).toNat, by omega, by omega, by omega⟩
  have kM := hidden (New11_calls (n := 400) (i := 100) (r := rs) (dd := 203) ⟨by omega, by omega, by omega, by omega, by omega, by omega, by omega, by omega⟩ w hG)
  replace hGT := hidden hGT
  clear hG
  go_enter Tryz.func3, Tryz.ntmps3
  go_wp2_with fail
  refine (kM.out).mono ?_
  rintro ev w1 ⟨E, fb, hb, xb, rfl, hN11⟩
  have c0 := (fl_new hN11 hGT.out).x1
  have l0 := lt_of_cell (a := ⟨xb, 1, none⟩) c0
  have kK := hidden (fl_mkdir (bn := bn) (fl_new hN11 hGT.out) hrs8 (by omega))
  clear hN11 kM
  go_wp2_with fail
  refine (kK.out).mono ?_
  rintro ev w2 ⟨rfl, hS2⟩
  replace hS2 := hidden hS2
  clear kK c0 l0
  go_upto_block 0 with fail
  replace hr0 := hidden hr0
  replace hrs := hidden hrs
  replace hz0 := hidden hz0
  replace hsz := hidden hsz
  replace hbn := hidden hbn
  go_cut [6] (fun q wx => ∃ n : Nat, q = .int .i64 (n : Int) /\ n <= 90 /\ Hid (FlS rs fb hb xb bn n 0 0 0 200000 w wx) /\ Hid (∀ f, flF bn n 0 0 0 f -> rs <= f) /\ Hid (n < 90 -> ∀ f, flF bn n 0 0 0 f -> f < rs + (bkL (n + 1) - bkL n) + bn))
  case first =>
    go_wp2_with fail
    go_loopg [6] 91 (fun gk q wr => ∃ n : Nat, n <= 90 /\ gk = 91 - n /\ q = .int .i64 (n : Nat) /\ Hid (FlS rs fb hb xb bn n 0 0 0 (7000 + 2000 * n) w wr) /\ Hid (∀ f, flF bn n 0 0 0 f -> rs <= f))
    case atStart =>
      refine ⟨0, by omega, rfl, rfl, hS2, hidden fun f hf => ?_⟩
      have hf' : f + bkL 1 + bkL 0 + 0 * bn + 0 = 203 := hf
      have b1 : bkL 1 = 1 := by decide
      have b0 : bkL 0 = 0 := by decide
      omega
    case round =>
      obtain ⟨n, hn90, hgk, rfl, hS, hre⟩ := hrel
      have hgk' := hidden hgk
      clear hS2 hgk
      by_cases hlt : n < 90
      · have hlt' : (n : Int) < 90 := by omega
        have kN := hidden (fun (wx : World) => num_calls (n : Int) ⟨by omega, by omega⟩ wx)
        have hcat := flf_join n
        have hszt := nm_size (i := n) (by omega)
        obtain ⟨B, hB⟩ : ∃ B : Prop, B = ∀ f, flF bn n 0 0 0 f -> rs + (bkL (n + 1) - bkL n) + bn <= f := ⟨_, rfl⟩
        have hnB : ¬ B -> ∀ f, flF bn n 0 0 0 f -> f < rs + (bkL (n + 1) - bkL n) + bn := fun h f hf => by
          rcases Nat.lt_or_ge f (rs + (bkL (n + 1) - bkL n) + bn) with h' | h'
          · exact h'
          · refine absurd ?_ h
            rw [hB]
            intro f2 hf2
            have e1 : f + bkL (1 + (0 - 0)) + bkL (n - 0) + (n - 0) * bn + (0 - 0) = 203 := hf
            have e2 : f2 + bkL (1 + (0 - 0)) + bkL (n - 0) + (n - 0) * bn + (0 - 0) = 203 := hf2
            omega
        replace hnB := hidden hnB
        replace hB := hidden hB
        have kC := hidden (fun (wx : World) (hx : FlS rs fb hb xb bn n 0 0 0 (7000 + 2000 * n) w wx) => show ∃ bv w', (Instr.makeSlice 34 (.int .i64 (sz : Int)) (.int .i64 (sz : Int))).run Tryz.prog wx = .ok bv w' /\ XAt xb fb w' /\ Hid (Calls Tryz.prog 8 #[ptr fb, .string (mkB ([47, 100] ++ 47 :: nmP 102 n)), bv] w' fun e w'' => ∃ ev, e = .returned ev /\ PutR rs fb hb xb bn n (7000 + 2000 * n + 1000) w B ev w'') from by
          have hfb := hx.fb_lt
          have hc := zeros_c fb sz (by omega) wx hfb
          have hx5 := hx.below ((Below.refl _ _).alloc (Nat.le_refl _) (.cells (Array.replicate sz (.int .u8 0)) 5))
          refine ⟨_, _, make_bytes sz (by omega) wx, hx5.x1, hidden ?_⟩
          by_cases hb' : B
          · refine (fl_put hx5 hlt hc (by rw [List.length_replicate]; omega) (by rw [List.length_replicate]; exact hbn.out) (by have := hB.out; rw [this] at hb'; exact hb') (by omega)).mono ?_
            rintro e w'' ⟨rfl, hS3⟩
            exact ⟨_, rfl, Or.inl ⟨hb', rfl, hS3⟩⟩
          · have k := fl_full hx5 hlt (zs := List.replicate sz 0) (ba := some ⟨wx.heap.size, 0, none⟩) (bc := sz) (by rw [List.length_replicate]; omega) (by rw [List.length_replicate]; exact hbn.out) hbn1 (hnB.out hb')
            rw [List.length_replicate] at k
            refine k.mono ?_
            rintro e w'' ⟨ev, rfl, ⟨ll, x, rfl, hch⟩, hS3⟩
            exact ⟨_, rfl, Or.inr ⟨hb', ⟨_, x, rfl, hch⟩, hS3.up (by omega)⟩⟩)
        generalize mkB ([47, 100] ++ 47 :: nmP 102 n) = QX at kC hcat
        generalize itoaB (n : Int) = TX at kN hcat hszt
        go_wp2_with fail
        refine (kN.out _).mono ?_
        rintro ev w3 ⟨rfl, hw3⟩
        subst w3
        clear kN
        go_upto_region 9 with fail
        clear hcat hszt
        refine fl9 wr fb xb sz QX (fun wx => FlS rs fb hb xb bn n 0 0 0 (7000 + 2000 * n) w wx) (hidden fun wx hx => hx.x1) (hidden fun wx wy hx hy => hx.below hy) (fun v wx => PutR rs fb hb xb bn n (7000 + 2000 * n + 1000) w B v wx) (hidden fun v wx hx => by rcases hx with ⟨-, -, h⟩ | ⟨-, -, h⟩ <;> exact h.x1) kC hS _ _ _ _ _ _ _ _ _ _ _ _ _ _ _ _ _ _ _ _ _ _ _ _ _ _ _ _ _ _ _ _ _ _ _ _ _ _ _ _ _ _ _ _ _ _ _ _ _ _ _ _ _ _ _ _ _ _ _ _ _ _ _ _ _ _ _ _ _ _ _ _ _ _ _ _ _ _ _ _ _ _ _ _ _ _ _ _ _ _ _ _ _ _ _ _ _ _ _ _ _ _ _ _ _ _ _ _ _ _ _ _ _ _ _ _ _ _ _ _ _ _ _ _ _ _ _ _ _ _ _ _ _ _ _ _ _ _ _ _ _ _ _ _ _ _ _ _ _ _ _ _ _ _ _ _ _ _ _ _ _ _ _ _ _ _ _ _ _ _ _ _ _ _ _ _ _ _ _ _ _ _ _ _ _ _ _ _ _ _ _ _ _ _ _ _ _ _ _ _ _ _ _ _ _ _ _ _ (hidden ?kk9) (hidden ?qp9)
        case qp9 => exact fun _ a a' _ h e => by cases a; cases a'; cases e; exact h
        case kk9 =>
          intro v43 v44 v45 v46 v47 v48 v49 v50 er w4 hR
          clear hS kC
          dsimp only
          rcases hR with ⟨hb', rfl, hS4⟩ | ⟨hb', ⟨ll, x, rfl, hch⟩, hS4⟩
          · have hrn := hidden (show ∀ f, flF bn (n + 1) 0 0 0 f -> rs <= f from fun f hf => by
              have hbb := bkL_one n (by omega)
              have h1 := hB.out
              rw [h1] at hb'
              obtain ⟨f0, hf0⟩ : ∃ f0, flF bn n 0 0 0 f0 := ⟨203 - (bkL 1 + bkL n + n * bn), by
                have e2 : f + bkL (1 + (0 - 0)) + bkL (n + 1 - 0) + (n + 1 - 0) * bn + (0 - 0) = 203 := hf
                show 203 - (bkL 1 + bkL n + n * bn) + bkL (1 + (0 - 0)) + bkL (n - 0) + (n - 0) * bn + (0 - 0) = 203
                simp only [Nat.sub_zero, Nat.add_zero] at e2 ⊢
                rw [Nat.succ_mul] at e2
                omega⟩
              have h2 := hb' f0 hf0
              have e1 : f0 + bkL (1 + (0 - 0)) + bkL (n - 0) + (n - 0) * bn + (0 - 0) = 203 := hf0
              have e2 : f + bkL (1 + (0 - 0)) + bkL (n + 1 - 0) + (n + 1 - 0) * bn + (0 - 0) = 203 := hf
              simp only [Nat.sub_zero, Nat.add_zero] at e1 e2
              rw [Nat.succ_mul] at e2
              omega)
            replace hS4 := hidden (hS4.up (lim' := 7000 + 2000 * (n + 1)) (by omega))
            clear hre hb' hB hnB
            go_wp2
            go_roundg (91 - (n + 1))
            case measure => rw [hgk'.out]; omega
            case rel => exact ⟨n + 1, by omega, rfl, by go_num, hS4, hrn⟩
          · have hnf := hidden (hnB.out hb')
            have kU := hidden (law_num 15 w4 ll _ hch hS4.gt)
            replace hS4 := hidden hS4
            clear hB hnB hb' hch
            go_wp2_with fail
            refine (kU.out).mono ?_
            rintro ev w5 ⟨rfl, hB5⟩
            have hS5 := hidden ((hS4.out.below hB5).up (lim' := 200000) (by omega))
            clear kU hS4 hB5
            go_wp2_with fail
            go_meet
            case rel => exact ⟨n, rfl, by omega, hS5, hre, hidden fun _ => hnf.out⟩
      · have hn : n = 90 := by omega
        subst hn
        have hS5 := hidden (hS.out.up (lim' := 200000) (by omega))
        clear hS
        go_wp2_with fail
        go_meet
        case rel => exact ⟨90, rfl, by omega, hS5, hre, hidden fun e => absurd e (by omega)⟩
  case rest =>
    obtain ⟨n, rfl, hn90, hS, hre, hnf⟩ := hcut
    rename World => wc
    clear hS2
    have c1 := hS.out.x1
    have l1 := lt_of_cell (a := ⟨xb, 1, none⟩) c1
    have kO := hidden (fl_room hS.out hn90 (by omega))
    clear hS
    go_wp2_with fail
    refine (kO.out).mono ?_
    rintro ev w6 ⟨⟨f, c, hf, hc, hc1, rfl⟩, hS6⟩
    obtain ⟨w7, hw7, hB7, hr7'⟩ : ∃ w7, w6.alloc (Obj.cells #[.int .i64 (f : Nat), .int .i64 (rs : Nat), .int .i64 (c : Nat), .int .i64 203] 37) = w7 /\ Below w6.heap.size w6 w7 /\ RmAt w7 w6.heap.size (f : Nat) (rs : Nat) (c : Nat) 203 := ⟨_, rfl, (Below.refl _ _).alloc (Nat.le_refl _) _, rm_new _ _ _ _ _⟩
    have hS7 := hidden (hS6.below hB7)
    have ra := hr7'.c0
    have rc := hr7'.c2
    have lr := hr7'.lt
    have hf203 : f <= 203 := by
      have e1 : f + bkL (1 + (0 - 0)) + bkL (n - 0) + (n - 0) * bn + (0 - 0) = 203 := hf
      omega
    have hrf : rs <= f := hre.out f hf
    have hnf2 := hidden (fun (h : n < 90) => hnf.out h f hf)
    replace hc := hidden (hc (by trivial) (by trivial))
    replace hf := hidden hf
    replace hw7 := hidden hw7
    clear kO c1 l1 hS6 hB7 hr7' hre hnf
    unfold rmV
    go_upto_region 15 with fail
    rw [hw7.out]
    clear hw7
    generalize w6.heap.size = rb at *
    have hge : ¬ (f : Int) < (rs : Int) := by omega
    go_cut [82] (fun q wx => q = .bool false /\ wx = w7)
    case first =>
      by_cases h90 : n = 90
      · subst h90
        have hc8 : ¬ (8 : Int) < (c : Int) := by have := hc.out; omega
        go_wp2_with fail
        go_meet
        case rel => exact ⟨rfl, rfl⟩
      · have e1 : ((n : Int) == 90) = false := by simp; omega
        go_wp2_with fail
        go_meet
        case rel => exact ⟨rfl, rfl⟩
    case rest =>
      obtain ⟨rfl, hwc⟩ := hcut
      replace hwc := hwc.symm
      subst hwc
      have kB := hidden (fun (wx : World) => refblocks_calls (sz : Int) wx)
      rw [hbn.out] at kB
      obtain ⟨gn, hgn, hgn2⟩ : ∃ gn : Nat, growb ((32 * n : Nat) : Int) ((32 * (n + 1) : Nat) : Int) = (gn : Int) /\ gn = bkL (n + 1) - bkL n := ⟨_, grow_bk n (by omega), rfl⟩
      have kW := hidden (fun (wx : World) => show Calls Tryz.prog 12 #[.int .i64 (32 * (n : Int)), .int .i64 (32 * (n : Int) + 32)] wx fun e w' => e = .returned (.int .i64 (gn : Int)) /\ w' = wx from by
        have := refgrow_calls ((32 * n : Nat) : Int) ((32 * (n + 1) : Nat) : Int) wx
        rw [hgn] at this
        have e1 : ((32 * n : Nat) : Int) = 32 * (n : Int) := by omega
        have e2 : ((32 * (n + 1) : Nat) : Int) = 32 * (n : Int) + 32 := by omega
        rw [e1, e2] at this
        exact this)
      have hgn3 : gn <= 2 := by have := bkL_one n (by omega); omega
      replace hgn2 := hidden hgn2
      clear hgn
      go_wp2_with fail
      refine (kB.out _).mono ?_
      rintro ev w8 ⟨rfl, hw8⟩
      subst w8
      clear kB
      go_wp2_with fail
      refine (kW.out _).mono ?_
      rintro ev w8 ⟨rfl, hw8⟩
      subst w8
      clear kW
      go_upto_region 18 with fail
      go_cut [101] (fun q wx => q = .bool false /\ wx = w7)
      case first =>
        by_cases h90 : n < 90
        · have h91 : (n : Int) < 90 := by omega
          have h92 : ¬ (bn : Int) + (gn : Int) <= (f : Int) - (rs : Int) := by have h1 := hnf2.out h90; have h2 := hgn2.out; omega
          go_wp2_with fail
          go_meet
          case rel => exact ⟨rfl, rfl⟩
        · have h91 : ¬ (n : Int) < 90 := by omega
          go_wp2_with fail
          go_meet
          case rel => exact ⟨rfl, rfl⟩
      case rest =>
        obtain ⟨rfl, hwc⟩ := hcut
        replace hwc := hwc.symm
        subst hwc
        clear ra rc lr hnf2 hgn2 hge hc hf
        go_upto_block 2 with fail
        go_cut [12] (fun q wx => ∃ k : Nat, q = .int .i64 (k : Int) /\ k <= 8 /\ Hid (FlS rs fb hb xb bn n 0 k 0 250000 w wx) /\ Hid (k < 8 -> ∀ f, flF bn n 0 k 0 f -> f <= 1))
        case first =>
          go_wp2_with fail
          go_loopg [12] 9 (fun gk q wr => ∃ k : Nat, k <= 8 /\ gk = 9 - k /\ q = .int .i64 (k : Nat) /\ Hid (FlS rs fb hb xb bn n 0 k 0 (201000 + 2000 * k) w wr))
          case atStart => exact ⟨0, by omega, rfl, rfl, hS7⟩
          case round =>
            obtain ⟨k, hk8, hgk, rfl, hS⟩ := hrel
            have hgk' := hidden hgk
            clear hS7 hgk
            by_cases hlt : k < 8
            · have hlt' : (k : Int) < 8 := by omega
              have kN := hidden (fun (wx : World) => num_calls (k : Int) ⟨by omega, by omega⟩ wx)
              have hcat := flk_join k
              have hszt := nm_size (i := k) (by omega)
              have kX := hidden (fun (wx : World) (hx : FlS rs fb hb xb bn n 0 k 0 (201000 + 2000 * k) w wx) => show BytesC fb (wx.alloc (.cells #[.int .u8 120] 5 (1, 2))) (.slice (some ⟨wx.heap.size, 0, none⟩) 1 1) [120] /\ FlS rs fb hb xb bn n 0 k 0 (201000 + 2000 * k) w (wx.alloc (.cells #[.int .u8 120] 5 (1, 2))) from ⟨lit_c fb wx [120] (by simp) (by simp) hx.fb_lt _ _ rfl, hx.below ((Below.refl _ _).alloc (Nat.le_refl _) _)⟩)
              by_cases hb' : ∀ f, flF bn n 0 k 0 f -> (bkL (1 + k + 1) - bkL (1 + k)) + 1 <= f
              · have kK := hidden (fun (wx : World) (hx : FlS rs fb hb xb bn n 0 k 0 (201000 + 2000 * k) w wx) => show Calls Tryz.prog 13 #[ptr fb, .string (mkB (47 :: nmP 107 k)), .slice (some ⟨wx.heap.size, 0, none⟩) 1 1] (wx.alloc (.cells #[.int .u8 120] 5 (1, 2))) fun e w'' => ∃ ev, e = .returned ev /\ (ev = .nilIface /\ FlS rs fb hb xb bn n 0 (k + 1) 0 (201000 + 2000 * k + 1000) w w'') from by
                  obtain ⟨h1, h2⟩ := kX.out wx hx
                  refine (fl_keep h2 hn90 hlt h1 hb' (by omega)).mono ?_
                  rintro e w'' ⟨rfl, h3⟩
                  exact ⟨_, rfl, rfl, h3⟩)
                generalize mkB (47 :: nmP 107 k) = QX at kK hcat
                generalize itoaB (k : Int) = TX at kN hcat hszt
                go_upto_region 21 with fail
                refine fl21 wr fb xb TX QX k hlt' hcat hszt kN (fun wx => FlS rs fb hb xb bn n 0 k 0 (201000 + 2000 * k) w wx) (hidden fun wx hx => hx.x1) (hidden fun wx wy hx hy => hx.below hy) (fun v wx => v = .nilIface /\ FlS rs fb hb xb bn n 0 (k + 1) 0 (201000 + 2000 * k + 1000) w wx) (fun wx => FlS rs fb hb xb bn n 0 (k + 1) 0 (201000 + 2000 * k + 1000) w wx) true (hidden fun v wx hx => ⟨Or.inl ⟨hx.1, rfl⟩, hx.2⟩) (hidden fun v wx hx => hx.2.x1) kK hS _ _ _ _ _ _ _ _ _ _ _ _ _ _ _ _ _ _ _ _ _ _ _ _ _ _ _ _ _ _ _ _ _ _ _ _ _ _ _ _ _ _ _ _ _ _ _ _ _ _ _ _ _ _ _ _ _ _ _ _ _ _ _ _ _ _ _ _ _ _ _ _ _ _ _ _ _ _ _ _ _ _ _ _ _ _ _ _ _ _ _ _ _ _ _ _ _ _ _ _ _ _ _ _ _ _ _ _ _ _ _ _ _ _ _ _ _ _ _ _ _ _ _ _ _ _ _ _ _ _ _ _ _ _ _ _ _ _ _ _ _ _ _ _ _ _ _ _ _ _ _ _ _ _ _ _ _ _ _ _ _ _ _ _ _ _ _ _ _ _ _ _ _ _ _ _ _ _ _ _ _ _ _ _ _ _ _ _ _ _ _ _ _ _ _ _ _ _ _ _ _ _ _ _ _ _ _ _ _ (hidden ?kk21) (hidden ?qp21)
                case qp21 => exact fun _ a a' _ h e => by cases a; cases a'; cases e; exact h
                case kk21 =>
                  intro v102 v103 v104 v105 v106 v107 v108 v109 v110 v111 v112 v113 v114 v115 w4 hS4
                  replace hS4 := hidden hS4
                  clear hS kN kK kX hcat hszt hb'
                  dsimp only
                  go_wp2
                  go_roundg (9 - (k + 1))
                  case measure => rw [hgk'.out]; omega
                  case rel => exact ⟨k + 1, by omega, rfl, by go_num, hidden (hS4.out.up (by omega))⟩
              · have hno := hidden (show ∀ f, flF bn n 0 k 0 f -> f < (bkL (1 + k + 1) - bkL (1 + k)) + 1 from fun f hf => by
                  rcases Nat.lt_or_ge f ((bkL (1 + k + 1) - bkL (1 + k)) + 1) with h' | h'
                  · exact h'
                  · refine absurd (fun f2 hf2 => ?_) hb'
                    have e1 : f + bkL (1 + (k - 0)) + bkL (n - 0) + (n - 0) * bn + (k - 0) = 203 := hf
                    have e2 : f2 + bkL (1 + (k - 0)) + bkL (n - 0) + (n - 0) * bn + (k - 0) = 203 := hf2
                    omega)
                have kK := hidden (fun (wx : World) (hx : FlS rs fb hb xb bn n 0 k 0 (201000 + 2000 * k) w wx) => show Calls Tryz.prog 13 #[ptr fb, .string (mkB (47 :: nmP 107 k)), .slice (some ⟨wx.heap.size, 0, none⟩) 1 1] (wx.alloc (.cells #[.int .u8 120] 5 (1, 2))) fun e w'' => ∃ ev, e = .returned ev /\ ((∃ x, ev = flt x) /\ FlS rs fb hb xb bn n 0 k 0 (201000 + 2000 * k) w w'') from by
                  obtain ⟨h1, h2⟩ := kX.out wx hx
                  exact fl_keepNo h2 hn90 hlt hno.out)
                generalize mkB (47 :: nmP 107 k) = QX at kK hcat
                generalize itoaB (k : Int) = TX at kN hcat hszt
                go_upto_region 21 with fail
                refine fl21 wr fb xb TX QX k hlt' hcat hszt kN (fun wx => FlS rs fb hb xb bn n 0 k 0 (201000 + 2000 * k) w wx) (hidden fun wx hx => hx.x1) (hidden fun wx wy hx hy => hx.below hy) (fun v wx => (∃ x, v = flt x) /\ FlS rs fb hb xb bn n 0 k 0 (201000 + 2000 * k) w wx) (fun wx => FlS rs fb hb xb bn n 0 k 0 (201000 + 2000 * k) w wx) false (hidden fun v wx hx => ⟨Or.inr ⟨hx.1, rfl⟩, hx.2⟩) (hidden fun v wx hx => hx.2.x1) kK hS _ _ _ _ _ _ _ _ _ _ _ _ _ _ _ _ _ _ _ _ _ _ _ _ _ _ _ _ _ _ _ _ _ _ _ _ _ _ _ _ _ _ _ _ _ _ _ _ _ _ _ _ _ _ _ _ _ _ _ _ _ _ _ _ _ _ _ _ _ _ _ _ _ _ _ _ _ _ _ _ _ _ _ _ _ _ _ _ _ _ _ _ _ _ _ _ _ _ _ _ _ _ _ _ _ _ _ _ _ _ _ _ _ _ _ _ _ _ _ _ _ _ _ _ _ _ _ _ _ _ _ _ _ _ _ _ _ _ _ _ _ _ _ _ _ _ _ _ _ _ _ _ _ _ _ _ _ _ _ _ _ _ _ _ _ _ _ _ _ _ _ _ _ _ _ _ _ _ _ _ _ _ _ _ _ _ _ _ _ _ _ _ _ _ _ _ _ _ _ _ _ _ _ _ _ _ _ _ _ (hidden ?kk21) (hidden ?qp21)
                case qp21 => exact fun _ a a' _ h e => by cases a; cases a'; cases e; exact h
                case kk21 =>
                  intro v102 v103 v104 v105 v106 v107 v108 v109 v110 v111 v112 v113 v114 v115 w4 hS4
                  replace hS4 := hidden (hS4.up (lim' := 250000) (by omega))
                  clear hS kN kK kX hcat hszt hb'
                  dsimp only
                  go_wp2_with fail
                  go_meet
                  case rel => exact ⟨k, rfl, by omega, hS4, hidden fun _ f hf => by
                    have h1 := hno.out f hf
                    have h2 : ∀ i : Fin 9, bkL (1 + i.val + 1) - bkL (1 + i.val) <= 1 := by decide +kernel
                    have h3 := h2 ⟨k, by omega⟩
                    simp only [] at h3
                    omega⟩
            · have hlt' : ¬ (k : Int) < 8 := by omega
              go_upto_region 21 with fail
              refine fl21c wr fb xb k hlt' (fun wx => FlS rs fb hb xb bn n 0 k 0 (201000 + 2000 * k) w wx) (hidden fun wx hx => hx.x1) (hidden fun wx wy hx hy => hx.below hy) hS _ _ _ _ _ _ _ _ _ _ _ _ _ _ _ _ _ _ _ _ _ _ _ _ _ _ _ _ _ _ _ _ _ _ _ _ _ _ _ _ _ _ _ _ _ _ _ _ _ _ _ _ _ _ _ _ _ _ _ _ _ _ _ _ _ _ _ _ _ _ _ _ _ _ _ _ _ _ _ _ _ _ _ _ _ _ _ _ _ _ _ _ _ _ _ _ _ _ _ _ _ _ _ _ _ _ _ _ _ _ _ _ _ _ _ _ _ _ _ _ _ _ _ _ _ _ _ _ _ _ _ _ _ _ _ _ _ _ _ _ _ _ _ _ _ _ _ _ _ _ _ _ _ _ _ _ _ _ _ _ _ _ _ _ _ _ _ _ _ _ _ _ _ _ _ _ _ _ _ _ _ _ _ _ _ _ _ _ _ _ _ _ _ _ _ _ _ _ _ _ _ _ _ _ _ _ _ _ _ (hidden ?kk21) (hidden ?qp21)
              case qp21 => exact fun _ a a' _ h e => by cases a; cases a'; cases e; exact h
              case kk21 =>
                intro v102 v103 v104 v105 v106 v107 v108 v109 v110 v111 v112 v113 v114 v115 w4 hS4
                replace hS4 := hidden (hS4.up (lim' := 250000) (by omega))
                clear hS
                dsimp only
                go_wp2_with fail
                go_meet
                case rel => exact ⟨k, rfl, by omega, hS4, hidden fun e => absurd e hlt⟩
        case rest =>
          obtain ⟨k, rfl, hk8, hS, hk1⟩ := hcut
          rename World => wd
          clear hS7
          have c1 := hS.out.x1
          have l1 := lt_of_cell (a := ⟨xb, 1, none⟩) c1
          have kO := hidden (fl_room hS.out hn90 (by omega))
          clear hS
          go_wp2_with fail
          refine (kO.out).mono ?_
          rintro ev wa ⟨⟨g, c2, hg, -, hc2, rfl⟩, hSa⟩
          obtain ⟨w9, hw9, hB9, hr9⟩ : ∃ w9, wa.alloc (Obj.cells #[.int .i64 (g : Nat), .int .i64 (rs : Nat), .int .i64 (c2 : Nat), .int .i64 203] 37) = w9 /\ Below wa.heap.size wa w9 /\ RmAt w9 wa.heap.size (g : Nat) (rs : Nat) (c2 : Nat) 203 := ⟨_, rfl, (Below.refl _ _).alloc (Nat.le_refl _) _, rm_new _ _ _ _ _⟩
          have hS9 := hSa.below hB9
          have ra := hr9.c0
          have lr := hr9.lt
          have c9 := hS9.x1
          have l9 := lt_of_cell (a := ⟨xb, 1, none⟩) c9
          have hg203 : g <= 203 := by
            have e1 : g + bkL (1 + (k - 0)) + bkL (n - 0) + (n - 0) * bn + (k - 0) = 203 := hg
            omega
          have hgk := hidden (fun (h : k < 8) => hk1.out h g hg)
          have kC := hidden (fl_check hS9 hn90 hk8 (by omega))
          have hge : ¬ (g : Int) < 0 := by omega
          replace hw9 := hidden hw9
          clear kO c1 l1 hSa hB9 hr9 hk1 hg hS9
          unfold rmV
          go_upto_region 24 with fail
          rw [hw9.out]
          clear hw9
          generalize wa.heap.size = sb at *
          go_cut [150] (fun q wx => q = .bool false /\ FlS rs fb hb xb bn n 0 k 0 252000 w wx)
          case first =>
            by_cases h8 : k < 8
            · have e1 : (k : Int) < 8 := by omega
              have e2 : ¬ (1 : Int) < (g : Int) := by have := hgk.out h8; omega
              go_wp2_with fail
              refine (kC.out).mono ?_
              rintro ev wb ⟨rfl, hSb⟩
              replace hSb := hidden hSb
              clear kC
              go_wp2_with fail
              go_meet
              case rel => exact ⟨rfl, hSb.out⟩
            · have e1 : ¬ (k : Int) < 8 := by omega
              go_wp2_with fail
              refine (kC.out).mono ?_
              rintro ev wb ⟨rfl, hSb⟩
              replace hSb := hidden hSb
              clear kC
              go_wp2_with fail
              go_meet
              case rel => exact ⟨rfl, hSb.out⟩
          case rest =>
            obtain ⟨rfl, hS⟩ := hcut
            rename World => wf
            replace hS := hidden hS
            clear kC ra lr c9 l9 hgk hge hg203
            go_wp2_with fail
            go_loopg [15] 91 (fun gk q wr => ∃ i : Nat, i <= n /\ gk = 91 - i /\ q = .int .i64 (i : Nat) /\ Hid (FlS rs fb hb xb bn n i k 0 (252000 + 1000 * i) w wr))
            case atStart => exact ⟨0, by omega, rfl, rfl, hS⟩
            case round =>
              obtain ⟨i, hin, hgk, rfl, hS2⟩ := hrel
              have hgk' := hidden hgk
              clear hS hgk
              by_cases hlt : i < n
              · have hlt' : (i : Int) < (n : Int) := by omega
                have kN := hidden (fun (wx : World) => num_calls (i : Int) ⟨by omega, by omega⟩ wx)
                have hcat := flf_join i
                have hszt := nm_size (i := i) (by omega)
                have kP := hidden (fun (wx : World) (hx : FlS rs fb hb xb bn n i k 0 (252000 + 1000 * i) w wx) => fl_rmf hx hn90 hlt (by omega))
                generalize mkB ([47, 100] ++ 47 :: nmP 102 i) = QX at kP hcat
                generalize itoaB (i : Int) = TX at kN hcat hszt
                go_upto_region 29 with fail
                refine fl29 wr fb xb TX QX i hcat hszt kN (fun wx => FlS rs fb hb xb bn n i k 0 (252000 + 1000 * i) w wx) (hidden fun wx hx => hx.x1) (hidden fun wx wy hx hy => hx.below hy) (fun wx => FlS rs fb hb xb bn n (i + 1) k 0 (252000 + 1000 * i + 1000) w wx) (hidden fun wx hx => hx.x1) kP hS2 _ _ _ _ _ _ _ _ _ _ _ _ _ _ _ _ _ _ _ _ _ _ _ _ _ _ _ _ _ _ _ _ _ _ _ _ _ _ _ _ _ _ _ _ _ _ _ _ _ _ _ _ _ _ _ _ _ _ _ _ _ _ _ _ _ _ _ _ _ _ _ _ _ _ _ _ _ _ _ _ _ _ _ _ _ _ _ _ _ _ _ _ _ _ _ _ _ _ _ _ _ _ _ _ _ _ _ _ _ _ _ _ _ _ _ _ _ _ _ _ _ _ _ _ _ _ _ _ _ _ _ _ _ _ _ _ _ _ _ _ _ _ _ _ _ _ _ _ _ _ _ _ _ _ _ _ _ _ _ _ _ _ _ _ _ _ _ _ _ _ _ _ _ _ _ _ _ _ _ _ _ _ _ _ _ _ _ _ _ _ _ _ _ _ _ _ _ _ _ _ _ _ _ _ _ _ _ _ _ (hidden ?kk29) (hidden ?qp29)
                case qp29 => exact fun _ a a' _ h e => by cases a; cases a'; cases e; exact h
                case kk29 =>
                  intro v156 v157 v158 v159 v160 v161 v162 v163 w4 hS4
                  replace hS4 := hidden hS4
                  clear hS2 kN kP hcat hszt
                  dsimp only
                  go_wp2
                  go_roundg (91 - (i + 1))
                  case measure => rw [hgk'.out]; omega
                  case rel => exact ⟨i + 1, by omega, rfl, by go_num, hidden (hS4.out.up (by omega))⟩
              · have hin' : i = n := by omega
                subst hin'
                have hS3 := hidden (hS2.out.up (lim' := 350000) (by omega))
                clear hS2
                go_wp2_with fail
                go_loopg [16] 9 (fun gk q wr => ∃ j : Nat, j <= k /\ gk = 9 - j /\ q = .int .i64 (j : Nat) /\ Hid (FlS rs fb hb xb bn i i k j (350000 + 1000 * j) w wr))
                case atStart => exact ⟨0, by omega, rfl, rfl, hS3⟩
                case round =>
                  obtain ⟨j, hjk, hgk2, rfl, hS4⟩ := hrel
                  have hgk2' := hidden hgk2
                  clear hS3 hgk2
                  by_cases hlj : j < k
                  · have hlj' : (j : Int) < (k : Int) := by omega
                    have kN := hidden (fun (wx : World) => num_calls (j : Int) ⟨by omega, by omega⟩ wx)
                    have hcat := flk_join j
                    have hszt := nm_size (i := j) (by omega)
                    have kP := hidden (fun (wx : World) (hx : FlS rs fb hb xb bn i i k j (350000 + 1000 * j) w wx) => fl_rmk hx hn90 hk8 hlj (by omega))
                    generalize mkB (47 :: nmP 107 j) = QX at kP hcat
                    generalize itoaB (j : Int) = TX at kN hcat hszt
                    go_upto_region 34 with fail
                    refine fl34 wr fb xb TX QX j hcat hszt kN (fun wx => FlS rs fb hb xb bn i i k j (350000 + 1000 * j) w wx) (hidden fun wx hx => hx.x1) (hidden fun wx wy hx hy => hx.below hy) (fun wx => FlS rs fb hb xb bn i i k (j + 1) (350000 + 1000 * j + 1000) w wx) (hidden fun wx hx => hx.x1) kP hS4 _ _ _ _ _ _ _ _ _ _ _ _ _ _ _ _ _ _ _ _ _ _ _ _ _ _ _ _ _ _ _ _ _ _ _ _ _ _ _ _ _ _ _ _ _ _ _ _ _ _ _ _ _ _ _ _ _ _ _ _ _ _ _ _ _ _ _ _ _ _ _ _ _ _ _ _ _ _ _ _ _ _ _ _ _ _ _ _ _ _ _ _ _ _ _ _ _ _ _ _ _ _ _ _ _ _ _ _ _ _ _ _ _ _ _ _ _ _ _ _ _ _ _ _ _ _ _ _ _ _ _ _ _ _ _ _ _ _ _ _ _ _ _ _ _ _ _ _ _ _ _ _ _ _ _ _ _ _ _ _ _ _ _ _ _ _ _ _ _ _ _ _ _ _ _ _ _ _ _ _ _ _ _ _ _ _ _ _ _ _ _ _ _ _ _ _ _ _ _ _ _ _ _ _ _ _ _ _ _ (hidden ?kk34) (hidden ?qp34)
                    case qp34 => exact fun _ a a' _ h e => by cases a; cases a'; cases e; exact h
                    case kk34 =>
                      intro v170 v171 v172 v173 v174 v175 v176 v177 w4 hS5
                      replace hS5 := hidden hS5
                      clear hS4 kN kP hcat hszt
                      dsimp only
                      go_wp2
                      go_roundg (9 - (j + 1))
                      case measure => rw [hgk2'.out]; omega
                      case rel => exact ⟨j + 1, by omega, rfl, by go_num, hidden (hS5.out.up (by omega))⟩
                  · have hjk' : j = k := by omega
                    subst hjk'
                    have c1 := hS4.out.x1
                    have l1 := lt_of_cell (a := ⟨xb, 1, none⟩) c1
                    have kO := hidden (fl_room hS4.out hn90 (by omega))
                    clear hS4
                    go_wp2_with fail
                    refine (kO.out).mono ?_
                    rintro ev wa ⟨⟨g2, c3, hg2, -, hc3, rfl⟩, hSa⟩
                    obtain ⟨w9, hw9, hB9, hr9⟩ : ∃ w9, wa.alloc (Obj.cells #[.int .i64 (g2 : Nat), .int .i64 (rs : Nat), .int .i64 (c3 : Nat), .int .i64 203] 37) = w9 /\ Below wa.heap.size wa w9 /\ RmAt w9 wa.heap.size (g2 : Nat) (rs : Nat) (c3 : Nat) 203 := ⟨_, rfl, (Below.refl _ _).alloc (Nat.le_refl _) _, rm_new _ _ _ _ _⟩
                    have hg202 := hidden (show (g2 : Int) = 202 from by
                      have e1 : g2 + bkL (1 + (j - j)) + bkL (i - i) + (i - i) * bn + (j - j) = 203 := hg2
                      rw [Nat.sub_self, Nat.sub_self, Nat.zero_mul] at e1
                      have b1 : bkL (1 + 0) = 1 := by decide
                      have b0 : bkL 0 = 0 := by decide
                      omega)
                    have hF9 := hidden (show FAt xb fb wa.heap.size g2 w9 from ⟨(hSa.below hB9).x1, hr9.c0, hr9.c3⟩)
                    have kR := hidden (fun (wx : World) (hx : Below w9.heap.size w9 wx) => show Calls Tryz.prog 15 #[ptr fb, .string ⟨#[47, 100]⟩] wx fun e w' => e = .returned .nilIface /\ (Below w.heap.size w w' /\ Ground w' /\ GT w') /\ FAt xb fb wa.heap.size g2 w' from by
                      have hF := hF9.out.below hx
                      have hlr := lt_of_cell (a := ⟨wa.heap.size, 0, none⟩) hF.2.1
                      refine (fl_rmd hSa (hB9.trans (hx.mono hB9.size)) (by omega)).mono ?_
                      rintro e w' ⟨rfl, h1, h2, h3⟩
                      exact ⟨rfl, h1, h2, (h3 _ (Nat.le_refl _) hlr 0).trans hF.2.1, (h3 _ (Nat.le_refl _) hlr 3).trans hF.2.2⟩)
                    have kD := hidden (fun (wx : World) => show Calls Tryz.prog 16 #[.int .i64 1] wx fun e w' => e = .returned (.int .i64 1) /\ w' = wx from refdir_calls 1 wx)
                    replace hw9 := hidden hw9
                    clear kO c1 l1 hSa hB9 hr9 hg2
                    unfold rmV
                    go_upto_region 37 with fail
                    rw [hw9.out]
                    clear hw9
                    generalize wa.heap.size = sc at *
                    refine fl37 w9 w fb xb sc g2 hg202.out hF9 kR kD _ _ _ _ _ _ _ _ _ _ _ _ _ _ _ _ _ _ _ _ _ _ _ _ _ _ _ _ _ _ _ _ _ _ _ _ _ _ _ _ _ _ _ _ _ _ _ _ _ _ _ _ _ _ _ _ _ _ _ _ _ _ _ _ _ _ _ _ _ _ _ _ _ _ _ _ _ _ _ _ _ _ _ _ _ _ _ _ _ _ _ _ _ _ _ _ _ _ _ _ _ _ _ _ _ _ _ _ _ _ _ _ _ _ _ _ _ _ _ _ _ _ _ _ _ _ _ _ _ _ _ _ _ _ _ _ _ _ _ _ _ _ _ _ _ _ _ _ _ _ _ _ _ _ _ _ _ _ _ _ _ _ _ _ _ _ _ _ _ _ _ _ _ _ _ _ _ _ _ _ _ _ _ _ _ _ _ _ _ _ _ _ _ _ _ _ _ _ _ _ _ _ _ _ _ _ _ _ (hidden ?kk37) (hidden ?qp37)
                    case qp37 => exact fun _ a a' _ h e => by cases a; cases a'; cases e; exact h
                    case kk37 =>
                      intro v187 v188 v189 v190 v191 v192 v193 v194 v195 v196 v197 v198 v199 v200 v201 v202 v203 v204 v205 v206 v207 v208 wz hBz
                      replace hBz := hidden hBz
                      clear kR kD hF9
                      dsimp only
                      go_wp2
                      go_ret
                      exact ⟨rfl, hBz.out⟩
end Go.Proofs.YtleafmdjhmnjmaaGreatDoor
