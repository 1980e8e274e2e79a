/- The walk of ConfOrders. -/
import Derived.Test.YtdiplnaphdppbaaGreatDoorZ2
import Derived.Deep.Cut
import Derived.Deep.CutBlock
import Derived.Deep.CutRange
import Derived.Deep.RegionLaw
import Derived.Laws.Shifts
namespace Go.Proofs.YtdiplnaphdppbaaGreatDoor
open Go.RowKit Go.Extern.Stop Go.Stop Go.Extern
set_option maxRecDepth 100000

structure Bx1 (w wx : World) (x : En) (v : Value) : Prop where
  x : EnAt wx w.heap.size x v
  bl : Below w.heap.size w wx
theorem Bx1.next {w wx w' : World} {x : En} {v : Value} (h : Bx1 w wx x v) (hb : Below wx.heap.size wx w') : Bx1 w w' x v := ⟨h.x.below hb, h.bl.trans (hb.mono h.bl.size)⟩
theorem mk_app (a b : List UInt8) : mkB a ++ mkB b = mkB (a ++ b) := by
  apply ByteArray.ext
  simp [mkB]
theorem ex_cat (l : List UInt8) (b : Bl) : mkB l ++ ⟨#[101, 120, 116, 114, 97, 32]⟩ ++ mkB b.1 ++ ⟨#[32]⟩ ++ mkB b.2 ++ ⟨#[10]⟩ = mkB (l ++ lineW [kwE, b.1, b.2]) := by
  show mkB l ++ mkB [101, 120, 116, 114, 97, 32] ++ mkB b.1 ++ mkB [32] ++ mkB b.2 ++ mkB [10] = _
  rw [mk_app, mk_app, mk_app, mk_app, mk_app, line3]
  congr 1
  simp [lnB, kwE]
theorem v_cat (l : List UInt8) : (⟨#[118, 101, 114, 115, 105, 111, 110, 32]⟩ : ByteArray) ++ mkB l = mkB (lnV l) := by
  rw [show (⟨#[118, 101, 114, 115, 105, 111, 110, 32]⟩ : ByteArray) = mkB [118, 101, 114, 115, 105, 111, 110, 32] from rfl, mk_app]; rfl
theorem k_cat (a b : List UInt8) : (⟨#[107, 101, 114, 110, 101, 108, 32]⟩ : ByteArray) ++ mkB a ++ ⟨#[32]⟩ ++ mkB b = mkB (lnB kwK (a, b)) := by
  rw [show (⟨#[107, 101, 114, 110, 101, 108, 32]⟩ : ByteArray) = mkB [107, 101, 114, 110, 101, 108, 32] from rfl, show (⟨#[32]⟩ : ByteArray) = mkB [32] from rfl, mk_app, mk_app, mk_app]
  congr 1
  simp [lnB, kwK]
theorem shr_low (g y : Int) : Op.shift .shr .i64 g .i64 (bits .and .i64 y 31) = pure (.int .i64 (g / 2 ^ min (bits .and .i64 y 31).toNat IntKind.i64.bits)) := shift_shr_any _ _ _ _ (and_low _ 31 (by decide)).1
theorem shr_one (g : Int) : Op.shift .shr .i64 g .u64 1 = pure (.int .i64 (g / 2)) := shift_shr_any _ _ _ _ (by decide)
attribute [local go_sem ↓] shr_low shr_one
theorem o_cat (l : List UInt8) : (⟨#[111, 112, 116, 105, 111, 110, 115, 32]⟩ : ByteArray) ++ mkB l = mkB (lnO l) := by
  rw [show (⟨#[111, 112, 116, 105, 111, 110, 115, 32]⟩ : ByteArray) = mkB [111, 112, 116, 105, 111, 110, 115, 32] from rfl, mk_app]; rfl
set_option maxHeartbeats 8000000 in
theorem confOrders_calls (x : En) (v : Value) (tn gp : Int) (w : World) (hv : BlobsAt w v x.ex) (hg : GT w) (hG : Ground w) :
    Calls Tryz.prog 4 #[enV x v, .int .i64 tn, .int .i64 gp] w fun e w' => e = .returned (.bool true) ∧ Below w.heap.size w w' := by
  obtain ⟨a, cap, rfl, -⟩ := (id hv : BlobsAt w v x.ex)
  obtain ⟨w1, hw1, hX⟩ : ∃ w1, w.alloc (.cells #[.string (mkB x.ver), .string (mkB x.kn), .string (mkB x.ks), .slice a x.ex.length cap, .string (mkB x.op)] 27) = w1 ∧ Bx1 w w1 x (.slice a x.ex.length cap) :=
    ⟨_, rfl, ⟨by simp, by simp, by simp, by simp, by simp⟩, (Below.refl _ _).alloc (Nat.le_refl _) _⟩
  have kA := hidden (fun (wx : World) (hx : Bx1 w wx x (.slice a x.ex.length cap)) => awake_calls wx (hg.below hx.bl) (hG.below hx.bl))
  have kS := hidden (fun (wx : World) (hx : Bx1 w wx x (.slice a x.ex.length cap)) => small_calls x _ wx (hv.below hx.bl))
  have kP := hidden (fun (hs : SmallE x) (wx : World) (hx : Bx1 w wx x (.slice a x.ex.length cap)) => refok_calls x _ wx (hv.below hx.bl) (by have := hs.ex; omega))
  have kU := hidden (fun (y : En) (hy : y.ex.length ≤ 1000000) (u : Value) (wx : World) (hx : Bx1 w wx x (.slice a x.ex.length cap)) (hu : BlobsAt wx u y.ex) => refsame_calls y x u _ wx hu (hv.below hx.bl) hy)
  have kG := hidden (fun (s : List UInt8) (y : En) (hs : s.length ≤ 2000) (hr : readL (linesB s) 0 e0 = .inr y) (wx : World) => parse_good s y wx hs hr)
  have hcx := hidden (fun (wx : World) (h : Bx1 w wx x (.slice a x.ex.length cap)) => And.intro h.x.c0 (And.intro h.x.c1 (And.intro h.x.c2 (And.intro h.x.c3 h.x.c4))))
  have hok := hidden (ok_iff x).1
  generalize okE x = o1 at kP hok
  replace hw1 := hidden hw1
  replace hX := hidden hX
  have hvH := hidden hv
  clear hv hg hG
  unfold enV at *
  go_enter Tryz.func4, Tryz.ntmps4
  go_upto_region 1 with fail
  rw [hw1.out]
  clear hw1
  have kc := hidden (kS.out w1 hX.out)
  obtain ⟨c0, c1, c2, c3, c4⟩ := hcx.out w1 hX.out
  go_wp2_with fail
  refine kc.out.mono ?_
  rintro e w2 ⟨⟨q, rfl, hq⟩, hb⟩
  have hX2 := hidden (hX.out.next hb)
  clear hb kc c0 c1 c2 c3 c4
  cases q
  · clear hq
    have kA2 := hidden (kA.out w2 hX2.out)
    go_wp2_with fail
    refine kA2.out.mono ?_
    rintro e w3 ⟨rfl, hb⟩
    have hX3 := hidden (hX2.out.next hb)
    clear hb
    go_wp2
    go_ret
    exact ⟨rfl, hX3.out.bl⟩
  · have hs : SmallE x := hq rfl
    clear hq
    have kc := hidden (kP.out hs w2 hX2.out)
    obtain ⟨c0, c1, c2, c3, c4⟩ := hcx.out w2 hX2.out
    go_wp2_with fail
    refine kc.out.mono ?_
    rintro e w3 ⟨rfl, hb⟩
    have hX3 := hidden (hX2.out.next hb)
    clear hb kc c0 c1 c2 c3 c4
    cases o1
    · have kA3 := hidden (kA.out w3 hX3.out)
      go_wp2_with fail
      refine kA3.out.mono ?_
      rintro e w4 ⟨rfl, hb⟩
      have hX4 := hidden (hX3.out.next hb)
      clear hb
      go_wp2
      go_ret
      exact ⟨rfl, hX4.out.bl⟩
    · have ho := hok.out rfl
      obtain ⟨h1, h2, h3, h4, h5, h6⟩ := ho.sizes
      have hsz1 : (mkB x.ver).size ≤ 1000 := by rw [mk_size]; exact h1
      have hsz2 : (mkB x.kn).size ≤ 1000 := by rw [mk_size]; exact h2
      have hsz3 : (mkB x.ks).size ≤ 1000 := by rw [mk_size]; exact h3
      have hsz4 : (mkB x.op).size ≤ 1000 := by rw [mk_size]; exact h4
      have vc := hidden (v_cat x.ver)
      have kc := hidden (k_cat x.kn x.ks)
      have oc := hidden (o_cat x.op)
      have i0 : (mkB x.op).toList.isEmpty = x.op.isEmpty := by rw [mk_toList]
      obtain ⟨c0, c1, c2, c3, c4⟩ := hcx.out w3 hX3.out
      go_upto_region 4 with fail
      rw [vc.out, kc.out]
      obtain ⟨w4, hw4, hK4, hX4⟩ : ∃ w4, w3.alloc (.cells #[.string (mkB (lnV x.ver)), .string (mkB (lnB kwK (x.kn, x.ks)))] 9) = w4 ∧ KeptT w3.heap.size w4 (.slice (some ⟨w3.heap.size, 0, none⟩) 2 2) [lnV x.ver, lnB kwK (x.kn, x.ks)] ∧ Bx1 w w4 x (.slice a x.ex.length cap) :=
        ⟨_, rfl, KeptT.new2 _ _ _, hX3.out.next ((Below.refl _ _).alloc (Nat.le_refl _) _)⟩
      rw [hw4]
      have hwB : w.heap.size < w3.heap.size := hX3.out.x.lt
      have hB4 : w3.heap.size ≤ w4.heap.size := by rw [← hw4]; simp
      clear hw4 c0 c1 c2 c3 c4 hX3
      generalize w3.heap.size = B at *
      replace hK4 := hidden hK4
      replace hX4 := hidden hX4
      obtain ⟨c0, c1, c2, c3, c4⟩ := hcx.out w4 hX4.out
      go_upto_if 38 with fail
      go_cut [7] from 36 (fun p wx => Hid (KeptT B wx p (fixL x) ∧ Bx1 w wx x (.slice a x.ex.length cap)))
      case first =>
        cases hpo : x.op.isEmpty
        · rw [hpo] at i0
          obtain ⟨wa, hwa⟩ : ∃ wa, w4.alloc (.cells #[.string (⟨#[111, 112, 116, 105, 111, 110, 115, 32]⟩ ++ mkB x.op)] 9) = wa := ⟨_, rfl⟩
          have hba : Below w4.heap.size w4 wa := by rw [← hwa]; exact (Below.refl _ _).alloc (Nat.le_refl _) _
          have z0 : wa.cell? ⟨w4.heap.size, 0, none⟩ = some (.string (mkB (lnO x.op))) := by rw [← oc.out, ← hwa]; simp
          obtain ⟨v5, w5, hrun, hk5, hb5⟩ := keptT_append (hK4.out.below hba) ⟨w4.heap.size, 0, none⟩ 1 (lnO x.op) z0 (by simp) (Nat.le_trans hB4 hba.size) 41
          rw [← hwa] at hrun
          have hXa := hX4.out.next hba
          have hfin := hidden (show KeptT B w5 v5 (fixL x) ∧ Bx1 w w5 x (.slice a x.ex.length cap) from ⟨by
            rw [fixL, hpo]; exact hk5, ⟨⟨(hb5.cell (p := ⟨w.heap.size, 0, none⟩) hwB).trans hXa.x.c0, (hb5.cell (p := ⟨w.heap.size, 1, none⟩) hwB).trans hXa.x.c1, (hb5.cell (p := ⟨w.heap.size, 2, none⟩) hwB).trans hXa.x.c2, (hb5.cell (p := ⟨w.heap.size, 3, none⟩) hwB).trans hXa.x.c3, (hb5.cell (p := ⟨w.heap.size, 4, none⟩) hwB).trans hXa.x.c4⟩, hXa.bl.trans (hb5.mono (Nat.le_of_lt hwB))⟩⟩)
          replace hrun := hidden hrun
          clear hk5 hb5 hXa z0 hba hwa
          go_wp2_with (at_builtin; refine wpList_append_eq _ _ 41 rfl _ _ v5 w5 rfl rfl hrun.out rfl ?_)
          go_meet
          case rel => exact hfin
        · rw [hpo] at i0
          go_wp2_with fail
          go_meet
          case rel => exact hidden ⟨by rw [fixL, hpo]; exact hK4.out, hX4.out⟩
      case rest =>
        rename World => wl
        clear c0 c1 c2 c3 c4
        obtain ⟨hKl, hXl⟩ := hcut.out
        obtain ⟨ga, gc, hgv, hgl, hgc⟩ := hKl.at
        subst hgv
        obtain ⟨gb, gf, rfl, hgb, hgx⟩ := hgc (by unfold fixL; simp)
        obtain ⟨M, hM⟩ : ∃ M, (fixL x).length = M := ⟨_, rfl⟩
        have hM23 := fix_len x
        rw [hM] at hM23 hgl
        obtain ⟨L, hL⟩ : ∃ L, x.ex.length = L := ⟨_, rfl⟩
        obtain ⟨C, hC⟩ : ∃ C : Nat, bits .and .i64 (tn / 2) 255 = (C : Int) := ⟨_, (Int.toNat_of_nonneg (and_low _ 255 (by decide)).1).symm⟩
        have hCa : 0 ≤ bits .and .i64 (tn / 2) 255 ∧ bits .and .i64 (tn / 2) 255 ≤ 255 := and_low (tn / 2) 255 (by decide)
        have hCb : C ≤ 255 := by omega
        have hL8 : L ≤ 8 := by rw [← hL]; exact ho.few
        obtain ⟨c0, c1, c2, c3, c4⟩ := hcx.out wl hXl
        replace hgx := hidden hgx
        replace hXl := hidden hXl
        clear hcut hKl hgc
        rw [hM, hL]
        rw [hL] at c3
        have hcH := hcx
        clear c0 c1 c2 c3 c4 hcx i0 vc kc oc hK4 hX4 hX2 kS kP h5 h6
        go_wp2_with fail
        go_loopg [9, 10, 11] (M + L) (fun gk s k i wr => ∃ (j k' : Nat) (t : List UInt8), j ≤ M ∧ k' ≤ L ∧ gk = M + L - (j + k') ∧ i = .int .i64 ((j : Int) + (k' : Int)) ∧ k = .int .i64 (k' : Int) ∧ s = .string (mkB t) ∧ Hid (OrI x C j k' t ∧ Below wl.heap.size wl wr))
        case atStart => exact ⟨0, 0, [], Nat.zero_le _, Nat.zero_le _, by simp, rfl, rfl, rfl, hidden ⟨OrI.start x C, Below.refl _ _⟩⟩
        case round =>
          obtain ⟨j, k, t, hj, hk, hgk, rfl, rfl, rfl, hI⟩ := hrel
          replace hgk := hidden hgk
          obtain ⟨hO, hBr⟩ := hI.out
          have hX := hXl.out.next hBr
          obtain ⟨c0, c1, c2, c3, c4⟩ := hcH.out wr hX
          rw [hL] at c3
          have htl : (mkB t).size ≤ 230 * j + 70 * k := by rw [mk_size]; exact hO.len
          replace hO := hidden hO
          replace hX := hidden hX
          replace hBr := hidden hBr
          clear hI
          by_cases hlt : j + k < M + L
          · have hltI : (j : Int) + (k : Int) < (M : Int) + (L : Int) := by omega
            have hct : ¬ 9223372036854775807 < (mkB t).size + 12 := by omega
            have e12 : mkB t ++ ⟨#[10, 35, 32, 97, 32, 114, 101, 109, 97, 114, 107, 10]⟩ = mkB (t ++ (10 :: rmk ++ [10])) := by
              rw [show (⟨#[10, 35, 32, 97, 32, 114, 101, 109, 97, 114, 107, 10]⟩ : ByteArray) = mkB (10 :: rmk ++ [10]) from rfl, mk_app]
            replace e12 := hidden e12
            go_upto_if 61 with fail
            go_cut [9] from 47 to 117 (fun p wx => (∃ b : Bool, p = .string (mkB (if b then t ++ (10 :: rmk ++ [10]) else t))) ∧ wx = wr)
            case first =>
              go_wp2_with fail
              all_goals
                go_meet
                case rel =>
                  first
                    | exact ⟨⟨true, by rw [e12.out]; rfl⟩, rfl⟩
                    | exact ⟨⟨false, rfl⟩, rfl⟩
            case rest =>
              rename World => wz
              obtain ⟨⟨b, rfl⟩, hwz⟩ := hcut
              subst hwz
              obtain ⟨T, hT⟩ : ∃ T, (if b then t ++ (10 :: rmk ++ [10]) else t) = T := ⟨_, rfl⟩
              have hTl : (mkB T).size ≤ 230 * j + 70 * k + 12 := by
                rw [mk_size, ← hT]; rw [mk_size] at htl
                cases b <;> simp [rmk] <;> omega
              rw [hT]
              go_upto_region 14 with fail
              have hjk : (j : Int) + (k : Int) - (k : Int) = (j : Int) := by omega
              by_cases hjM : (j : Int) < (M : Int)
              · have hj1 : j < M := by omega
                have hidx : ((j : Int) + (C : Int)).tmod (M : Int) = (((j + C) % M : Nat) : Int) := by
                  rw [Int.tmod_eq_emod_of_nonneg (by omega)]; simp
                have hqM : (j + C) % M < M := Nat.mod_lt _ (by omega)
                have hM0 : ¬ (M : Int) = 0 := by omega
                have hln : (fixL x)[(j + C) % M]? = some ((fixL x).getD ((j + C) % M) []) := by rw [List.getD_eq_getElem?_getD, List.getElem?_eq_getElem (by rw [hM]; exact hqM)]; rfl
                have hlc := (hBr.out.cell (p := ⟨gb, gf + (j + C) % M, none⟩) hgb).trans (hgx.out _ _ hln)
                have hnl := (fix_nl ho ((j + C) % M)).2
                have hO2 := hidden (hO.out.fix ho b (by rw [hM]; exact hj1))
                rw [hT, hM] at hO2
                generalize (fixL x).getD ((j + C) % M) [] = ln at *
                generalize (j + C) % M = qq at *
                have hzl := mk_size ln
                have ft1 : mkB T ++ mkB ln = mkB (T ++ ln) := mk_app _ _
                have ft2 : mkB (T ++ ln) ++ ⟨#[10]⟩ = mkB (T ++ (ln ++ [10])) := by
                  show mkB (T ++ ln) ++ mkB [10] = _
                  rw [mk_app, List.append_assoc]
                have ft3 : (mkB (T ++ ln)).size = (mkB T).size + ln.length := by rw [mk_size, mk_size, List.length_append]
                have hTl2 : (mkB T).size ≤ 2000 := by omega
                have hqI : (qq : Int) < (M : Int) := by omega
                have hjC : (j : Int) + (C : Int) ≤ 300 := by omega
                clear hln hlt
                by_cases hpar : ((j : Int) + (k : Int)) % 2 = bits .and .i64 tn 1
                · by_cases hk1 : k < L
                  · have hkL : ¬ (L : Int) ≤ (k : Int) := by omega
                    go_upto_if 82 with fail
                    have hkI : (k : Int) < (L : Int) := by omega
                    obtain ⟨y, hy⟩ : ∃ y, x.ex[k]? = some y := ⟨_, List.getElem?_eq_getElem (by rw [hL]; exact hk1)⟩
                    have hyd : x.ex.getD k ([], []) = y := by simp [List.getD, hy]
                    obtain ⟨hy1, hy2⟩ := ho.sizes.2.2.2.2.2 y (List.mem_of_getElem? hy)
                    obtain ⟨a', cap', hva, hcap', hrest⟩ := (hvH.out.below hX.out.bl)
                    obtain ⟨rfl, -, -⟩ := Value.slice.inj hva
                    obtain ⟨bb, off, rfl, hbb, hcells⟩ := hrest (by intro e; rw [e] at hy; simp at hy)
                    obtain ⟨z0, z1⟩ := hcells k y hy
                    have hcat := ex_cat T y
                    rw [show lineW [kwE, y.1, y.2] = lnB kwE y ++ [10] from line3 kwE y] at hcat
                    replace hcat := hidden hcat
                    have sz1 : (mkB y.1).size ≤ 1000 := by rw [mk_size]; exact hy1
                    have sz2 : (mkB y.2).size ≤ 1000 := by rw [mk_size]; exact hy2
                    clear hcells hrest hva
                    generalize hcur : mkB T = cur at *
                    generalize mkB y.1 = s1 at *
                    generalize mkB y.2 = s2 at *
                    replace hcur := hidden hcur
                    go_upto_region 15 with fail
                    go_quiet (fail)
                    have hb4 : Hid (Below wl.heap.size wl (wz.drewN nq)) := hidden (below_drewN hBr.out nq)
                    generalize wz.drewN nq = w5 at hb4 ⊢
                    clear z0 z1
                    rw [hcat.out]
                    have hO2 := hidden (hO.out.ext ho b (by rw [hL]; exact hk1))
                    rw [hT, hyd] at hO2
                    go_wp2_with fail
                    go_roundg (M + L - (j + (k + 1)))
                    case measure => rw [hgk.out]; omega
                    case rel => exact ⟨j, k + 1, _, hj, hk1, rfl, by go_num, by go_num, rfl, hidden ⟨hO2.out, hb4.out⟩⟩
                  · go_upto_if 82 with fail
                    clear hgx
                    go_wp2
                    go_roundg (M + L - (j + 1 + k))
                    case measure => rw [hgk.out]; omega
                    case rel => exact ⟨j + 1, k, _, hj1, hk, rfl, by go_num, rfl, rfl, hidden ⟨hO2.out, hBr.out⟩⟩
                · go_upto_if 82 with fail
                  clear hgx
                  go_wp2
                  go_roundg (M + L - (j + 1 + k))
                  case measure => rw [hgk.out]; omega
                  case rel => exact ⟨j + 1, k, _, hj1, hk, rfl, by go_num, rfl, rfl, hidden ⟨hO2.out, hBr.out⟩⟩
              · have hk1 : k < L := by omega
                by_cases hpar : ((j : Int) + (k : Int)) % 2 = bits .and .i64 tn 1
                · go_upto_if 82 with fail
                  have hkI : (k : Int) < (L : Int) := by omega
                  obtain ⟨y, hy⟩ : ∃ y, x.ex[k]? = some y := ⟨_, List.getElem?_eq_getElem (by rw [hL]; exact hk1)⟩
                  have hyd : x.ex.getD k ([], []) = y := by simp [List.getD, hy]
                  obtain ⟨hy1, hy2⟩ := ho.sizes.2.2.2.2.2 y (List.mem_of_getElem? hy)
                  obtain ⟨a', cap', hva, hcap', hrest⟩ := (hvH.out.below hX.out.bl)
                  obtain ⟨rfl, -, -⟩ := Value.slice.inj hva
                  obtain ⟨bb, off, rfl, hbb, hcells⟩ := hrest (by intro e; rw [e] at hy; simp at hy)
                  obtain ⟨z0, z1⟩ := hcells k y hy
                  have hcat := ex_cat T y
                  rw [show lineW [kwE, y.1, y.2] = lnB kwE y ++ [10] from line3 kwE y] at hcat
                  replace hcat := hidden hcat
                  have sz1 : (mkB y.1).size ≤ 1000 := by rw [mk_size]; exact hy1
                  have sz2 : (mkB y.2).size ≤ 1000 := by rw [mk_size]; exact hy2
                  clear hcells hrest hva
                  generalize hcur : mkB T = cur at *
                  generalize mkB y.1 = s1 at *
                  generalize mkB y.2 = s2 at *
                  replace hcur := hidden hcur
                  go_upto_region 15 with fail
                  go_quiet (fail)
                  have hb4 : Hid (Below wl.heap.size wl (wz.drewN nq)) := hidden (below_drewN hBr.out nq)
                  generalize wz.drewN nq = w5 at hb4 ⊢
                  clear z0 z1
                  rw [hcat.out]
                  have hO2 := hidden (hO.out.ext ho b (by rw [hL]; exact hk1))
                  rw [hT, hyd] at hO2
                  go_wp2_with fail
                  go_roundg (M + L - (j + (k + 1)))
                  case measure => rw [hgk.out]; omega
                  case rel => exact ⟨j, k + 1, _, hj, hk1, rfl, by go_num, by go_num, rfl, hidden ⟨hO2.out, hb4.out⟩⟩
                · go_upto_if 82 with fail
                  have hkI : (k : Int) < (L : Int) := by omega
                  obtain ⟨y, hy⟩ : ∃ y, x.ex[k]? = some y := ⟨_, List.getElem?_eq_getElem (by rw [hL]; exact hk1)⟩
                  have hyd : x.ex.getD k ([], []) = y := by simp [List.getD, hy]
                  obtain ⟨hy1, hy2⟩ := ho.sizes.2.2.2.2.2 y (List.mem_of_getElem? hy)
                  obtain ⟨a', cap', hva, hcap', hrest⟩ := (hvH.out.below hX.out.bl)
                  obtain ⟨rfl, -, -⟩ := Value.slice.inj hva
                  obtain ⟨bb, off, rfl, hbb, hcells⟩ := hrest (by intro e; rw [e] at hy; simp at hy)
                  obtain ⟨z0, z1⟩ := hcells k y hy
                  have hcat := ex_cat T y
                  rw [show lineW [kwE, y.1, y.2] = lnB kwE y ++ [10] from line3 kwE y] at hcat
                  replace hcat := hidden hcat
                  have sz1 : (mkB y.1).size ≤ 1000 := by rw [mk_size]; exact hy1
                  have sz2 : (mkB y.2).size ≤ 1000 := by rw [mk_size]; exact hy2
                  clear hcells hrest hva
                  generalize hcur : mkB T = cur at *
                  generalize mkB y.1 = s1 at *
                  generalize mkB y.2 = s2 at *
                  replace hcur := hidden hcur
                  go_upto_region 15 with fail
                  go_quiet (fail)
                  have hb4 : Hid (Below wl.heap.size wl (wz.drewN nq)) := hidden (below_drewN hBr.out nq)
                  generalize wz.drewN nq = w5 at hb4 ⊢
                  clear z0 z1
                  rw [hcat.out]
                  have hO2 := hidden (hO.out.ext ho b (by rw [hL]; exact hk1))
                  rw [hT, hyd] at hO2
                  go_wp2_with fail
                  go_roundg (M + L - (j + (k + 1)))
                  case measure => rw [hgk.out]; omega
                  case rel => exact ⟨j, k + 1, _, hj, hk1, rfl, by go_num, by go_num, rfl, hidden ⟨hO2.out, hb4.out⟩⟩
          · have hjM : j = M := by omega
            have hkL : k = L := by omega
            have hr := hO.out
            rw [hjM, hkL, ← hM, ← hL] at hr
            obtain ⟨hr1, hr2⟩ := hr.read ho
            have hyl : x.ex.length ≤ 1000000 := by omega
            clear hr
            have kc := hidden (kG.out t x hr2 hr1 wr)
            go_upto_region 18 with fail
            go_wp2_with fail
            refine kc.out.mono ?_
            rintro e w7 ⟨v7, rfl, hO7, hb⟩
            obtain ⟨a7, k7, rfl⟩ := hO7.form
            have hX7 := hidden (hX.out.next hb)
            replace hO7 := hidden hO7
            clear hb kc c0 c1 c2 c3 c4
            dsimp only
            go_upto_region 19 with fail
            obtain ⟨w8, hw8, hb8, hY⟩ : ∃ w8, w7.alloc (.cells #[.string (mkB x.ver), .string (mkB x.kn), .string (mkB x.ks), .slice a7 x.ex.length k7, .string (mkB x.op)] 27) = w8 ∧ Below w7.heap.size w7 w8 ∧ EnAt w8 w7.heap.size x (.slice a7 x.ex.length k7) := ⟨_, rfl, (Below.refl _ _).alloc (Nat.le_refl _) _, ⟨by simp, by simp, by simp, by simp, by simp⟩⟩
            have hX8 := hidden (hX7.out.next hb8)
            have hB8 := hidden ((hO7.out.below hb8).at)
            have kU8 := hidden (kU.out x hyl _ w8 hX8.out hB8.out)
            rw [(sameE_iff x x).2 rfl] at kU8
            have y0 := hY.c0
            have y1 := hY.c1
            have y2 := hY.c2
            have y3 := hY.c3
            have y4 := hY.c4
            obtain ⟨c0, c1, c2, c3, c4⟩ := hcH.out w8 hX8.out
            rw [hL] at hw8 y3 c3 kU8
            rw [hw8]
            clear hw8 hb8 hY hO7 hX7
            go_wp2_with fail
            refine kU8.out.mono ?_
            rintro e w10 ⟨rfl, hb⟩
            have hX10 := hidden (hX8.out.next hb)
            clear hb kU8 y0 y1 y2 y3 y4 c0 c1 c2 c3 c4
            have kA10 := hidden (kA.out w10 hX10.out)
            go_wp2_with fail
            refine kA10.out.mono ?_
            rintro e w11 ⟨rfl, hb⟩
            have hX11 := hidden (hX10.out.next hb)
            clear hb
            go_wp2
            go_ret
            exact ⟨rfl, hX11.out.bl⟩
end Go.Proofs.YtdiplnaphdppbaaGreatDoor
