/- The walk of ConfBounds. -/
import Derived.Test.YtdmlncdoibahiabGreatDoorY2
import Derived.Deep.RegionLaw
namespace Go.Proofs.YtdmlncdoibahiabGreatDoor
open Go.RowKit Go.Extern.Stop Go.Stop Go.Extern
set_option maxRecDepth 100000

/-- An append inside a region that draws. -/
theorem any_append {P : Program} {ops : Array Oper} {o : Oper} {a : Act} {w : World} {K : Act → World → Prop} {Q : Exit → Act → World → Prop} {s x : Operand} {t : TypeId} (hg : Region.wanted o (yielded ops a.tmps) = true)
    (ho : o.op = .call { callee := .builtin .append, args := #[s, x], argTypes := #[t, t] }) (v xv v' : Value) (w' : World) (hs : a.eval s = v) (hx : a.eval x = xv)
    (hr : (Builtin.append_ #[t, t] o.type #[v, xv]).run P w = .ok v' w') (h : K (a.put o.dst v') w') : if Region.wanted o (yielded ops a.tmps) = true then Oper.wp P o a w K Q else K (a.put o.dst undef) w := by
  rw [if_pos hg]
  unfold Oper.wp execOp
  simp only [ho, resolve, invoke, builtin, Sem.run_bind, Sem.run_pure, Result.andThen_ok, List.map_toArray, List.map_cons, List.map_nil, hs, hx, hr]
  exact h
/-- The entry as it is made. -/
structure YSt (w : World) (b : Nat) (x : En) (v : Value) : Prop where
  en : EnAt w b x v
  fz : ∀ j, w.frozen? ⟨b, j, none⟩ = false
  own : BlOwn (b + 1) w v x.ex
theorem YSt.below {w w' : World} {b : Nat} {x : En} {v : Value} (h : YSt w b x v) (hb : Below w.heap.size w w') : YSt w' b x v :=
  ⟨h.en.below hb, fun j => (hb.frozen (p := ⟨b, j, none⟩) h.en.lt).trans (h.fz j), h.own.below hb⟩
theorem below_of_eq {w w' : World} (h : w' = w) : Below w.heap.size w w' := by rw [h]; exact Below.refl _ _
theorem len_b (N : Nat) (h : 37 ≤ N) : (s0 ++ List.replicate (N - 37) 45).length = N := by rw [List.length_append, List.length_replicate, s0_len]; omega
theorem bparse_long (N : Nat) (h : 2000 < N) (w : World) (hg : GT w) :
    Calls Tryz.prog 7 #[.string (mkB s0 ++ mkB (List.replicate (N - 37) 45))] w fun e w' => ∃ b, e = .returned (.tuple #[enV e0 nilE, flt b]) ∧ PErr w' b ⟨#[]⟩ (num 2) ∧ Below w.heap.size w w' := by
  rw [mk_app]
  exact parse_long _ w (by rw [len_b N (by omega)]; exact h) hg
theorem bparse_good (N : Nat) (h0 : 37 ≤ N) (h : N ≤ 2000) (w : World) :
    Calls Tryz.prog 7 #[.string (mkB s0 ++ mkB (List.replicate (N - 37) 45))] w fun e w' => ∃ v, e = .returned (.tuple #[enV bR v, .nilIface]) ∧ BlOwn w.heap.size w' v bR.ex ∧ Below w.heap.size w w' := by
  rw [mk_app]
  exact parse_good _ bR w (by rw [len_b N h0]; exact h) (s0_read _)
theorem rep_snoc (k : Nat) : List.replicate k zB ++ [zB] = List.replicate (k + 1) zB := by rw [← List.replicate_succ']
set_option maxHeartbeats 16000000 in
theorem confBounds_calls (x0 x1 x2 x3 : Int) (w : World) (hg : GT w) (hG : Ground w) :
    Calls Tryz.prog 4 #[.int .i64 x0, .int .i64 x1, .int .i64 x2, .int .i64 x3] w fun e w' => e = .returned (.bool true) ∧ Below w.heap.size w w' := by
  have a0 : 0 ≤ bits .and .i64 x0 15 ∧ bits .and .i64 x0 15 ≤ 15 := and_low x0 15 (by decide)
  have a1 : 0 ≤ bits .and .i64 x1 31 ∧ bits .and .i64 x1 31 ≤ 31 := and_low x1 31 (by decide)
  have a2 : 0 ≤ bits .and .i64 x2 15 ∧ bits .and .i64 x2 15 ≤ 15 := and_low x2 15 (by decide)
  have a3 : 0 ≤ bits .and .i64 x3 511 ∧ bits .and .i64 x3 511 ≤ 511 := and_low x3 511 (by decide)
  obtain ⟨V, hV⟩ : ∃ V : Nat, bits .and .i64 x0 15 + 30 = (V : Int) := ⟨(bits .and .i64 x0 15 + 30).toNat, by omega⟩
  obtain ⟨O, hO⟩ : ∃ V : Nat, bits .and .i64 x1 31 + 180 = (V : Int) := ⟨(bits .and .i64 x1 31 + 180).toNat, by omega⟩
  obtain ⟨X, hX⟩ : ∃ V : Nat, bits .and .i64 x2 15 = (V : Int) := ⟨(bits .and .i64 x2 15).toNat, by omega⟩
  obtain ⟨N, hN⟩ : ∃ V : Nat, bits .and .i64 x3 511 + 1700 = (V : Int) := ⟨(bits .and .i64 x3 511 + 1700).toNat, by omega⟩
  have bV : 30 ≤ V ∧ V ≤ 45 := by omega
  have bO : 180 ≤ O ∧ O ≤ 211 := by omega
  have bX : X ≤ 15 := by omega
  have bN : 1700 ≤ N ∧ N ≤ 2211 := by omega
  have k7 := hidden (fun wx => fill_calls 55 V (by decide) (by omega) wx)
  have kq := hidden (fun wx => fill_calls 113 O (by decide) (by omega) wx)
  have km := hidden (fun wx => fill_calls 45 (N - 37) (by decide) (by omega) wx)
  have hNs : (N : Int) - 37 = ((N - 37 : Nat) : Int) := by omega
  have kz := hidden (fun wx => zero_calls wx)
  have hokE := hidden (bE_ok V O X (by omega) (by omega))
  have u7 : UInt8.ofNat (55 : Int).toNat = 55 := by decide
  have uq : UInt8.ofNat (113 : Int).toNat = 113 := by decide
  have um : UInt8.ofNat (45 : Int).toNat = 45 := by decide
  rw [u7] at k7
  rw [uq] at kq
  rw [um] at km
  clear a0 a1 a2 a3 u7 uq um
  replace hg := hidden hg
  replace hG := hidden hG
  go_enter Tryz.func4, Tryz.ntmps4
  go_upto_region 3 with fail
  go_wp2_with fail
  refine (k7.out w).mono ?_
  rintro e w1 ⟨rfl, hb1⟩
  replace hb1 := hidden hb1
  go_wp2_with fail
  refine (kz.out w1).mono ?_
  rintro e w2 ⟨rfl, hw2⟩
  subst w2
  go_wp2_with fail
  refine (kq.out w1).mono ?_
  rintro e w3 ⟨rfl, hb3⟩
  have hB3 := hidden (hb1.out.trans (hb3.mono hb1.out.size))
  clear hb1 hb3
  go_upto_region 4 with fail
  obtain ⟨w4, hw4, hS4, hB4⟩ : ∃ w4, w3.alloc (.cells #[.string (mkB (List.replicate V 55)), .string ⟨#[107]⟩, .string (mkB zr), .slice none 0 0, .string (mkB (List.replicate O 113))] 29) = w4 ∧ YSt w4 w3.heap.size (bE V O 0) (.slice none 0 0) ∧ Below w.heap.size w w4 :=
    ⟨_, rfl, ⟨⟨by simp; rfl, by simp; rfl, by simp; rfl, by simp, by simp; rfl⟩, frozen_new (one_new _ _), BlOwn.nil _ _⟩, hB3.out.alloc hB3.out.size _⟩
  have hbw : w.heap.size ≤ w3.heap.size := hB3.out.size
  replace hS4 := hidden hS4
  replace hB4 := hidden hB4
  rw [hw4]
  generalize w3.heap.size = b at *
  clear hw4 hB3 k7 kq
  go_wp2_with fail
  go_loopg [11] X (fun gk i wr => ∃ (k : Nat) (v : Value), k ≤ X ∧ gk = X - k ∧ i = .int .i64 (k : Int) ∧ Hid (YSt wr b (bE V O k) v ∧ Below w.heap.size w wr))
  case atStart => exact ⟨0, _, Nat.zero_le _, rfl, rfl, hidden ⟨hS4.out, hB4.out⟩⟩
  case round =>
    obtain ⟨k, v, hk, hg', rfl, hI⟩ := hrel
    replace hg' := hidden hg'
    by_cases hlt : k < X
    · have hltI : (k : Int) < (X : Int) := by omega
      have hSd : YSt wr b (bE V O k) v := hI.out.1
      have hBd : Below w.heap.size w wr := hI.out.2
      have hkl : (bE V O k).ex.length = k := by simp [bE]
      obtain ⟨a, cap, hvv⟩ := hSd.own.form
      rw [hkl] at hvv
      subst hvv
      obtain ⟨wa, hwa⟩ : ∃ wa, (wr.alloc (.cells #[.string ⟨#[120]⟩, .string (mkB zr)] 26)).drew = wa := ⟨_, rfl⟩
      have hbA : Below wr.heap.size wr wa := by rw [← hwa]; exact ((Below.refl _ _).alloc (Nat.le_refl _) _).drew
      have z0 : wa.cell? ⟨wr.heap.size, 0, none⟩ = some (.string (mkB zB.1)) := by rw [← hwa]; simp; rfl
      have z1 : wa.cell? ⟨wr.heap.size, 1, none⟩ = some (.string (mkB zB.2)) := by rw [← hwa]; simp; rfl
      have hSa := hSd.below hbA
      obtain ⟨v2, w2, hrun, hO2, hB2⟩ := hSa.own.push (ST := 27) Tryz.underlying27 (by kernel_rfl) zB ⟨wr.heap.size, 0, none⟩ 1 z0 (by simpa [Addr.add] using z1) (by rw [hkl]; omega) hSa.en.lt 27
      have c3 := hSd.en.c3
      have c3a : (wr.alloc (.cells #[.string ⟨#[120]⟩, .string (mkB zr)] 26)).cell? ⟨b, 3, none⟩ = some (.slice a k cap) := (hSd.below ((Below.refl _ _).alloc (Nat.le_refl _) _)).en.c3
      have hb2 : Below (b + 1) wa w2 := hB2
      have c2 : w2.cell? ⟨b, 3, none⟩ = some (.slice a k cap) := (hb2.cell (p := ⟨b, 3, none⟩) (Nat.lt_succ_self _)).trans hSa.en.c3
      have f2 : w2.frozen? ⟨b, 3, none⟩ = false := (hb2.frozen (p := ⟨b, 3, none⟩) (Nat.lt_succ_self _)).trans (hSa.fz 3)
      obtain ⟨a2, cap2, hv2⟩ := hO2.form
      subst hv2
      have hl2 : ((bE V O k).ex ++ [zB]).length = k + 1 := by simp [bE]
      rw [hl2] at hrun hO2
      have hex : (bE V O k).ex ++ [zB] = (bE V O (k + 1)).ex := rep_snoc k
      have hS5 := hidden (show YSt (w2.setCell ⟨b, 3, none⟩ (.slice a2 (k + 1) cap2)) b (bE V O (k + 1)) (.slice a2 (k + 1) cap2) from
        ⟨⟨(World.cell?_setCell_other _ _ _ _ (by simp)).trans ((hb2.cell (p := ⟨b, 0, none⟩) (Nat.lt_succ_self _)).trans hSa.en.c0), (World.cell?_setCell_other _ _ _ _ (by simp)).trans ((hb2.cell (p := ⟨b, 1, none⟩) (Nat.lt_succ_self _)).trans hSa.en.c1), (World.cell?_setCell_other _ _ _ _ (by simp)).trans ((hb2.cell (p := ⟨b, 2, none⟩) (Nat.lt_succ_self _)).trans hSa.en.c2), World.cell?_setCell_same' _ _ _ (by rw [c2]; rfl), (World.cell?_setCell_other _ _ _ _ (by simp)).trans ((hb2.cell (p := ⟨b, 4, none⟩) (Nat.lt_succ_self _)).trans hSa.en.c4)⟩,
          fun j => by simpa using (hb2.frozen (p := ⟨b, j, none⟩) (Nat.lt_succ_self _)).trans (hSa.fz j), by rw [← hex]; exact hO2.keep ((Apart.refl [b] _).setCell (by simp) _) (by simp)⟩)
      have hB5 := hidden (show Below w.heap.size w (w2.setCell ⟨b, 3, none⟩ (.slice a2 (k + 1) cap2)) from (hBd.trans ((hbA.mono hBd.size).trans (hb2.mono (by omega)))).setCell (p := ⟨b, 3, none⟩) hbw _)
      rw [← hwa] at hrun
      clear hSa hO2 hB2 hb2 z0 z1 hbA hwa hSd hBd hI hex hl2 hkl
      replace hrun := hidden hrun
      go_upto_region 7 with fail
      go_region_law (first
        | (refine any_append (s := .tmp 43) (x := .tmp 46) (t := 27) rfl rfl _ _ _ w2 rfl rfl hrun.out ?_)
        | (go_simp; go_at_call 5; refine (kz.out _).mono ?_; rintro e w' ⟨rfl, rfl⟩; go_wp2))
      all_goals
        go_wp2_with fail
        go_roundg (X - (k + 1))
        case measure => rw [hg'.out]; omega
        case rel => exact ⟨k + 1, _, hlt, rfl, by go_num, hidden ⟨hS5.out, hB5.out⟩⟩
    · obtain rfl : k = X := by omega
      obtain ⟨hS, hB⟩ := hI.out
      obtain ⟨a, cap, hvv⟩ := hS.own.form
      have hkl : (bE V O k).ex.length = k := by simp [bE]
      rw [hkl] at hvv
      subst hvv
      have hat : BlobsAt wr (.slice a k cap) (bE V O k).ex := hS.own.at
      obtain ⟨G, hGd⟩ : ∃ G, (decide (V ≤ 40) && decide (O ≤ 200) && decide (k ≤ 8)) = G := ⟨_, rfl⟩
      have hok : okE (bE V O k) = G := hokE.out.trans hGd
      have kO := hidden (fun wx (hx : Below wr.heap.size wr wx) => ok_entry (bE V O k) (.slice a k cap) wx (hat.below hx) (by rw [hkl]; omega))
      rw [hok] at kO
      have kPg := hidden (fun (h : G = true) => print_good (bE V O k) (.slice a k cap) wr hat (hok.trans h) (by
        have h8 : k ≤ 8 := by
          rw [h] at hGd
          simp at hGd; omega
        refine ⟨by simp [bE]; omega, by simp [bE], by simp [bE]; decide, by simp [bE]; omega, by rw [hkl]; exact h8, fun q hq => ?_⟩
        rw [(List.mem_replicate.1 hq).2]; decide))
      have kPb := hidden (fun (h : G = false) => print_bad (bE V O k) (.slice a k cap) wr hat (by rw [hkl]; omega) (hok.trans h))
      have hcx := hidden (fun wx (hx : Below wr.heap.size wr wx) => (show wx.cell? ⟨b, 0, none⟩ = some (.string (mkB (List.replicate V 55))) ∧ wx.cell? ⟨b, 1, none⟩ = some (.string (mkB [107])) ∧ wx.cell? ⟨b, 2, none⟩ = some (.string (mkB zr)) ∧ wx.cell? ⟨b, 3, none⟩ = some (.slice a k cap) ∧ wx.cell? ⟨b, 4, none⟩ = some (.string (mkB (List.replicate O 113))) from
        let q := hS.en.below hx; ⟨q.c0, q.c1, q.c2, q.c3, q.c4⟩))
      unfold enV bE at kO kPg kPb
      replace hB := hidden hB
      have hGi := hidden (show G = true ↔ V ≤ 40 ∧ O ≤ 200 ∧ k ≤ 8 by rw [← hGd]; simp [and_assoc])
      replace hGd := hidden hGd
      clear hS hI hat hkl hok hokE hS4 hB4
      go_upto_region 8 with fail
      go_cut [12] from 37 (fun p wx => p = .bool G ∧ wx = wr)
      case first =>
        go_wp2_with fail
        all_goals
          go_meet
          case rel =>
            refine ⟨congrArg Value.bool (Bool.eq_iff_iff.2 ?_), rfl⟩
            rw [hGi.out]
            first
              | (simp only [decide_eq_true_eq]; omega)
              | (simp only [Bool.false_eq_true, false_iff]; omega)
              | (simp only [true_iff]; omega)
      case rest =>
        rename World => wz
        obtain ⟨rfl, hwz⟩ := hcut
        subst hwz
        have hG2 : G = true ∨ G = false := by cases G <;> simp
        rcases hG2 with rfl | rfl
        focus
          have kc := hidden (kPg.out rfl)
          clear kPg kPb
          obtain ⟨c0, c1, c2, c3, c4⟩ := hcx.out _ (Below.refl _ _)
          go_wp2_with fail
          refine kc.out.mono ?_
          rintro e w5 ⟨rfl, hb⟩
          have kc := hidden (kO.out w5 hb)
          obtain ⟨c0, c1, c2, c3, c4⟩ := hcx.out w5 hb
          have hB5 := hidden (hB.out.trans (hb.mono hB.out.size))
          clear hb kO hcx hB
          dsimp only
          go_wp2_with fail
          refine kc.out.mono ?_
          rintro e w6 ⟨rfl, hb⟩
          have hB6 := hidden (hB5.out.trans (hb.mono hB5.out.size))
          clear hb kc hB5 c0 c1 c2 c3 c4
          go_upto_region 12 with fail
          generalize (.string (mkB (printL _)) : Value) = PV
        rotate_left
        focus
          have kc := hidden (kPb.out rfl)
          clear kPg kPb
          obtain ⟨c0, c1, c2, c3, c4⟩ := hcx.out _ (Below.refl _ _)
          go_wp2_with fail
          refine kc.out.mono ?_
          rintro e w5 ⟨b', rfl, -, hb⟩
          have kc := hidden (kO.out w5 hb)
          obtain ⟨c0, c1, c2, c3, c4⟩ := hcx.out w5 hb
          have hB5 := hidden (hB.out.trans (hb.mono hB.out.size))
          clear hb kO hcx hB
          dsimp only
          go_wp2_with fail
          refine kc.out.mono ?_
          rintro e w6 ⟨rfl, hb⟩
          have hB6 := hidden (hB5.out.trans (hb.mono hB5.out.size))
          clear hb kc hB5 c0 c1 c2 c3 c4
          go_upto_region 12 with fail
        all_goals
          go_wp2_with fail
          refine (kz.out _).mono ?_
          rintro e w' ⟨rfl, hw'⟩
          subst w'
          go_upto_region 13 with fail
          rw [s0_cat]
          have hS0 : (mkB s0).size = 37 := rfl
          have hSm : (mkB (List.replicate (N - 37) 45)).size ≤ 3000 := by rw [mk_size, List.length_replicate]; omega
          have hc1 : ¬ 9223372036854775807 < (mkB s0).size + (mkB (List.replicate (N - 37) 45)).size := by omega
          have hc2 : ¬ 9223372036854775807 < 37 + (mkB (List.replicate (N - 37) 45)).size := by omega
          go_wp2_with fail
          refine (km.out _).mono ?_
          rintro e w7 ⟨rfl, hb⟩
          have hB7 := hidden (hB6.out.trans (hb.mono hB6.out.size))
          clear hb km hB6
          by_cases hN2 : 2000 < N
          · have hNI : (2000 : Int) < (N : Int) := by omega
            have kP := hidden (fun wx (hx : Below w.heap.size w wx) => bparse_long N hN2 wx (hg.out.below hx))
            go_wp2_with fail
            refine (kP.out w7 hB7.out).mono ?_
            rintro e w8 ⟨b8, rfl, hE, hb⟩
            replace hE := hidden hE
            dsimp only [enV]
            have hB8 := hidden (hB7.out.trans (hb.mono hB7.out.size))
            have hAl := hidden (fun o => (Below.refl w8.heap.size w8).alloc (Nat.le_refl _) o)
            clear hb kP hB7
            go_wp2_with fail
            refine (law_is 2 rfl _ sConf ⟨#[]⟩ [] (flt b8) (hE.out.below (hAl.out _)).chain (hg.out.below (hB8.out.trans ((hAl.out _).mono hB8.out.size)))).mono ?_
            rintro ev wA ⟨rfl, hb⟩
            have hBA := hidden (hB8.out.trans ((hAl.out _).mono hB8.out.size) |>.trans (hb.mono (hB8.out.trans ((hAl.out _).mono hB8.out.size)).size))
            clear hb hAl hB8
            go_wp2_with fail
            refine (awake_calls wA (hg.out.below hBA.out) (hG.out.below hBA.out)).mono ?_
            rintro ev wB ⟨rfl, hb⟩
            have hBB := hidden (hBA.out.trans (hb.mono hBA.out.size))
            clear hb hBA
            go_wp2
            go_ret
            exact ⟨rfl, hBB.out⟩
          · have hNI : ¬ (2000 : Int) < (N : Int) := by omega
            have kP := hidden (fun wx (_ : Below w.heap.size w wx) => bparse_good N (by omega) (by omega) wx)
            go_wp2_with fail
            refine (kP.out w7 hB7.out).mono ?_
            rintro e w8 ⟨v8, rfl, hO, hb⟩
            obtain ⟨a8, c8, rfl⟩ := hO.form
            clear hO
            dsimp only [enV]
            have hB8 := hidden (hB7.out.trans (hb.mono hB7.out.size))
            have hAl := hidden (fun o => (Below.refl w8.heap.size w8).alloc (Nat.le_refl _) o)
            clear hb kP hB7
            go_wp2_with fail
            refine (law_is_nil sConf ⟨#[]⟩ _).mono ?_
            rintro ev wA ⟨rfl, hwA⟩
            have hb := below_of_eq hwA
            clear hwA
            have hBA := hidden (hB8.out.trans ((hAl.out _).mono hB8.out.size) |>.trans (hb.mono (hB8.out.trans ((hAl.out _).mono hB8.out.size)).size))
            clear hb hAl hB8
            go_wp2_with fail
            refine (awake_calls wA (hg.out.below hBA.out) (hG.out.below hBA.out)).mono ?_
            rintro ev wB ⟨rfl, hb⟩
            have hBB := hidden (hBA.out.trans (hb.mono hBA.out.size))
            clear hb hBA
            go_wp2
            go_ret
            exact ⟨rfl, hBB.out⟩
end Go.Proofs.YtdmlncdoibahiabGreatDoor
