/- VersionDots answers true, whatever it is given, and changes nothing that was there. -/
import Derived.Test.YtpminhgkacgplaaDoorVS0
import Derived.BigQuiet
namespace Go.Proofs.YtpminhgkacgplaaDoor
open Go Go.RowKit
set_option maxRecDepth 100000

theorem bdN' (w : World) (n : Nat) : Below w.heap.size w (w.drewN n) := ⟨rfl, rfl, rfl, Nat.le_refl _, fun _ _ => rfl⟩
/-- The text behind one number more. -/
theorem dot_more (S : List UInt8) (u : Nat) (hu : u ≤ 4095) : mkB S ++ ⟨#[46]⟩ = mkB (S ++ [46]) ∧ mkB (S ++ [46]) ++ mkB (Lib.decDigits u) = mkB (S ++ ([46] ++ Lib.decDigits u)) ∧ (mkB S).size = S.length ∧ (mkB (S ++ [46])).size = S.length + 1 ∧ (mkB (Lib.decDigits u)).size = (Lib.decDigits u).length ∧ (Lib.decDigits u).length ≤ 20 := by
  refine ⟨mk_app S [46], by rw [mk_app, List.append_assoc], mk_size _, by rw [mk_size]; simp, mk_size _, decDigits_len u (by omega)⟩
set_option maxHeartbeats 16000000 in
theorem versionDots_calls (va vb : Value) (as_ bs : List Int) (w : World) (hva : IntsIn w va as_) (hvb : IntsIn w vb bs) : Calls Tryd.prog 3 #[va, vb] w fun e w' => e = .returned (.bool true) ∧ Below w.heap.size w w' := by
  have kA := hidden (fun w => awake_calls w)
  have kN := hidden (fun u w (h : u ≤ 4095) => num_nat u (by omega) w)
  obtain ⟨aa, ca, rfl, hma, hca⟩ := hva
  obtain ⟨ab, cb, rfl, hmb, hcb⟩ := hvb
  have lA := row_len as_
  have lB := row_len bs
  have gA := hidden (row_get as_)
  have gB := hidden (row_get bs)
  have mA := hidden (fun i => maskN_eq (as_.getD i 0))
  have mB := hidden (fun i => maskN_eq (bs.getD i 0))
  have dA := hidden (dot_len (rowN as_) (row_all as_))
  have dB := hidden (dot_len (rowN bs) (row_all bs))
  have dT := hidden (fun k => dot_len ((rowN as_).take k) (fun u hu => row_all as_ u (List.mem_of_mem_take hu)))
  have dU := hidden (fun k => dot_len ((rowN bs).take k) (fun u hu => row_all bs u (List.mem_of_mem_take hu)))
  have k1 := hidden (fun w => compare_calls (dotS (rowN as_)) (dotS (rowN bs)) w (by have := dA.out; omega) (by have := dB.out; omega))
  have k2 := hidden (fun w => compare_calls (dotS (rowN bs)) (dotS (rowN as_)) w (by have := dB.out; omega) (by have := dA.out; omega))
  rw [cmpV_anti (dotS (rowN as_)) (dotS (rowN bs)), dot_cmp] at k2
  rw [dot_cmp] at k1
  have hr := hidden (lex_rng (rowN as_) (rowN bs))
  generalize hU : rowN as_ = U at *
  generalize hV : rowN bs = V at *
  obtain ⟨z, hz⟩ : ∃ z, lexN U V = z := ⟨_, rfl⟩
  rw [hz] at k1 k2 hr
  replace hz := hidden hz
  obtain ⟨la, hla⟩ : ∃ n, as_.length = n := ⟨_, rfl⟩
  obtain ⟨lb, hlb⟩ : ∃ n, bs.length = n := ⟨_, rfl⟩
  rw [hla] at hma lA
  rw [hlb] at hmb lB
  rw [hla, hlb]
  obtain ⟨n, hn⟩ : ∃ n, U.length = n := ⟨_, rfl⟩
  obtain ⟨m, hm⟩ : ∃ n, V.length = n := ⟨_, rfl⟩
  rw [hn] at lA
  rw [hm] at lB
  have n1 : min (la : Int) 10 = (n : Int) := by omega
  have m1 : min (lb : Int) 10 = (m : Int) := by omega
  have n2 : min 10 (la : Int) = (n : Int) := by omega
  have m2 : min 10 (lb : Int) = (m : Int) := by omega
  have hn10 : n ≤ 10 ∧ n ≤ la := by omega
  have hm10 : m ≤ 10 ∧ m ≤ lb := by omega
  have hcA := hidden (fun (i : Nat) (h : i < n) => (show ∃ b off, aa = some ⟨b, off, none⟩ ∧ b < w.heap.size ∧ w.cell? ⟨b, off + i, none⟩ = some (.int .i64 (as_.getD i 0)) by
    obtain ⟨b, off, h1, h2, h3⟩ := hca (by rintro rfl; simp at hla; omega)
    exact ⟨b, off, h1, h2, h3 i (by omega)⟩))
  have hcB := hidden (fun (i : Nat) (h : i < m) => (show ∃ b off, ab = some ⟨b, off, none⟩ ∧ b < w.heap.size ∧ w.cell? ⟨b, off + i, none⟩ = some (.int .i64 (bs.getD i 0)) by
    obtain ⟨b, off, h1, h2, h3⟩ := hcb (by rintro rfl; simp at hlb; omega)
    exact ⟨b, off, h1, h2, h3 i (by omega)⟩))
  replace hla := hidden hla
  replace hlb := hidden hlb
  replace hn := hidden hn
  replace hm := hidden hm
  replace hU := hidden hU
  replace hV := hidden hV
  clear hca hcb lA lB
  go_enter Tryd.func3, Tryd.ntmps3
  go_wp2_with fail
  go_loopg [5, 9] n (fun g sv si wr => ∃ i : Nat, i ≤ n ∧ g = n - i ∧ si = .int .i64 (i : Int) ∧ sv = .string (mkB (dotS (U.take i))) ∧ wr = w)
  case atStart => exact ⟨0, Nat.zero_le _, rfl, rfl, rfl, rfl⟩
  case round =>
    obtain ⟨i, hi, hg, rfl, rfl, hw⟩ := hrel
    replace hw := hw.symm
    subst hw
    replace hg := hidden hg
    by_cases hlt : i < n
    · have hlt' : (i : Int) < (n : Int) := by omega
      obtain ⟨b, off, rfl, hb, hcell⟩ := hcA.out i hlt
      obtain ⟨e1, e2⟩ := mA.out i
      have hgu := hidden (gA.out i (by rw [hn.out]; exact hlt))
      have hla' : (i : Int) < (la : Int) := by omega
      have kD := hidden (kN.out (maskN (as_.getD i 0)) w e2)
      obtain ⟨d1, d2, d3, d4, d5, d6⟩ := dot_more (dotS (U.take i)) (maskN (as_.getD i 0)) e2
      have hap := hidden (dot_app (U.take i) (maskN (as_.getD i 0)))
      have hsl := dT.out i
      have htl : (U.take i).length ≤ i := by rw [List.length_take]; omega
      have hSl : (dotS (U.take i)).length ≤ 210 := by omega
      generalize as_.getD i 0 = zi at *
      generalize maskN zi = u at *
      generalize dotS (U.take i) = S at *
      generalize S ++ [46] = S1 at *
      generalize S ++ ([46] ++ Lib.decDigits u) = S2 at *
      generalize Lib.decDigits u = du at *
      clear hsl htl hr
      go_wp2_with fail
      refine kD.out.mono ?_
      rintro e w1 ⟨rfl, hw1⟩
      subst w1
      go_wp2
      go_roundg (n - (i + 1))
      case measure => rw [hg.out]; omega
      case rel => exact ⟨i + 1, hlt, rfl, by go_num, by rw [take_succ_get _ _ _ hgu.out, hap.out], rfl⟩
    · obtain rfl : n = i := by omega
      rw [show U.take n = U from List.take_of_length_le (by rw [hn.out]; exact Nat.le_refl _)]
      go_wp2_with fail
      go_loopg [6, 10] m (fun g sv si wr => ∃ i : Nat, i ≤ m ∧ g = m - i ∧ si = .int .i64 (i : Int) ∧ sv = .string (mkB (dotS (V.take i))) ∧ wr = w)
      case atStart => exact ⟨0, Nat.zero_le _, rfl, rfl, rfl, rfl⟩
      case round =>
        obtain ⟨i, hi, hg, rfl, rfl, hw⟩ := hrel
        replace hw := hw.symm
        subst hw
        replace hg := hidden hg
        by_cases hlt : i < m
        · have hlt' : (i : Int) < (m : Int) := by omega
          obtain ⟨b, off, rfl, hb, hcell⟩ := hcB.out i hlt
          obtain ⟨e1, e2⟩ := mB.out i
          have hgu := hidden (gB.out i (by rw [hm.out]; exact hlt))
          have hla' : (i : Int) < (lb : Int) := by omega
          have kD := hidden (kN.out (maskN (bs.getD i 0)) w e2)
          obtain ⟨d1, d2, d3, d4, d5, d6⟩ := dot_more (dotS (V.take i)) (maskN (bs.getD i 0)) e2
          have hap := hidden (dot_app (V.take i) (maskN (bs.getD i 0)))
          have hsl := dU.out i
          have htl : (V.take i).length ≤ i := by rw [List.length_take]; omega
          have hSl : (dotS (V.take i)).length ≤ 210 := by omega
          generalize bs.getD i 0 = zi at *
          generalize maskN zi = u at *
          generalize dotS (V.take i) = S at *
          generalize S ++ [46] = S1 at *
          generalize S ++ ([46] ++ Lib.decDigits u) = S2 at *
          generalize Lib.decDigits u = du at *
          clear hsl htl hr
          go_wp2_with fail
          refine kD.out.mono ?_
          rintro e w1 ⟨rfl, hw1⟩
          subst w1
          go_wp2
          go_roundg (m - (i + 1))
          case measure => rw [hg.out]; omega
          case rel => exact ⟨i + 1, hlt, rfl, by go_num, by rw [take_succ_get _ _ _ hgu.out, hap.out], rfl⟩
        · obtain rfl : m = i := by omega
          rw [show V.take m = V from List.take_of_length_le (by rw [hm.out]; exact Nat.le_refl _)]
          go_wp2_with fail
          go_loopg [11, 12] n (fun g sw si wr => ∃ (i : Nat) (W : Int), sw = .int .i64 W ∧ si = .int .i64 (i : Int) ∧ g = n - i ∧ i ≤ n ∧ Hid (Below w.heap.size w wr) ∧ Hid ((W = 0 ∧ i ≤ m ∧ lexN (U.drop i) (V.drop i) = z) ∨ (¬ W = 0 ∧ W = z)))
          case atStart => exact ⟨0, 0, rfl, rfl, rfl, Nat.zero_le _, hidden (Below.refl _ _), hidden (Or.inl ⟨rfl, Nat.zero_le _, hz.out⟩)⟩
          case round =>
            obtain ⟨i, W, rfl, rfl, hg, hi, hB, hI⟩ := hrel
            replace hg := hidden hg
            have hr0 := hr.out
            have hz1 : -1 ≤ z := by omega
            have hz2 : z ≤ 1 := by omega
            clear hr0
            rcases hI.out with ⟨rfl, him, hzl⟩ | ⟨hW, rfl⟩
            · replace hzl := hidden hzl
              clear hI
              by_cases hb : i < n ∧ i < m
              · obtain ⟨hin, hjm⟩ := hb
                have hin' : (i : Int) < (n : Int) := by omega
                have hjm' : (i : Int) < (m : Int) := by omega
                have hia' : (i : Int) < (la : Int) := by omega
                have hib' : (i : Int) < (lb : Int) := by omega
                obtain ⟨b1, o1, rfl, hb1, hc1⟩ := hcA.out i hin
                obtain ⟨b2, o2, rfl, hb2, hc2⟩ := hcB.out i hjm
                have q1 := (hB.out.cell (p := ⟨b1, o1 + i, none⟩) hb1).trans hc1
                have q2 := (hB.out.cell (p := ⟨b2, o2 + i, none⟩) hb2).trans hc2
                obtain ⟨e1, e2⟩ := mA.out i
                obtain ⟨f1, f2⟩ := mB.out i
                have hst := lex_step U V i _ _ (gA.out i (by rw [hn.out]; exact hin)) (gB.out i (by rw [hm.out]; exact hjm))
                rw [hzl.out] at hst
                replace hst := hidden hst
                generalize as_.getD i 0 = zi at *
                generalize maskN zi = u at *
                generalize bs.getD i 0 = zj at *
                generalize maskN zj = v at *
                clear hc1 hc2
                go_upto_region 15 with fail
                go_quiet (fail)
                have hb5 : Below wr.heap.size wr (wr.drewN nq) := bdN' wr nq
                have hB7 := hidden (hB.out.trans (hb5.mono hB.out.size))
                generalize wr.drewN nq = w7 at hB7 ⊢
                clear q1 q2 hb5
                by_cases h1 : (u : Int) < (v : Int)
                · have hq : Lib.compareInt (u : Int) (v : Int) = -1 := cI_lt.2 h1
                  have hzz := hidden (show (-1 : Int) = z by rw [hst.out, hq]; rfl)
                  go_wp2
                  go_roundg (n - (i + 1))
                  case measure => rw [hg.out]; omega
                  case rel => exact ⟨i + 1, _, rfl, by go_num, by omega, by omega, hidden hB7.out, hidden (Or.inr ⟨by decide, hzz.out⟩)⟩
                · by_cases h2 : (v : Int) < (u : Int)
                  · have hq : Lib.compareInt (u : Int) (v : Int) = 1 := cI_gt.2 h2
                    have hzz := hidden (show (1 : Int) = z by rw [hst.out, hq]; rfl)
                    go_wp2
                    go_roundg (n - (i + 1))
                    case measure => rw [hg.out]; omega
                    case rel => exact ⟨i + 1, _, rfl, by go_num, by omega, by omega, hidden hB7.out, hidden (Or.inr ⟨by decide, hzz.out⟩)⟩
                  · have hq : Lib.compareInt (u : Int) (v : Int) = 0 := cI_eq.2 (by omega)
                    have hzz := hidden (show lexN (U.drop (i + 1)) (V.drop (i + 1)) = z by rw [hst.out, hq]; rfl)
                    go_wp2
                    go_roundg (n - (i + 1))
                    case measure => rw [hg.out]; omega
                    case rel => exact ⟨i + 1, _, rfl, by go_num, by omega, by omega, hidden hB7.out, hidden (Or.inl ⟨rfl, by omega, hzz.out⟩)⟩
              · have hle := lex_end U V i (by rw [hn.out, hm.out]; omega)
                rw [hzl.out, hn.out, hm.out] at hle
                have hb' : ¬ ((i : Int) < (n : Int) ∧ (i : Int) < (m : Int)) := by omega
                by_cases h1 : (n : Int) < (m : Int)
                · rw [if_neg (by omega), if_pos (by omega)] at hle
                  subst hle
                  obtain rfl : n = i := by omega
                  clear hb'
                  go_upto_region 24 with fail
                  go_wp2_with fail
                  refine (k1.out _).mono ?_
                  rintro e w3 ⟨rfl, hb3⟩
                  replace hb3 := hidden (hB.out.trans (hb3.mono hB.out.size))
                  go_wp2_with fail
                  refine (k2.out _).mono ?_
                  rintro e w4 ⟨rfl, hb4⟩
                  replace hb4 := hidden (hb3.out.trans (hb4.mono hb3.out.size))
                  go_wp2_with fail
                  refine (kA.out _).mono ?_
                  rintro e w5 ⟨rfl, hb5⟩
                  replace hb5 := hidden (hb4.out.trans (hb5.mono hb4.out.size))
                  go_wp2
                  go_ret
                  exact ⟨rfl, hb5.out⟩
                · by_cases h2 : (m : Int) < (n : Int)
                  · rw [if_neg (by omega), if_neg (by omega)] at hle
                    subst hle
                    obtain rfl : m = i := by omega
                    clear hb'
                    go_upto_region 24 with fail
                    go_wp2_with fail
                    refine (k1.out _).mono ?_
                    rintro e w3 ⟨rfl, hb3⟩
                    replace hb3 := hidden (hB.out.trans (hb3.mono hB.out.size))
                    go_wp2_with fail
                    refine (k2.out _).mono ?_
                    rintro e w4 ⟨rfl, hb4⟩
                    replace hb4 := hidden (hb3.out.trans (hb4.mono hb3.out.size))
                    go_wp2_with fail
                    refine (kA.out _).mono ?_
                    rintro e w5 ⟨rfl, hb5⟩
                    replace hb5 := hidden (hb4.out.trans (hb5.mono hb4.out.size))
                    go_wp2
                    go_ret
                    exact ⟨rfl, hb5.out⟩
                  · obtain rfl : n = m := by omega
                    rw [if_pos (by omega)] at hle
                    subst hle
                    obtain rfl : n = i := by omega
                    clear hb'
                    go_upto_region 24 with fail
                    go_wp2_with fail
                    refine (k1.out _).mono ?_
                    rintro e w3 ⟨rfl, hb3⟩
                    replace hb3 := hidden (hB.out.trans (hb3.mono hB.out.size))
                    go_wp2_with fail
                    refine (k2.out _).mono ?_
                    rintro e w4 ⟨rfl, hb4⟩
                    replace hb4 := hidden (hb3.out.trans (hb4.mono hb3.out.size))
                    go_wp2_with fail
                    refine (kA.out _).mono ?_
                    rintro e w5 ⟨rfl, hb5⟩
                    replace hb5 := hidden (hb4.out.trans (hb5.mono hb4.out.size))
                    go_wp2
                    go_ret
                    exact ⟨rfl, hb5.out⟩
            · clear hI
              by_cases hp1 : (i : Int) < (n : Int) <;> by_cases hp2 : (i : Int) < (m : Int)
              all_goals
                go_upto_region 24 with fail
                go_wp2_with fail
                refine (k1.out _).mono ?_
                rintro e w3 ⟨rfl, hb3⟩
                replace hb3 := hidden (hB.out.trans (hb3.mono hB.out.size))
                go_wp2_with fail
                refine (k2.out _).mono ?_
                rintro e w4 ⟨rfl, hb4⟩
                replace hb4 := hidden (hb3.out.trans (hb4.mono hb3.out.size))
                go_wp2_with fail
                refine (kA.out _).mono ?_
                rintro e w5 ⟨rfl, hb5⟩
                replace hb5 := hidden (hb4.out.trans (hb5.mono hb4.out.size))
                go_wp2
                go_ret
                exact ⟨rfl, hb5.out⟩
end Go.Proofs.YtpminhgkacgplaaDoor
