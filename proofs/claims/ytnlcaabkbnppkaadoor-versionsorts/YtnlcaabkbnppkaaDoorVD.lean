/- The document's own Compare: its loop. -/
import Derived.Test.YtnlcaabkbnppkaaDoorVC
namespace Go.Proofs.YtnlcaabkbnppkaaDoor
open Go Go.RowKit
set_option maxRecDepth 100000

set_option maxHeartbeats 16000000 in
theorem rcompare_calls (x y : List UInt8) (w : World) (hx : x.length ≤ 900) (hy : y.length ≤ 900) : Calls Tryd.prog 13 #[.string (mkB x), .string (mkB y)] w fun e w' => e = .returned (.int .i64 (cmpV x y)) ∧ Below w.heap.size w w' := by
  have kX := hidden (fun w => rtokens_calls x w hx)
  have kY := hidden (fun w => rtokens_calls y w hy)
  have hkx := hidden (toks_kind x)
  have hky := hidden (toks_kind y)
  have hlx := hidden (Nat.le_trans (toks_len x.length x (Nat.le_refl _)) hx)
  have hly := hidden (Nat.le_trans (toks_len y.length y (Nat.le_refl _)) hy)
  obtain ⟨z, hz⟩ : ∃ z, cmpV x y = z := ⟨_, rfl⟩
  rw [hz]
  replace hz := hidden (show cmpL ((toksB x).drop 0) ((toksB y).drop 0) = z from hz)
  generalize toksB x = X at *
  generalize toksB y = Y at *
  go_enter Tryd.func13, Tryd.ntmps13
  go_wp2_with fail
  refine (kX.out _).mono ?_
  rintro e w1 ⟨⟨v1, rfl, hO1⟩, hb1⟩
  replace hO1 := hidden hO1
  replace hb1 := hidden hb1
  go_wp2_with fail
  refine (kY.out _).mono ?_
  rintro e w2 ⟨⟨v2, rfl, hO2⟩, hb2⟩
  have hT1 := hidden ((hO1.out.below hb2).at)
  have hT2 := hidden hO2.at
  have hB2 := hidden (hb1.out.trans (hb2.mono hb1.out.size))
  clear kX kY hO1 hb1 hO2 hb2
  obtain ⟨a1, c1, hv1⟩ := hT1.out.form
  obtain ⟨a2, c2, hv2⟩ := hT2.out.form
  generalize hlX : X.length = lX at *
  generalize hlY : Y.length = lY at *
  subst hv1
  subst hv2
  replace hlX := hidden hlX
  replace hlY := hidden hlY
  go_wp2_with fail
  go_loopg [7] (lX + lY) (fun g si wr => ∃ i : Nat, si = .int .i64 (i : Int) ∧ g = (lX - i) + (lY - i) ∧ i ≤ lX + lY ∧ Hid (cmpL (X.drop i) (Y.drop i) = z ∧ Below w2.heap.size w2 wr))
  case atStart => exact ⟨0, rfl, rfl, Nat.zero_le _, hidden ⟨hz.out, Below.refl _ _⟩⟩
  case round =>
    clear hz
    obtain ⟨i, rfl, hg, hi, hI⟩ := hrel
    have hz := hidden hI.out.1
    have hbr := hidden hI.out.2
    replace hg := hidden hg
    clear hI
    have hi2 : i ≤ 1800 := by have := hlx.out; have := hly.out; omega
    by_cases hor : i < lX ∨ i < lY
    · have hst := at_step X Y hkx.out hky.out i (by rw [hlX.out, hlY.out]; exact hor)
      have kP := hidden (fun (wx : World) (hx : Below w2.heap.size w2 wx) => at_calls _ X i wx (hT1.out.below hx))
      have kQ := hidden (fun (wx : World) (hx : Below w2.heap.size w2 wx) => at_calls _ Y i wx (hT2.out.below hx))
      obtain ⟨⟨k, s⟩, hp⟩ : ∃ p, X.getD i endT = p := ⟨_, rfl⟩
      obtain ⟨⟨l, t⟩, hq⟩ : ∃ q, Y.getD i endT = q := ⟨_, rfl⟩
      rw [hp] at kP hst
      rw [hq] at kQ hst
      unfold tokV at kP kQ
      dsimp only at kP kQ
      have kO := hidden (fun (a b : Int) (w : World) => order_calls a b w)
      have kT := hidden (fun (w : World) => texts_calls s t w)
      have hzs := mk_size s
      have hzt := mk_size t
      have hsl := hst
      rw [hz.out] at hsl
      replace hsl := hidden hsl
      clear hp hq hst
      have hcond : ((decide ((i : Int) < (lX : Int))) || (decide ((i : Int) < (lY : Int)))) = true := by
        rcases hor with h | h
        · have : (i : Int) < (lX : Int) := by omega
          simp [this]
        · have : (i : Int) < (lY : Int) := by omega
          simp [this]
      have hgl := hidden (show (lX - (i + 1)) + (lY - (i + 1)) < (lX - i) + (lY - i) by omega)
      -- the test
      have hB0 := hidden (show Below w2.heap.size w2 wr from hbr.out)
      by_cases hl : (i : Int) < (lX : Int)
      all_goals
        try have hl2 : (i : Int) < (lY : Int) := by omega
        clear hor hcond
        go_wp2_with fail
        refine (kP.out _ hbr.out).mono ?_
        rintro e w3 ⟨rfl, hb3⟩
        replace hb3 := hidden (hbr.out.trans (hb3.mono hbr.out.size))
        go_wp2_with fail
        refine (kQ.out _ hb3.out).mono ?_
        rintro e w4 ⟨rfl, hb4⟩
        replace hb4 := hidden (hb3.out.trans (hb4.mono hb3.out.size))
        have hB5 := hidden (fun (o o' : Obj) => (show Below w2.heap.size w2 ((w4.alloc o).alloc o') from (hb4.out.trans ((((Below.refl w4.heap.size w4).alloc (Nat.le_refl _) _).alloc (by simp) _).mono hb4.out.size))))
        have hB6 := hidden (fun (o o' : Obj) => hB2.out.trans ((hB5.out o o').mono hB2.out.size))
        clear kP kQ hb3 hb4 hB0 hT1 hT2
        by_cases hkl : (k : Int) = (l : Int)
        · obtain rfl : k = l := by omega
          have hq : Lib.compareInt (k : Int) (k : Int) = 0 := cI_eq.2 rfl
          have hq3 : Lib.compareInt 3 3 = 0 := cI_eq.2 rfl
          clear hkl
          by_cases hk3 : (k : Int) = 3
          · by_cases hst : (s.length : Int) = (t.length : Int)
            · have hq2 : Lib.compareInt (s.length : Int) (t.length : Int) = 0 := cI_eq.2 hst
              have hh := hidden (show holdB (k, s) (k, t) = Lib.compareBytes s t by rw [holdB, if_neg (by show ¬ k ≠ k; omega), if_neg (by show ¬ (k = 3 ∧ s.length ≠ t.length); omega)])
              go_wp2_with fail
              refine (kO.out _ _ _).mono ?_
              rintro e w5 ⟨rfl, rfl⟩
              first | rw [hq3] | rw [hq]
              go_wp2_with fail
              refine (kO.out _ _ _).mono ?_
              rintro e w6 ⟨rfl, rfl⟩
              first | rw [hq2] | rw [cI_eq.2 rfl]
              go_wp2_with fail
              refine (kT.out _).mono ?_
              rintro e w6 ⟨rfl, rfl⟩
              obtain ⟨r, hr⟩ : ∃ r, Lib.compareBytes s t = r := ⟨_, rfl⟩
              rw [hr] at hh ⊢
              by_cases hr0 : r = 0
              · have hzz := hidden (show cmpL (X.drop (i + 1)) (Y.drop (i + 1)) = z by rw [hsl.out, hh.out, if_pos hr0])
                clear hh hr
                subst hr0
                go_wp2
                go_roundg ((lX - (i + 1)) + (lY - (i + 1)))
                case measure => rw [hg.out]; exact hgl.out
                case rel => exact ⟨i + 1, by go_num, rfl, by omega, hidden ⟨hzz.out, hB5.out _ _⟩⟩
              · have hzz := hidden (show z = r by rw [hsl.out, hh.out, if_neg hr0])
                go_wp2
                go_ret
                exact ⟨by rw [hzz.out]; rfl, hB6.out _ _⟩
            · obtain ⟨q, hq2⟩ : ∃ q, Lib.compareInt (s.length : Int) (t.length : Int) = q := ⟨_, rfl⟩
              have hq0 : ¬ q = 0 := fun e => hst (cI_eq.1 (hq2.trans e))
              have hzz := hidden (show z = q by rw [hsl.out, show holdB (k, s) (k, t) = q by rw [← hq2, holdB, if_neg (by show ¬ k ≠ k; omega), if_pos (by show k = 3 ∧ s.length ≠ t.length; omega)], if_neg hq0])
              go_wp2_with fail
              refine (kO.out _ _ _).mono ?_
              rintro e w5 ⟨rfl, rfl⟩
              first | rw [hq3] | rw [hq]
              go_wp2_with fail
              refine (kO.out _ _ _).mono ?_
              rintro e w6 ⟨rfl, rfl⟩
              rw [hq2]
              go_wp2
              go_ret
              exact ⟨by rw [hzz.out]; rfl, hB6.out _ _⟩
          · have hh := hidden (show holdB (k, s) (k, t) = Lib.compareBytes s t by rw [holdB, if_neg (by show ¬ k ≠ k; omega), if_neg (by show ¬ (k = 3 ∧ s.length ≠ t.length); omega)])
            go_wp2_with fail
            refine (kO.out _ _ _).mono ?_
            rintro e w5 ⟨rfl, rfl⟩
            first | rw [hq3] | rw [hq]
            go_wp2_with fail
            refine (kT.out _).mono ?_
            rintro e w6 ⟨rfl, rfl⟩
            obtain ⟨r, hr⟩ : ∃ r, Lib.compareBytes s t = r := ⟨_, rfl⟩
            rw [hr] at hh ⊢
            by_cases hr0 : r = 0
            · have hzz := hidden (show cmpL (X.drop (i + 1)) (Y.drop (i + 1)) = z by rw [hsl.out, hh.out, if_pos hr0])
              clear hh hr
              subst hr0
              go_wp2
              go_roundg ((lX - (i + 1)) + (lY - (i + 1)))
              case measure => rw [hg.out]; exact hgl.out
              case rel => exact ⟨i + 1, by go_num, rfl, by omega, hidden ⟨hzz.out, hB5.out _ _⟩⟩
            · have hzz := hidden (show z = r by rw [hsl.out, hh.out, if_neg hr0])
              go_wp2
              go_ret
              exact ⟨by rw [hzz.out]; rfl, hB6.out _ _⟩
        · obtain ⟨q, hq⟩ : ∃ q, Lib.compareInt (k : Int) (l : Int) = q := ⟨_, rfl⟩
          have hq0 : ¬ q = 0 := fun e => hkl (cI_eq.1 (hq.trans e))
          have hzz := hidden (show z = q by rw [hsl.out, show holdB (k, s) (l, t) = q by rw [← hq, holdB, if_pos (by show k ≠ l; omega)], if_neg hq0])
          go_wp2_with fail
          refine (kO.out _ _ _).mono ?_
          rintro e w5 ⟨rfl, rfl⟩
          rw [hq]
          go_wp2
          go_ret
          exact ⟨by rw [hzz.out]; rfl, hB6.out _ _⟩
    · have h1 : ¬ (i : Int) < (lX : Int) := by omega
      have h2 : ¬ (i : Int) < (lY : Int) := by omega
      have hzz := hidden (show z = 0 by
        have h := hz.out
        rw [List.drop_eq_nil_of_le (by rw [hlX.out]; omega), List.drop_eq_nil_of_le (by rw [hlY.out]; omega)] at h
        exact h.symm)
      have hB6 := hidden (hB2.out.trans (hbr.out.mono hB2.out.size))
      go_wp2
      go_ret
      exact ⟨by rw [hzz.out]; rfl, hB6.out⟩
end Go.Proofs.YtnlcaabkbnppkaaDoor
