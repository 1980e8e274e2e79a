/- DiskFuses answers true, whatever it is given, and changes nothing that was there. -/
import Derived.Test.YtahehgbibmmaeaaDoorFz
namespace Go.Proofs.YtahehgbibmmaeaaDoor
open Go.RowKit Go.Extern.Stop Go.Stop Go.Extern
set_option maxRecDepth 100000

/-- What is left of a Fuse of a behind k Writes. -/
def leftOf (a k : Int) : Int := if a ≤ k then 0 else a - k
theorem leftOf_succ (a k : Int) : burnt (leftOf a k) = leftOf a (k + 1) := by
  unfold burnt leftOf
  by_cases h1 : a ≤ k
  · rw [if_pos h1, if_neg (by omega), if_pos (by omega)]
  · rw [if_neg h1, if_pos (by omega)]
    by_cases h2 : a ≤ k + 1
    · rw [if_pos h2]; omega
    · rw [if_neg h2]; omega
theorem leftOf_range (a k : Int) (ha : a < 1000) (hk : 0 ≤ k) : leftOf a k ≤ 9223372036854775807 ∧ -1 ≤ leftOf a k := by
  unfold leftOf
  split <;> omega

set_option maxHeartbeats 4000000 in
theorem diskFuses_calls (a n b : Int) (w : World) (hG : Ground w) :
    Calls Tryd.prog 5 #[.int .i64 a, .int .i64 n, .int .i64 b] w fun e w' => e = .returned (.bool true) ∧ Below w.heap.size w w' := by
  obtain ⟨A, hA⟩ : ∃ A, bits .and .i64 a 15 = A := ⟨_, rfl⟩
  obtain ⟨N, hN⟩ : ∃ N, bits .and .i64 n 15 = N := ⟨_, rfl⟩
  obtain ⟨B, hB⟩ : ∃ B, bits .and .i64 b 31 = B := ⟨_, rfl⟩
  have hA0 : 0 ≤ A := hA ▸ (and_low a 15 (by decide)).1
  have hA1 : A ≤ 15 := hA ▸ (and_low a 15 (by decide)).2
  have hN0 : 0 ≤ N := hN ▸ (and_low n 15 (by decide)).1
  have hN1 : N ≤ 15 := hN ▸ (and_low n 15 (by decide)).2
  have hB0 : 0 ≤ B := hB ▸ (and_low b 31 (by decide)).1
  have hB1 : B ≤ 31 := hB ▸ (and_low b 31 (by decide)).2
  go_enter Tryd.func5, Tryd.ntmps5
  go_wp2_with fail
  refine (sys_new 20 (by omega) (by omega) w hG).mono ?_
  rintro ev w1 ⟨rfl, hS⟩
  replace hS := hidden hS
  go_wp2_with fail
  refine (sys_fuse hS.out _).mono ?_
  clear hS
  rintro ev w1 ⟨rfl, hS, -⟩
  have hf : fused (-1) (A + 1) = leftOf (A + 1) 0 := by unfold fused leftOf; rw [if_neg (by decide), if_neg (by omega)]; omega
  rw [hf] at hS
  clear hf
  replace hS := hidden hS
  go_wp2_with fail
  go_loopg [9] 16 (fun gk i wr => ∃ k : Int, i = .int .i64 k ∧ 0 ≤ k ∧ k ≤ N ∧ gk = 16 - k.toNat ∧ ∃ mem writes, 0 ≤ writes ∧ writes ≤ k ∧ Sys w (w.heap.size + 1) w.heap.size 20 mem writes (leftOf (A + 1) k) wr)
  case atStart => exact ⟨0, rfl, by omega, by omega, rfl, _, _, by omega, by omega, hS.out⟩
  case round =>
    obtain ⟨k, rfl, hk0, hkN, hgk, mem, writes, hw0, hw1, hS⟩ := hrel
    replace hS := hidden hS
    replace hgk := hidden hgk
    by_cases hlt : k < N
    · go_wp2_with fail
      refine (sys_fill hS.out k).mono ?_
      clear hS
      rintro ev w2 ⟨rfl, hb, hS, -⟩
      replace hS := hidden hS
      replace hb := hidden hb
      go_wp2_with fail
      refine (sys_write_some hS.out 0 (by omega) (by omega) _ _ hb.out (fillL_len k) (leftOf_range _ _ (by omega) hk0) (by omega)).mono ?_
      clear hS hb
      rintro ev w3 ⟨r, mem', writes', rfl, hw2, hw3, hS, -, -⟩
      rw [leftOf_succ] at hS
      replace hS := hidden hS
      go_wp2
      go_roundg (16 - (k + 1).toNat)
      case measure => rw [hgk.out]; omega
      case rel => exact ⟨k + 1, rfl, by omega, by omega, rfl, _, _, by omega, by omega, hS.out⟩
    · obtain rfl : k = N := by omega
      by_cases hd : A + 1 ≤ k
      · have hl : leftOf (A + 1) k = 0 := by unfold leftOf; rw [if_pos hd]
        rw [hl] at hS
        clear hl
        go_wp2_with fail
        refine (sys_fuse hS.out _).mono ?_
        clear hS
        rintro ev w2 ⟨rfl, hS, -⟩
        rw [show fused 0 B = 0 from rfl] at hS
        replace hS := hidden hS
        go_wp2_with fail
        refine (sys_dead hS.out).mono ?_
        rintro ev w2 ⟨rfl, rfl⟩
        go_wp2_with fail
        refine (sys_fuse hS.out _).mono ?_
        clear hS
        rintro ev w2 ⟨rfl, hS, -⟩
        rw [show fused 0 (-1) = 0 from rfl] at hS
        replace hS := hidden hS
        go_wp2_with fail
        refine (sys_dead hS.out).mono ?_
        rintro ev w2 ⟨rfl, rfl⟩
        go_wp2_with fail
        refine (sys_fill hS.out 1).mono ?_
        clear hS
        rintro ev w3 ⟨rfl, hb, hS, -⟩
        replace hS := hidden hS
        replace hb := hidden hb
        go_wp2_with fail
        refine (sys_write_bad hS.out 0 50 (by decide) _ _ hb.out (Or.inr ⟨fillL_len 1, rfl⟩)).mono ?_
        clear hS hb
        rintro ev w3 ⟨b3, rfl, hC, -, hS, -⟩
        have hn := hidden (law_num 50 w3 _ _ hC hS.ground.g)
        clear hC
        replace hS := hidden hS
        go_wp2_with fail
        refine (hn.out).mono ?_
        clear hn
        rintro ev w4 ⟨rfl, hB4⟩
        replace hS := hidden (hS.out.more hB4)
        clear hB4
        go_wp2_with fail
        refine (sys_power hS.out).mono ?_
        clear hS
        rintro ev w4 ⟨rfl, hS, -⟩
        replace hS := hidden hS
        go_wp2_with fail
        go_loopg [11] 40 (fun gk i wr => ∃ j : Int, i = .int .i64 j ∧ 0 ≤ j ∧ j ≤ 40 ∧ gk = 40 - j.toNat ∧ ∃ mem writes, 0 ≤ writes ∧ writes ≤ 100 + j ∧ Sys w (w.heap.size + 1) w.heap.size 20 mem writes (-1) wr)
        case atStart => exact ⟨0, rfl, by omega, by omega, rfl, _, _, by omega, by omega, hS.out⟩
        case round =>
          obtain ⟨j, rfl, hj0, hj1, hgk, mem, writes, hw0, hw1, hS⟩ := hrel
          replace hS := hidden hS
          replace hgk := hidden hgk
          by_cases hlt : j < 40
          · obtain ⟨M, hM, hM2⟩ : ∃ M : Nat, j.tmod 20 = (M : Int) ∧ M < 20 := ⟨_, (Int.toNat_of_nonneg (Int.tmod_nonneg _ hj0)).symm, by have := Int.tmod_lt_of_pos j (b := 20) (by decide); omega⟩
            go_wp2_with fail
            refine (sys_fill hS.out j).mono ?_
            clear hS
            rintro ev w5 ⟨rfl, hb, hS, -⟩
            replace hS := hidden hS
            replace hb := hidden hb
            go_wp2_with fail
            refine (sys_write hS.out M hM2 _ _ hb.out (fillL_len j) (by decide) (by decide) (by omega)).mono ?_
            clear hS hb
            rintro ev w6 ⟨rfl, hS, -⟩
            rw [show burnt (-1) = -1 from rfl] at hS
            replace hS := hidden hS
            go_wp2
            go_roundg (40 - (j + 1).toNat)
            case measure => rw [hgk.out]; omega
            case rel => exact ⟨j + 1, rfl, by omega, by omega, rfl, _, _, by omega, by omega, hS.out⟩
          · go_wp2_with fail
            refine (sys_dead hS.out).mono ?_
            rintro ev w7 ⟨rfl, rfl⟩
            go_wp2_with fail
            refine (awake_calls w7 hS.out.ground).mono ?_
            rintro ev w8 ⟨rfl, hB8⟩
            have hE := hidden (hS.out.below.trans (hB8.mono hS.out.below.size))
            clear hB8
            go_wp2
            go_ret
            exact ⟨rfl, hE.out⟩
      · have hl : leftOf (A + 1) k = A + 1 - k := by unfold leftOf; rw [if_neg hd]
        rw [hl] at hS
        clear hl
        have hlp : A + 1 - k ≠ 0 := by omega
        replace hlp := hidden hlp
        by_cases hB2 : B = 0
        · subst hB2
          go_wp2_with fail
          refine (sys_fuse hS.out _).mono ?_
          clear hS
          rintro ev w2 ⟨rfl, hS, -⟩
          rw [show fused (A + 1 - k) 0 = 0 by unfold fused; rw [if_neg hlp.out]; rfl] at hS
          replace hS := hidden hS
          go_wp2_with fail
          refine (sys_dead hS.out).mono ?_
          rintro ev w2 ⟨rfl, rfl⟩
          go_wp2_with fail
          refine (sys_fuse hS.out _).mono ?_
          clear hS
          rintro ev w2 ⟨rfl, hS, -⟩
          rw [show fused 0 (-1) = 0 from rfl] at hS
          replace hS := hidden hS
          go_wp2_with fail
          refine (sys_dead hS.out).mono ?_
          rintro ev w2 ⟨rfl, rfl⟩
          go_wp2_with fail
          refine (sys_fill hS.out 1).mono ?_
          clear hS
          rintro ev w3 ⟨rfl, hb, hS, -⟩
          replace hS := hidden hS
          replace hb := hidden hb
          go_wp2_with fail
          refine (sys_write_bad hS.out 0 50 (by decide) _ _ hb.out (Or.inr ⟨fillL_len 1, rfl⟩)).mono ?_
          clear hS hb
          rintro ev w3 ⟨b3, rfl, hC, -, hS, -⟩
          have hn := hidden (law_num 50 w3 _ _ hC hS.ground.g)
          clear hC
          replace hS := hidden hS
          go_wp2_with fail
          refine (hn.out).mono ?_
          clear hn
          rintro ev w4 ⟨rfl, hB4⟩
          replace hS := hidden (hS.out.more hB4)
          clear hB4
          go_wp2_with fail
          refine (sys_power hS.out).mono ?_
          clear hS
          rintro ev w4 ⟨rfl, hS, -⟩
          replace hS := hidden hS
          go_wp2_with fail
          go_loopg [11] 40 (fun gk i wr => ∃ j : Int, i = .int .i64 j ∧ 0 ≤ j ∧ j ≤ 40 ∧ gk = 40 - j.toNat ∧ ∃ mem writes, 0 ≤ writes ∧ writes ≤ 100 + j ∧ Sys w (w.heap.size + 1) w.heap.size 20 mem writes (-1) wr)
          case atStart => exact ⟨0, rfl, by omega, by omega, rfl, _, _, by omega, by omega, hS.out⟩
          case round =>
            obtain ⟨j, rfl, hj0, hj1, hgk, mem, writes, hw0, hw1, hS⟩ := hrel
            replace hS := hidden hS
            replace hgk := hidden hgk
            by_cases hlt : j < 40
            · obtain ⟨M, hM, hM2⟩ : ∃ M : Nat, j.tmod 20 = (M : Int) ∧ M < 20 := ⟨_, (Int.toNat_of_nonneg (Int.tmod_nonneg _ hj0)).symm, by have := Int.tmod_lt_of_pos j (b := 20) (by decide); omega⟩
              go_wp2_with fail
              refine (sys_fill hS.out j).mono ?_
              clear hS
              rintro ev w5 ⟨rfl, hb, hS, -⟩
              replace hS := hidden hS
              replace hb := hidden hb
              go_wp2_with fail
              refine (sys_write hS.out M hM2 _ _ hb.out (fillL_len j) (by decide) (by decide) (by omega)).mono ?_
              clear hS hb
              rintro ev w6 ⟨rfl, hS, -⟩
              rw [show burnt (-1) = -1 from rfl] at hS
              replace hS := hidden hS
              go_wp2
              go_roundg (40 - (j + 1).toNat)
              case measure => rw [hgk.out]; omega
              case rel => exact ⟨j + 1, rfl, by omega, by omega, rfl, _, _, by omega, by omega, hS.out⟩
            · go_wp2_with fail
              refine (sys_dead hS.out).mono ?_
              rintro ev w7 ⟨rfl, rfl⟩
              go_wp2_with fail
              refine (awake_calls w7 hS.out.ground).mono ?_
              rintro ev w8 ⟨rfl, hB8⟩
              have hE := hidden (hS.out.below.trans (hB8.mono hS.out.below.size))
              clear hB8
              go_wp2
              go_ret
              exact ⟨rfl, hE.out⟩
        · have hB3 : (B == 0) = false := by simpa using hB2
          go_wp2_with fail
          refine (sys_fuse hS.out _).mono ?_
          clear hS
          rintro ev w2 ⟨rfl, hS, -⟩
          rw [show fused (A + 1 - k) B = B by unfold fused; rw [if_neg hlp.out]; omega] at hS
          replace hS := hidden hS
          go_wp2_with fail
          refine (sys_dead hS.out).mono ?_
          rintro ev w2 ⟨rfl, rfl⟩
          go_wp2_with fail
          refine (sys_fuse hS.out _).mono ?_
          clear hS
          rintro ev w2 ⟨rfl, hS, -⟩
          rw [show fused B (-1) = -1 by unfold fused; rw [if_neg hB2]; rfl] at hS
          replace hS := hidden hS
          go_wp2_with fail
          refine (sys_dead hS.out).mono ?_
          rintro ev w2 ⟨rfl, rfl⟩
          go_wp2_with fail
          refine (sys_fill hS.out 1).mono ?_
          clear hS
          rintro ev w3 ⟨rfl, hb, hS, -⟩
          replace hS := hidden hS
          replace hb := hidden hb
          go_wp2_with fail
          refine (sys_write hS.out 0 (by omega) _ _ hb.out (fillL_len 1) (by decide) (by decide) (by omega)).mono ?_
          clear hS hb
          rintro ev w3 ⟨rfl, hS, -⟩
          rw [show burnt (-1) = -1 from rfl] at hS
          replace hS := hidden hS
          go_wp2_with fail
          refine (law_num_nil w3).mono ?_
          rintro ev w3 ⟨rfl, rfl⟩
          go_wp2_with fail
          refine (sys_dead hS.out).mono ?_
          rintro ev w3 ⟨rfl, rfl⟩
          go_wp2_with fail
          refine (sys_power hS.out).mono ?_
          clear hS
          rintro ev w4 ⟨rfl, hS, -⟩
          replace hS := hidden hS
          go_wp2_with fail
          go_loopg [11] 40 (fun gk i wr => ∃ j : Int, i = .int .i64 j ∧ 0 ≤ j ∧ j ≤ 40 ∧ gk = 40 - j.toNat ∧ ∃ mem writes, 0 ≤ writes ∧ writes ≤ 100 + j ∧ Sys w (w.heap.size + 1) w.heap.size 20 mem writes (-1) wr)
          case atStart => exact ⟨0, rfl, by omega, by omega, rfl, _, _, by omega, by omega, hS.out⟩
          case round =>
            obtain ⟨j, rfl, hj0, hj1, hgk, mem, writes, hw0, hw1, hS⟩ := hrel
            replace hS := hidden hS
            replace hgk := hidden hgk
            by_cases hlt : j < 40
            · obtain ⟨M, hM, hM2⟩ : ∃ M : Nat, j.tmod 20 = (M : Int) ∧ M < 20 := ⟨_, (Int.toNat_of_nonneg (Int.tmod_nonneg _ hj0)).symm, by have := Int.tmod_lt_of_pos j (b := 20) (by decide); omega⟩
              go_wp2_with fail
              refine (sys_fill hS.out j).mono ?_
              clear hS
              rintro ev w5 ⟨rfl, hb, hS, -⟩
              replace hS := hidden hS
              replace hb := hidden hb
              go_wp2_with fail
              refine (sys_write hS.out M hM2 _ _ hb.out (fillL_len j) (by decide) (by decide) (by omega)).mono ?_
              clear hS hb
              rintro ev w6 ⟨rfl, hS, -⟩
              rw [show burnt (-1) = -1 from rfl] at hS
              replace hS := hidden hS
              go_wp2
              go_roundg (40 - (j + 1).toNat)
              case measure => rw [hgk.out]; omega
              case rel => exact ⟨j + 1, rfl, by omega, by omega, rfl, _, _, by omega, by omega, hS.out⟩
            · go_wp2_with fail
              refine (sys_dead hS.out).mono ?_
              rintro ev w7 ⟨rfl, rfl⟩
              go_wp2_with fail
              refine (awake_calls w7 hS.out.ground).mono ?_
              rintro ev w8 ⟨rfl, hB8⟩
              have hE := hidden (hS.out.below.trans (hB8.mono hS.out.below.size))
              clear hB8
              go_wp2
              go_ret
              exact ⟨rfl, hE.out⟩
end Go.Proofs.YtahehgbibmmaeaaDoor
