/- BudgetRises and BudgetLayouts answer true, whatever they are given; the memory stays as it was. -/
import Derived.Test.YtaakidgnijdgpaaBx
namespace Go.Proofs.Ytaakidgnijdgpaa
open Go.RowKit
set_option maxRecDepth 100000

theorem blk_data (b : Int) (h0 : 0 ≤ b) (h1 : b ≤ 4000) : (8 < blk b ∧ b ≤ 128 * (blk b - 1) ∧ 128 * (blk b - 1 - 1) < max b 1) ∨ (¬ 8 < blk b ∧ b ≤ 128 * blk b ∧ 128 * (blk b - 1) < max b 1) := by
  unfold blk
  split <;> (try split) <;> (try split) <;> omega
theorem blk_rises (a b : Int) (h0 : 0 ≤ a) (h1 : a ≤ b) (h2 : b ≤ 4000) : blk a ≤ blk b := by
  unfold blk
  split <;> (try split) <;> (try split) <;> (try split) <;> (try split) <;> (try split) <;> omega
set_option maxHeartbeats 4000000 in
theorem rises_up (xa xb fa fb A B : Int) (hfa : bits .and .i64 xa 65535 = fa) (_hfa0 : 0 ≤ fa ∧ fa ≤ 65535) (hfb : bits .and .i64 xb 65535 = fb) (_hfb0 : 0 ≤ fb ∧ fb ≤ 65535) (ha : fa.tmod 4001 = A) (hb : fb.tmod 4001 = B) (hA : 0 ≤ A ∧ A ≤ 4000) (hB : 0 ≤ B ∧ B ≤ 4000) (hle : A ≤ B) (w : World) :
    Calls Try.prog 6 #[.int .i64 xa, .int .i64 xb] w fun e w' => e = .returned (.bool true) ∧ w' = w := by
  have hle' : A ≤ B := by omega
  have hd := blk_data B hB.1 hB.2
  have hm := blk_rises A B hA.1 hle' hB.2
  have hz : Hid (B < 1 → blk B = 0) := hidden (fun h => by unfold blk; rw [if_pos (by omega)])
  have hz2 : Hid (A < 1 → blk A = 0) := hidden (fun h => by unfold blk; rw [if_pos (by omega)])
  have hx := blk_range A
  have hy := blk_range B
  have g1 : growb A B = blk B - blk A := by unfold growb; omega
  have g2 : growb B A = 0 := by unfold growb; omega
  have c1 := hidden (blocks_calls A)
  have c2 := hidden (blocks_calls B)
  have c3 := hidden (grow_calls A B)
  have c4 := hidden (grow_calls B A)
  rw [g1] at c3
  rw [g2] at c4
  clear g1 g2
  generalize blk A = x at hm hx c1 c3 hz2
  generalize blk B = y at hm hy c2 c3 hd hz
  by_cases hB1 : B ≥ 1
  · have hmx : max B 1 = B := by omega
    rw [hmx] at hd
    rcases hd with ⟨d1, d2, d3⟩ | ⟨d1, d2, d3⟩
    · go_enter Try.func6, Try.ntmps6
      go_wp2_with fail
      refine (c1.out _).mono ?_
      rintro ev w1 ⟨rfl, rfl⟩
      go_wp2_with fail
      refine (c2.out _).mono ?_
      rintro ev w1 ⟨rfl, rfl⟩
      go_wp2_with fail
      refine (c3.out _).mono ?_
      rintro ev w1 ⟨rfl, rfl⟩
      go_wp2_with fail
      refine (c4.out _).mono ?_
      rintro ev w1 ⟨rfl, rfl⟩
      go_wp2_with fail
      refine (awake_calls _).mono ?_
      rintro ev w1 ⟨rfl, rfl⟩
      go_wp2
      go_ret
      exact ⟨rfl, rfl⟩
    · go_enter Try.func6, Try.ntmps6
      go_wp2_with fail
      refine (c1.out _).mono ?_
      rintro ev w1 ⟨rfl, rfl⟩
      go_wp2_with fail
      refine (c2.out _).mono ?_
      rintro ev w1 ⟨rfl, rfl⟩
      go_wp2_with fail
      refine (c3.out _).mono ?_
      rintro ev w1 ⟨rfl, rfl⟩
      go_wp2_with fail
      refine (c4.out _).mono ?_
      rintro ev w1 ⟨rfl, rfl⟩
      go_wp2_with fail
      refine (awake_calls _).mono ?_
      rintro ev w1 ⟨rfl, rfl⟩
      go_wp2
      go_ret
      exact ⟨rfl, rfl⟩
  · obtain rfl : B = 0 := by omega
    obtain rfl : A = 0 := by omega
    rw [show max (0 : Int) 1 = 1 by omega] at hd
    rcases hd with ⟨d1, d2, d3⟩ | ⟨d1, d2, d3⟩
    · exfalso; omega
    · obtain rfl : y = 0 := hz.out (by omega)
      obtain rfl : x = 0 := hz2.out (by omega)
      go_enter Try.func6, Try.ntmps6
      go_wp2_with fail
      refine (c1.out _).mono ?_
      rintro ev w1 ⟨rfl, rfl⟩
      go_wp2_with fail
      refine (c2.out _).mono ?_
      rintro ev w1 ⟨rfl, rfl⟩
      go_wp2_with fail
      refine (c3.out _).mono ?_
      rintro ev w1 ⟨rfl, rfl⟩
      go_wp2_with fail
      refine (c4.out _).mono ?_
      rintro ev w1 ⟨rfl, rfl⟩
      go_wp2_with fail
      refine (awake_calls _).mono ?_
      rintro ev w1 ⟨rfl, rfl⟩
      go_wp2
      go_ret
      exact ⟨rfl, rfl⟩
set_option maxHeartbeats 4000000 in
theorem rises_down (xa xb fa fb A B : Int) (hfa : bits .and .i64 xa 65535 = fa) (_hfa0 : 0 ≤ fa ∧ fa ≤ 65535) (hfb : bits .and .i64 xb 65535 = fb) (_hfb0 : 0 ≤ fb ∧ fb ≤ 65535) (ha : fa.tmod 4001 = B) (hb : fb.tmod 4001 = A) (hA : 0 ≤ A ∧ A ≤ 4000) (hB : 0 ≤ B ∧ B ≤ 4000) (hle : A < B) (w : World) :
    Calls Try.prog 6 #[.int .i64 xa, .int .i64 xb] w fun e w' => e = .returned (.bool true) ∧ w' = w := by
  have hle' : A ≤ B := by omega
  have hd := blk_data B hB.1 hB.2
  have hm := blk_rises A B hA.1 hle' hB.2
  have hx := blk_range A
  have hy := blk_range B
  have g1 : growb A B = blk B - blk A := by unfold growb; omega
  have g2 : growb B A = 0 := by unfold growb; omega
  have c1 := hidden (blocks_calls A)
  have c2 := hidden (blocks_calls B)
  have c3 := hidden (grow_calls A B)
  have c4 := hidden (grow_calls B A)
  rw [g1] at c3
  rw [g2] at c4
  clear g1 g2
  generalize blk A = x at hm hx c1 c3
  generalize blk B = y at hm hy c2 c3 hd
  by_cases hB1 : B ≥ 1
  · have hmx : max B 1 = B := by omega
    rw [hmx] at hd
    rcases hd with ⟨d1, d2, d3⟩ | ⟨d1, d2, d3⟩
    · go_enter Try.func6, Try.ntmps6
      go_wp2_with fail
      refine (c1.out _).mono ?_
      rintro ev w1 ⟨rfl, rfl⟩
      go_wp2_with fail
      refine (c2.out _).mono ?_
      rintro ev w1 ⟨rfl, rfl⟩
      go_wp2_with fail
      refine (c3.out _).mono ?_
      rintro ev w1 ⟨rfl, rfl⟩
      go_wp2_with fail
      refine (c4.out _).mono ?_
      rintro ev w1 ⟨rfl, rfl⟩
      go_wp2_with fail
      refine (awake_calls _).mono ?_
      rintro ev w1 ⟨rfl, rfl⟩
      go_wp2
      go_ret
      exact ⟨rfl, rfl⟩
    · go_enter Try.func6, Try.ntmps6
      go_wp2_with fail
      refine (c1.out _).mono ?_
      rintro ev w1 ⟨rfl, rfl⟩
      go_wp2_with fail
      refine (c2.out _).mono ?_
      rintro ev w1 ⟨rfl, rfl⟩
      go_wp2_with fail
      refine (c3.out _).mono ?_
      rintro ev w1 ⟨rfl, rfl⟩
      go_wp2_with fail
      refine (c4.out _).mono ?_
      rintro ev w1 ⟨rfl, rfl⟩
      go_wp2_with fail
      refine (awake_calls _).mono ?_
      rintro ev w1 ⟨rfl, rfl⟩
      go_wp2
      go_ret
      exact ⟨rfl, rfl⟩
  · exfalso; omega
theorem budgetRises_calls (x y : Int) (w : World) :
    Calls Try.prog 6 #[.int .i64 x, .int .i64 y] w fun e w' => e = .returned (.bool true) ∧ w' = w := by
  obtain ⟨fa, a, hfa, hfa0, hfa1, ha, ha0, ha1⟩ := and_rem x 65535 4001 (by decide) (by decide) (by decide)
  obtain ⟨fb, b, hfb, hfb0, hfb1, hb, hb0, hb1⟩ := and_rem y 65535 4001 (by decide) (by decide) (by decide)
  by_cases h : a ≤ b
  · exact rises_up x y fa fb a b hfa ⟨hfa0, hfa1⟩ hfb ⟨hfb0, hfb1⟩ ha hb ⟨ha0, by omega⟩ ⟨hb0, by omega⟩ h w
  · exact rises_down x y fa fb b a hfa ⟨hfa0, hfa1⟩ hfb ⟨hfb0, hfb1⟩ ha hb ⟨hb0, by omega⟩ ⟨ha0, by omega⟩ (by omega) w
set_option maxHeartbeats 4000000 in
theorem budgetLayouts_calls (x y : Int) (w : World) :
    Calls Try.prog 7 #[.int .i64 x, .int .i64 y] w fun e w' => e = .returned (.bool true) ∧ w' = w := by
  obtain ⟨fa, a, hfa, hfa0, hfa1, ha, ha0, ha1⟩ := and_rem x 2047 1800 (by decide) (by decide) (by decide)
  obtain ⟨fb, b, hfb, hfb0, hfb1, hb, hb0, hb1⟩ := and_rem y 255 100 (by decide) (by decide) (by decide)
  obtain ⟨B, hB⟩ : ∃ B, a + 240 = B := ⟨_, rfl⟩
  obtain ⟨I, hI⟩ : ∃ I, b + 8 = I := ⟨_, rfl⟩
  have hB0 : 240 ≤ B ∧ B ≤ 2039 := by omega
  have hI0 : 8 ≤ I ∧ I ≤ 107 := by omega
  have c1 := hidden (layout_ok B I (by unfold layOk dat; omega))
  have c2 := hidden (layout_ok (B + 1) I (by unfold layOk dat; omega))
  have c3 := hidden (layout_ok B (I + 1) (by unfold layOk dat; omega))
  have e1 : (B + 1023).tdiv 1024 = (B + 1023) / 1024 := Int.tdiv_eq_ediv_of_nonneg (by omega)
  have e2 : (B + 1024).tdiv 1024 = (B + 1024) / 1024 := Int.tdiv_eq_ediv_of_nonneg (by omega)
  have hn : dat B I + I + 96 + (B + 1023) / 1024 = B := by unfold dat; omega
  have hk : dat B (I + 1) = dat B I - 1 := by unfold dat; omega
  have hm : dat (B + 1) I = dat B I + 1 ∧ (B + 1024) / 1024 = (B + 1023) / 1024 ∨ dat (B + 1) I = dat B I ∧ (B + 1024) / 1024 = (B + 1023) / 1024 + 1 := by unfold dat; omega
  have hr : 0 ≤ dat B I ∧ dat B I ≤ 3000 := by unfold dat; omega
  have hq : 0 ≤ (B + 1023) / 1024 ∧ (B + 1023) / 1024 ≤ 3 := by omega
  generalize dat B I = n at *
  generalize dat (B + 1) I = m at *
  generalize dat B (I + 1) = k at *
  generalize (B + 1023) / 1024 = q at *
  generalize (B + 1024) / 1024 = q2 at *
  have hB2 : ¬ B = 2048 := by omega
  subst hk
  rcases hm with ⟨rfl, rfl⟩ | ⟨rfl, rfl⟩
  · go_enter Try.func7, Try.ntmps7
    go_wp2_with fail
    refine (c1.out _).mono ?_
    rintro ev w1 ⟨rfl, rfl⟩
    go_wp2_with fail
    refine (c2.out _).mono ?_
    rintro ev w1 ⟨rfl, rfl⟩
    go_wp2_with fail
    refine (c3.out _).mono ?_
    rintro ev w1 ⟨rfl, rfl⟩
    go_wp2_with fail
    refine (awake_calls _).mono ?_
    rintro ev w1 ⟨rfl, rfl⟩
    go_wp2
    go_ret
    exact ⟨rfl, rfl⟩
  · go_enter Try.func7, Try.ntmps7
    go_wp2_with fail
    refine (c1.out _).mono ?_
    rintro ev w1 ⟨rfl, rfl⟩
    go_wp2_with fail
    refine (c2.out _).mono ?_
    rintro ev w1 ⟨rfl, rfl⟩
    go_wp2_with fail
    refine (c3.out _).mono ?_
    rintro ev w1 ⟨rfl, rfl⟩
    go_wp2_with fail
    refine (awake_calls _).mono ?_
    rintro ev w1 ⟨rfl, rfl⟩
    go_wp2
    go_ret
    exact ⟨rfl, rfl⟩
end Go.Proofs.Ytaakidgnijdgpaa
