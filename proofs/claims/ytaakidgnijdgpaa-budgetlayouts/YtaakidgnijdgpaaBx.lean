/- The statements of layer 6: each answers true, whatever it is given; the memory stays as it was. -/
import Derived.Test.YtaakidgnijdgpaaBw
namespace Go.Proofs.Ytaakidgnijdgpaa
open Go.RowKit
set_option maxRecDepth 100000

theorem and_low (x : Int) (m : Nat) (hm : m < 4611686018427387904) : 0 ≤ bits .and .i64 x (m : Int) ∧ bits .and .i64 x (m : Int) ≤ (m : Int) := by
  have h1 : bits .and .i64 x (m : Int) = IntKind.i64.wrap (((BitVec.ofInt 64 x &&& BitVec.ofInt 64 (m : Int)).toNat : Nat) : Int) := rfl
  have h2 : (BitVec.ofInt 64 x &&& BitVec.ofInt 64 (m : Int)).toNat ≤ m := by
    rw [BitVec.toNat_and]
    refine Nat.le_trans Nat.and_le_right ?_
    rw [BitVec.toNat_ofInt]
    have : ((m : Int) % (2 ^ 64 : Nat)).toNat = m := by omega
    omega
  generalize (BitVec.ofInt 64 x &&& BitVec.ofInt 64 (m : Int)).toNat = z at h1 h2
  have h3 : IntKind.i64.wrap (z : Int) = z := by
    have h4 : (z : Int) % (2 ^ 64 : Int) = z := by omega
    simp only [IntKind.wrap, IntKind.bits, IntKind.signed, h4]
    rw [if_neg (by simp; omega)]
  rw [h1, h3]
  omega

theorem and_of (x m : Int) (h0 : 0 ≤ m) (hm : m < 4611686018427387904) : ∃ f : Int, bits .and .i64 x m = f ∧ 0 ≤ f ∧ f ≤ m := by
  obtain ⟨k, rfl⟩ := Int.eq_ofNat_of_zero_le h0
  exact ⟨_, rfl, and_low x k (by omega)⟩
theorem and_rem (x m k : Int) (h0 : 0 ≤ m) (hm : m < 4611686018427387904) (hk : 0 < k) : ∃ f g : Int, bits .and .i64 x m = f ∧ 0 ≤ f ∧ f ≤ m ∧ f.tmod k = g ∧ 0 ≤ g ∧ g < k := by
  obtain ⟨f, h1, h2, h3⟩ := and_of x m h0 hm
  exact ⟨f, _, h1, h2, h3, rfl, Int.tmod_nonneg _ h2, Int.tmod_lt_of_pos _ hk⟩
theorem may_low (f r n : Int) (a : Bool) (h : n < 1) : mayB f r n a = true := by unfold mayB; rw [decide_eq_true h]; rfl
theorem may_all (f r n : Int) (h : 1 ≤ n) : mayB f r n true = decide (n ≤ f) := by unfold mayB; rw [decide_eq_false (by omega)]; simp
theorem may_some (f r n : Int) (h : 1 ≤ n) (hr : 0 ≤ r) : mayB f r n false = decide (n + r ≤ f) := by
  unfold mayB
  rw [decide_eq_false (by omega)]
  by_cases h1 : n + r ≤ f
  · rw [decide_eq_true h1, decide_eq_true (show n ≤ f by omega), decide_eq_true (show r ≤ f - n by omega)]; rfl
  · rw [decide_eq_false h1, decide_eq_false (show ¬ r ≤ f - n by omega)]; simp
set_option maxHeartbeats 2000000 in
theorem budgetMay_calls (x y z : Int) (w : World) :
    Calls Try.prog 3 #[.int .i64 x, .int .i64 y, .int .i64 z] w fun e w' => e = .returned (.bool true) ∧ w' = w := by
  obtain ⟨f, hf, hf0, hf1⟩ := and_of x 1048575 (by decide) (by decide)
  obtain ⟨r, hr, hr0, hr1⟩ := and_of y 4095 (by decide) (by decide)
  obtain ⟨n, hn, hn0, hn1⟩ := and_of z 1048575 (by decide) (by decide)
  have c1 := hidden (may_calls f r n false (by omega))
  have c2 := hidden (may_calls f r n true (by omega))
  have c3 := hidden (may_calls f r (n + 1) false (by omega))
  have c4 := hidden (may_calls f r 0 false (by omega))
  have c5 := hidden (may_calls f r (-n) true (by omega))
  rw [may_low f r 0 false (by omega)] at c4
  rw [may_low f r (-n) true (by omega)] at c5
  rw [may_some f r (n + 1) (by omega) hr0] at c3
  by_cases h1 : n < 1
  · have h2 : n ≤ f := by omega
    rw [may_low f r n false h1] at c1
    rw [may_low f r n true h1] at c2
    generalize decide (n + 1 + r ≤ f) = B at c3
    cases B
    · go_enter Try.func3, Try.ntmps3
      go_wp2_with fail
      refine (c1.out _).mono ?_
      rintro ev w1 ⟨rfl, rfl⟩
      go_wp2_with fail
      refine (c2.out _).mono ?_
      rintro ev w1 ⟨rfl, rfl⟩
      go_wp2_with fail
      refine (c3.out _).mono ?_
      rintro ev w1 ⟨rfl, rfl⟩
      go_wp2_with fail
      refine (c4.out _).mono ?_
      rintro ev w1 ⟨rfl, rfl⟩
      go_wp2_with fail
      refine (c5.out _).mono ?_
      rintro ev w1 ⟨rfl, rfl⟩
      go_wp2_with fail
      refine (awake_calls _).mono ?_
      rintro ev w1 ⟨rfl, rfl⟩
      go_wp2
      go_ret
      exact ⟨rfl, rfl⟩
    · go_enter Try.func3, Try.ntmps3
      go_wp2_with fail
      refine (c1.out _).mono ?_
      rintro ev w1 ⟨rfl, rfl⟩
      go_wp2_with fail
      refine (c2.out _).mono ?_
      rintro ev w1 ⟨rfl, rfl⟩
      go_wp2_with fail
      refine (c3.out _).mono ?_
      rintro ev w1 ⟨rfl, rfl⟩
      go_wp2_with fail
      refine (c4.out _).mono ?_
      rintro ev w1 ⟨rfl, rfl⟩
      go_wp2_with fail
      refine (c5.out _).mono ?_
      rintro ev w1 ⟨rfl, rfl⟩
      go_wp2_with fail
      refine (awake_calls _).mono ?_
      rintro ev w1 ⟨rfl, rfl⟩
      go_wp2
      go_ret
      exact ⟨rfl, rfl⟩
  · rw [may_some f r n (by omega) hr0] at c1
    rw [may_all f r n (by omega)] at c2
    by_cases h2 : n + r ≤ f
    · have h3 : n ≤ f := by omega
      rw [decide_eq_true h2] at c1
      rw [decide_eq_true h3] at c2
      generalize decide (n + 1 + r ≤ f) = B at c3
      cases B
      · go_enter Try.func3, Try.ntmps3
        go_wp2_with fail
        refine (c1.out _).mono ?_
        rintro ev w1 ⟨rfl, rfl⟩
        go_wp2_with fail
        refine (c2.out _).mono ?_
        rintro ev w1 ⟨rfl, rfl⟩
        go_wp2_with fail
        refine (c3.out _).mono ?_
        rintro ev w1 ⟨rfl, rfl⟩
        go_wp2_with fail
        refine (c4.out _).mono ?_
        rintro ev w1 ⟨rfl, rfl⟩
        go_wp2_with fail
        refine (c5.out _).mono ?_
        rintro ev w1 ⟨rfl, rfl⟩
        go_wp2_with fail
        refine (awake_calls _).mono ?_
        rintro ev w1 ⟨rfl, rfl⟩
        go_wp2
        go_ret
        exact ⟨rfl, rfl⟩
      · go_enter Try.func3, Try.ntmps3
        go_wp2_with fail
        refine (c1.out _).mono ?_
        rintro ev w1 ⟨rfl, rfl⟩
        go_wp2_with fail
        refine (c2.out _).mono ?_
        rintro ev w1 ⟨rfl, rfl⟩
        go_wp2_with fail
        refine (c3.out _).mono ?_
        rintro ev w1 ⟨rfl, rfl⟩
        go_wp2_with fail
        refine (c4.out _).mono ?_
        rintro ev w1 ⟨rfl, rfl⟩
        go_wp2_with fail
        refine (c5.out _).mono ?_
        rintro ev w1 ⟨rfl, rfl⟩
        go_wp2_with fail
        refine (awake_calls _).mono ?_
        rintro ev w1 ⟨rfl, rfl⟩
        go_wp2
        go_ret
        exact ⟨rfl, rfl⟩
    · rw [decide_eq_false h2] at c1
      rw [decide_eq_false (show ¬ n + 1 + r ≤ f by omega)] at c3
      by_cases h3 : n ≤ f
      · rw [decide_eq_true h3] at c2
        go_enter Try.func3, Try.ntmps3
        go_wp2_with fail
        refine (c1.out _).mono ?_
        rintro ev w1 ⟨rfl, rfl⟩
        go_wp2_with fail
        refine (c2.out _).mono ?_
        rintro ev w1 ⟨rfl, rfl⟩
        go_wp2_with fail
        refine (c3.out _).mono ?_
        rintro ev w1 ⟨rfl, rfl⟩
        go_wp2_with fail
        refine (c4.out _).mono ?_
        rintro ev w1 ⟨rfl, rfl⟩
        go_wp2_with fail
        refine (c5.out _).mono ?_
        rintro ev w1 ⟨rfl, rfl⟩
        go_wp2_with fail
        refine (awake_calls _).mono ?_
        rintro ev w1 ⟨rfl, rfl⟩
        go_wp2
        go_ret
        exact ⟨rfl, rfl⟩
      · rw [decide_eq_false h3] at c2
        go_enter Try.func3, Try.ntmps3
        go_wp2_with fail
        refine (c1.out _).mono ?_
        rintro ev w1 ⟨rfl, rfl⟩
        go_wp2_with fail
        refine (c2.out _).mono ?_
        rintro ev w1 ⟨rfl, rfl⟩
        go_wp2_with fail
        refine (c3.out _).mono ?_
        rintro ev w1 ⟨rfl, rfl⟩
        go_wp2_with fail
        refine (c4.out _).mono ?_
        rintro ev w1 ⟨rfl, rfl⟩
        go_wp2_with fail
        refine (c5.out _).mono ?_
        rintro ev w1 ⟨rfl, rfl⟩
        go_wp2_with fail
        refine (awake_calls _).mono ?_
        rintro ev w1 ⟨rfl, rfl⟩
        go_wp2
        go_ret
        exact ⟨rfl, rfl⟩
set_option maxHeartbeats 2000000 in
theorem budgetDirs_calls (x : Int) (w : World) :
    Calls Try.prog 4 #[.int .i64 x] w fun e w' => e = .returned (.bool true) ∧ w' = w := by
  obtain ⟨f, n, hf, hf0, hf1, hn, hn0, hn1⟩ := and_rem x 255 121 (by decide) (by decide) (by decide)
  have d1 : dirb n = blk (32 * n) := by unfold dirb; rw [show min (max n 0) 120 = n by omega]
  have c1 := hidden (dir_calls n)
  have c2 := hidden (blocks_calls (32 * n))
  have c3 := hidden (dir_calls 500)
  have c4 := hidden (dir_calls 120)
  have c5 := hidden (dir_calls (-3))
  rw [show dirb 500 = 31 by decide] at c3
  rw [show dirb 120 = 31 by decide] at c4
  rw [show dirb (-3) = 0 by decide] at c5
  rw [d1] at c1
  have e1 : (n + 3).tdiv 4 = (n + 3) / 4 := Int.tdiv_eq_ediv_of_nonneg (by omega)
  have hq : 0 ≤ (n + 3) / 4 ∧ (n + 3) / 4 ≤ 31 := by omega
  by_cases h1 : n > 32
  · have d2 : blk (32 * n) = (n + 3) / 4 + 1 := by unfold blk; rw [if_neg (by omega), if_neg (by omega), if_pos (by omega)]; omega
    rw [d2] at c1 c2
    clear d1 d2
    generalize (n + 3) / 4 = q at e1 hq c1 c2
    go_enter Try.func4, Try.ntmps4
    go_wp2_with fail
    refine (c1.out _).mono ?_
    rintro ev w1 ⟨rfl, rfl⟩
    go_wp2_with fail
    refine (c1.out _).mono ?_
    rintro ev w1 ⟨rfl, rfl⟩
    go_wp2_with fail
    refine (c2.out _).mono ?_
    rintro ev w1 ⟨rfl, rfl⟩
    go_wp2_with fail
    refine (c3.out _).mono ?_
    rintro ev w1 ⟨rfl, rfl⟩
    go_wp2_with fail
    refine (c4.out _).mono ?_
    rintro ev w1 ⟨rfl, rfl⟩
    go_wp2_with fail
    refine (c5.out _).mono ?_
    rintro ev w1 ⟨rfl, rfl⟩
    go_wp2_with fail
    refine (awake_calls _).mono ?_
    rintro ev w1 ⟨rfl, rfl⟩
    go_wp2
    go_ret
    exact ⟨rfl, rfl⟩
  · have d2 : blk (32 * n) = (n + 3) / 4 := by
      unfold blk
      by_cases h2 : n = 0
      · subst h2; rfl
      · rw [if_neg (by omega), if_pos (by omega)]; omega
    rw [d2] at c1 c2
    clear d1 d2
    generalize (n + 3) / 4 = q at e1 hq c1 c2
    go_enter Try.func4, Try.ntmps4
    go_wp2_with fail
    refine (c1.out _).mono ?_
    rintro ev w1 ⟨rfl, rfl⟩
    go_wp2_with fail
    refine (c1.out _).mono ?_
    rintro ev w1 ⟨rfl, rfl⟩
    go_wp2_with fail
    refine (c2.out _).mono ?_
    rintro ev w1 ⟨rfl, rfl⟩
    go_wp2_with fail
    refine (c3.out _).mono ?_
    rintro ev w1 ⟨rfl, rfl⟩
    go_wp2_with fail
    refine (c4.out _).mono ?_
    rintro ev w1 ⟨rfl, rfl⟩
    go_wp2_with fail
    refine (c5.out _).mono ?_
    rintro ev w1 ⟨rfl, rfl⟩
    go_wp2_with fail
    refine (awake_calls _).mono ?_
    rintro ev w1 ⟨rfl, rfl⟩
    go_wp2
    go_ret
    exact ⟨rfl, rfl⟩
set_option maxHeartbeats 2000000 in
theorem budgetTells_calls (a b f r n : Int) (l : Bool) (hf : f ≤ 9223372036854775807) (w : World) :
    Calls Try.prog 5 #[.int .i64 a, .int .i64 b, .int .i64 f, .int .i64 r, .int .i64 n, .bool l] w fun e w' => e = .returned (.bool true) ∧ w' = w := by
  have c1 := hidden (blocks_calls a)
  have c2 := hidden (refblocks_calls a)
  have c3 := hidden (dir_calls a)
  have c4 := hidden (refdir_calls a)
  have c5 := hidden (grow_calls a b)
  have c6 := hidden (refgrow_calls a b)
  have c7 := hidden (may_calls f r n l hf)
  have c8 := hidden (refmay_calls f r n l hf)
  generalize blk a = q1 at c1 c2
  generalize dirb a = q2 at c3 c4
  generalize growb a b = q3 at c5 c6
  generalize mayB f r n l = q4 at c7 c8
  by_cases h : layOk a b
  · have l1 := hidden (layout_ok a b h)
    have l2 := hidden (reflayout_ok a b h)
    generalize dat a b = q5 at l1 l2
    clear h
    go_enter Try.func5, Try.ntmps5
    go_wp2_with fail
    refine (l1.out _).mono ?_
    rintro ev w1 ⟨rfl, rfl⟩
    go_wp2_with fail
    refine (l2.out _).mono ?_
    rintro ev w1 ⟨rfl, rfl⟩
    go_wp2_with fail
    refine (c1.out _).mono ?_
    rintro ev w1 ⟨rfl, rfl⟩
    go_wp2_with fail
    refine (c2.out _).mono ?_
    rintro ev w1 ⟨rfl, rfl⟩
    go_wp2_with fail
    refine (c3.out _).mono ?_
    rintro ev w1 ⟨rfl, rfl⟩
    go_wp2_with fail
    refine (c4.out _).mono ?_
    rintro ev w1 ⟨rfl, rfl⟩
    go_wp2_with fail
    refine (c5.out _).mono ?_
    rintro ev w1 ⟨rfl, rfl⟩
    go_wp2_with fail
    refine (c6.out _).mono ?_
    rintro ev w1 ⟨rfl, rfl⟩
    go_wp2_with fail
    refine (c7.out _).mono ?_
    rintro ev w1 ⟨rfl, rfl⟩
    go_wp2_with fail
    refine (c8.out _).mono ?_
    rintro ev w1 ⟨rfl, rfl⟩
    go_wp2_with fail
    refine (awake_calls _).mono ?_
    rintro ev w1 ⟨rfl, rfl⟩
    go_wp2
    go_ret
    exact ⟨rfl, rfl⟩
  · have l1 := hidden (layout_no a b h)
    have l2 := hidden (reflayout_no a b h)
    clear h
    go_enter Try.func5, Try.ntmps5
    go_wp2_with fail
    refine (l1.out _).mono ?_
    rintro ev w1 ⟨rfl, rfl⟩
    go_wp2_with fail
    refine (l2.out _).mono ?_
    rintro ev w1 ⟨rfl, rfl⟩
    go_wp2_with fail
    refine (c1.out _).mono ?_
    rintro ev w1 ⟨rfl, rfl⟩
    go_wp2_with fail
    refine (c2.out _).mono ?_
    rintro ev w1 ⟨rfl, rfl⟩
    go_wp2_with fail
    refine (c3.out _).mono ?_
    rintro ev w1 ⟨rfl, rfl⟩
    go_wp2_with fail
    refine (c4.out _).mono ?_
    rintro ev w1 ⟨rfl, rfl⟩
    go_wp2_with fail
    refine (c5.out _).mono ?_
    rintro ev w1 ⟨rfl, rfl⟩
    go_wp2_with fail
    refine (c6.out _).mono ?_
    rintro ev w1 ⟨rfl, rfl⟩
    go_wp2_with fail
    refine (c7.out _).mono ?_
    rintro ev w1 ⟨rfl, rfl⟩
    go_wp2_with fail
    refine (c8.out _).mono ?_
    rintro ev w1 ⟨rfl, rfl⟩
    go_wp2_with fail
    refine (awake_calls _).mono ?_
    rintro ev w1 ⟨rfl, rfl⟩
    go_wp2
    go_ret
    exact ⟨rfl, rfl⟩
end Go.Proofs.Ytaakidgnijdgpaa
