/- Package budget's functions, and the document's: what each answers; the memory stays as it was. -/
import Derived.Test.YtaakidgnijdgpaaRows
import Derived.WalkKit
import Derived.WalkSpells
import Derived.ProofKit
import Derived.OpenShut
import Derived.RowKitTokens
import Derived.Deep.LoopGhost
import Derived.Deep.RegionWith
import Derived.Deep.Matrix
namespace Go.Proofs.Ytaakidgnijdgpaa
open Go.RowKit
set_option maxRecDepth 100000

theorem hidden {p : Prop} (h : p) : Hid p := h
theorem begun_calls (n : Int) (h0 : 0 ≤ n) (h1 : n ≤ 1000000) (w : World) :
    Calls Try.prog 19 #[.int .i64 n, .int .i64 128] w fun e w' => e = .returned (.int .i64 ((n + 127) / 128)) ∧ w' = w := by
  have e1 : (n + 127).tdiv 128 = (n + 127) / 128 := Int.tdiv_eq_ediv_of_nonneg (by omega)
  have hr : 0 ≤ (n + 127) / 128 ∧ (n + 127) / 128 ≤ 1000000 := by omega
  have e2 : n + 128 - 1 = n + 127 := by omega
  generalize (n + 127) / 128 = q at e1 hr ⊢
  go_enter Try.func19, Try.ntmps19
  go_wp2
  go_ret
  exact ⟨rfl, rfl⟩
theorem begun2_calls (n : Int) (h0 : 0 ≤ n) (h1 : n ≤ 1000000) (w : World) :
    Calls Try.prog 19 #[.int .i64 n, .int .i64 1024] w fun e w' => e = .returned (.int .i64 ((n + 1023) / 1024)) ∧ w' = w := by
  have e1 : (n + 1023).tdiv 1024 = (n + 1023) / 1024 := Int.tdiv_eq_ediv_of_nonneg (by omega)
  have hr : 0 ≤ (n + 1023) / 1024 ∧ (n + 1023) / 1024 ≤ 1000000 := by omega
  have e2 : n + 1024 - 1 = n + 1023 := by omega
  generalize (n + 1023) / 1024 = q at e1 hr ⊢
  go_enter Try.func19, Try.ntmps19
  go_wp2
  go_ret
  exact ⟨rfl, rfl⟩
/-- How many blocks a file has. -/
def blk (s : Int) : Int := if s ≤ 0 then 0 else if s ≤ 1024 then (s + 127) / 128 else if s ≤ 4000 then (s + 127) / 128 + 1 else 33
theorem blk_range (s : Int) : 0 ≤ blk s ∧ blk s ≤ 33 := by unfold blk; split <;> (try split) <;> (try split) <;> omega
set_option maxHeartbeats 1000000 in
theorem blocks_calls (s : Int) (w : World) :
    Calls Try.prog 11 #[.int .i64 s] w fun e w' => e = .returned (.int .i64 (blk s)) ∧ w' = w := by
  by_cases h1 : s > 4000
  · have hE : blk s = 33 := by unfold blk; rw [if_neg (by omega), if_neg (by omega), if_neg (by omega)]
    rw [hE]
    clear hE
    go_enter Try.func11, Try.ntmps11
    go_wp2_with fail
    refine (begun_calls 4000 (by omega) (by omega) _).mono ?_
    rintro ev w1 ⟨rfl, rfl⟩
    go_wp2
    go_ret
    exact ⟨rfl, rfl⟩
  · by_cases h2 : s > 1024
    · have hE : blk s = (s + 127) / 128 + 1 := by unfold blk; rw [if_neg (by omega), if_neg (by omega), if_pos (by omega)]
      have hr : 0 ≤ (s + 127) / 128 ∧ (s + 127) / 128 ≤ 33 := by omega
      have hb := hidden (fun w => begun_calls s (by omega) (by omega) w)
      rw [hE]
      clear hE
      generalize (s + 127) / 128 = q at hr hb ⊢
      have e1 : Hid (1 + q = q + 1) := hidden (by omega)
      go_enter Try.func11, Try.ntmps11
      go_wp2_with fail
      refine (hb.out _).mono ?_
      rintro ev w1 ⟨rfl, rfl⟩
      go_wp2
      go_ret
      exact ⟨by rw [e1.out]; rfl, rfl⟩
    · by_cases h3 : s > 0
      · have hE : blk s = (s + 127) / 128 := by unfold blk; rw [if_neg (by omega), if_pos (by omega)]
        have hr : 0 ≤ (s + 127) / 128 ∧ (s + 127) / 128 ≤ 33 := by omega
        have hb := hidden (fun w => begun_calls s (by omega) (by omega) w)
        rw [hE]
        clear hE
        generalize (s + 127) / 128 = q at hr hb ⊢
        go_enter Try.func11, Try.ntmps11
        go_wp2_with fail
        refine (hb.out _).mono ?_
        rintro ev w1 ⟨rfl, rfl⟩
        go_wp2
        go_ret
        exact ⟨by simp, rfl⟩
      · have hE : blk s = 0 := by unfold blk; rw [if_pos (by omega)]
        rw [hE]
        clear hE
        go_enter Try.func11, Try.ntmps11
        go_wp2
        go_ret
        exact ⟨rfl, rfl⟩
set_option maxHeartbeats 1000000 in
theorem refblocks_calls (s : Int) (w : World) :
    Calls Try.prog 14 #[.int .i64 s] w fun e w' => e = .returned (.int .i64 (blk s)) ∧ w' = w := by
  by_cases h1 : s > 4000
  · have hE : blk s = 33 := by unfold blk; rw [if_neg (by omega), if_neg (by omega), if_neg (by omega)]
    have hx : max s 0 = s := by omega
    have hm : min s 4000 = 4000 := by omega
    rw [hE]
    clear hE
    go_enter Try.func14, Try.ntmps14
    go_wp2
    all_goals (go_ret; exact ⟨rfl, rfl⟩)
  · by_cases h2 : s > 1024
    · have hE : blk s = (s + 127) / 128 + 1 := by unfold blk; rw [if_neg (by omega), if_neg (by omega), if_pos (by omega)]
      have hr : 8 < (s + 127) / 128 ∧ (s + 127) / 128 ≤ 33 := by omega
      have e1 : (s + 127).tdiv 128 = (s + 127) / 128 := Int.tdiv_eq_ediv_of_nonneg (by omega)
      have hx : max s 0 = s := by omega
      have hm : min s 4000 = s := by omega
      rw [hE]
      clear hE
      generalize (s + 127) / 128 = q at hr e1 ⊢
      go_enter Try.func14, Try.ntmps14
      go_wp2
      all_goals (go_ret; exact ⟨rfl, rfl⟩)
    · by_cases h3 : s > 0
      · have hE : blk s = (s + 127) / 128 := by unfold blk; rw [if_neg (by omega), if_pos (by omega)]
        have hr : 0 ≤ (s + 127) / 128 ∧ (s + 127) / 128 ≤ 8 := by omega
        have e1 : (s + 127).tdiv 128 = (s + 127) / 128 := Int.tdiv_eq_ediv_of_nonneg (by omega)
        have hx : max s 0 = s := by omega
        have hm : min s 4000 = s := by omega
        rw [hE]
        clear hE
        generalize (s + 127) / 128 = q at hr e1 ⊢
        go_enter Try.func14, Try.ntmps14
        go_wp2
        all_goals (go_ret; exact ⟨rfl, rfl⟩)
      · by_cases h4 : s = 0
        · subst h4
          have hE : blk 0 = 0 := rfl
          rw [hE]
          clear hE
          go_enter Try.func14, Try.ntmps14
          go_wp2
          all_goals (go_ret; exact ⟨rfl, rfl⟩)
        · have hE : blk s = 0 := by unfold blk; rw [if_pos (by omega)]
          have hx : max s 0 = 0 := by omega
          have h5 : s < 0 := by omega
          rw [hE]
          clear hE h4 h3
          go_enter Try.func14, Try.ntmps14
          go_wp2
          all_goals (go_ret; exact ⟨rfl, rfl⟩)
/-- How many blocks a directory has. -/
def dirb (n : Int) : Int := blk (32 * min (max n 0) 120)
set_option maxHeartbeats 1000000 in
theorem dir_calls (n : Int) (w : World) :
    Calls Try.prog 10 #[.int .i64 n] w fun e w' => e = .returned (.int .i64 (dirb n)) ∧ w' = w := by
  by_cases h1 : n > 120
  · have hE : dirb n = blk 3840 := by unfold dirb; rw [show min (max n 0) 120 = 120 by omega]; rfl
    have hx : max n 0 = n := by omega
    have hm : min n 120 = 120 := by omega
    rw [hE]
    clear hE
    have hc := hidden (blocks_calls 3840)
    generalize blk 3840 = q at hc ⊢
    go_enter Try.func10, Try.ntmps10
    go_wp2_with fail
    all_goals
      refine (hc.out _).mono ?_
      rintro ev w1 ⟨rfl, rfl⟩
      go_wp2
      go_ret
      exact ⟨rfl, rfl⟩
  · by_cases h2 : n > 0
    · have hE : dirb n = blk (32 * n) := by unfold dirb; rw [show min (max n 0) 120 = n by omega]
      have hx : max n 0 = n := by omega
      have hm : min n 120 = n := by omega
      rw [hE]
      clear hE
      have hc := hidden (blocks_calls (32 * n))
      generalize blk (32 * n) = q at hc ⊢
      go_enter Try.func10, Try.ntmps10
      go_wp2_with fail
      all_goals
        refine (hc.out _).mono ?_
        rintro ev w1 ⟨rfl, rfl⟩
        go_wp2
        go_ret
        exact ⟨rfl, rfl⟩
    · by_cases h4 : n = 0
      · subst h4
        have hE : dirb 0 = blk 0 := rfl
        have hc := hidden (blocks_calls 0)
        rw [hE]
        clear hE
        generalize blk 0 = q at hc ⊢
        go_enter Try.func10, Try.ntmps10
        go_wp2_with fail
        all_goals
          refine (hc.out _).mono ?_
          rintro ev w1 ⟨rfl, rfl⟩
          go_wp2
          go_ret
          exact ⟨rfl, rfl⟩
      · have hE : dirb n = blk 0 := by unfold dirb; rw [show min (max n 0) 120 = 0 by omega]; rfl
        have hx : max n 0 = 0 := by omega
        have h5 : n < 0 := by omega
        have hc := hidden (blocks_calls 0)
        rw [hE]
        clear hE h4 h2 h1
        generalize blk 0 = q at hc ⊢
        go_enter Try.func10, Try.ntmps10
        go_wp2_with fail
        all_goals
          refine (hc.out _).mono ?_
          rintro ev w1 ⟨rfl, rfl⟩
          go_wp2
          go_ret
          exact ⟨rfl, rfl⟩
set_option maxHeartbeats 1000000 in
theorem refdir_calls (n : Int) (w : World) :
    Calls Try.prog 15 #[.int .i64 n] w fun e w' => e = .returned (.int .i64 (dirb n)) ∧ w' = w := by
  by_cases h1 : n > 120
  · have hE : dirb n = blk 3840 := by unfold dirb; rw [show min (max n 0) 120 = 120 by omega]; rfl
    have hx : max n 0 = n := by omega
    have hm : min n 120 = 120 := by omega
    rw [hE]
    clear hE
    have hc := hidden (refblocks_calls 3840)
    generalize blk 3840 = q at hc ⊢
    go_enter Try.func15, Try.ntmps15
    go_wp2_with fail
    all_goals
      refine (hc.out _).mono ?_
      rintro ev w1 ⟨rfl, rfl⟩
      go_wp2
      go_ret
      exact ⟨rfl, rfl⟩
  · by_cases h2 : n > 0
    · have hE : dirb n = blk (32 * n) := by unfold dirb; rw [show min (max n 0) 120 = n by omega]
      have hx : max n 0 = n := by omega
      have hm : min n 120 = n := by omega
      rw [hE]
      clear hE
      have hc := hidden (refblocks_calls (32 * n))
      generalize blk (32 * n) = q at hc ⊢
      go_enter Try.func15, Try.ntmps15
      go_wp2_with fail
      all_goals
        refine (hc.out _).mono ?_
        rintro ev w1 ⟨rfl, rfl⟩
        go_wp2
        go_ret
        exact ⟨rfl, rfl⟩
    · by_cases h4 : n = 0
      · subst h4
        have hE : dirb 0 = blk 0 := rfl
        have hc := hidden (refblocks_calls 0)
        rw [hE]
        clear hE
        generalize blk 0 = q at hc ⊢
        go_enter Try.func15, Try.ntmps15
        go_wp2_with fail
        all_goals
          refine (hc.out _).mono ?_
          rintro ev w1 ⟨rfl, rfl⟩
          go_wp2
          go_ret
          exact ⟨rfl, rfl⟩
      · have hE : dirb n = blk 0 := by unfold dirb; rw [show min (max n 0) 120 = 0 by omega]; rfl
        have hx : max n 0 = 0 := by omega
        have h5 : n < 0 := by omega
        have hc := hidden (refblocks_calls 0)
        rw [hE]
        clear hE h4 h2 h1
        generalize blk 0 = q at hc ⊢
        go_enter Try.func15, Try.ntmps15
        go_wp2_with fail
        all_goals
          refine (hc.out _).mono ?_
          rintro ev w1 ⟨rfl, rfl⟩
          go_wp2
          go_ret
          exact ⟨rfl, rfl⟩
/-- How many more blocks. -/
def growb (a b : Int) : Int := max 0 (blk b - blk a)
theorem growb_range (a b : Int) : 0 ≤ growb a b ∧ growb a b ≤ 33 := by have := blk_range a; have := blk_range b; unfold growb; omega
set_option maxHeartbeats 1000000 in
theorem grow_calls (a b : Int) (w : World) :
    Calls Try.prog 16 #[.int .i64 a, .int .i64 b] w fun e w' => e = .returned (.int .i64 (growb a b)) ∧ w' = w := by
  unfold growb
  have ha := blk_range a
  have hb := blk_range b
  have ca := hidden (blocks_calls a)
  have cb := hidden (blocks_calls b)
  generalize blk a = x at ha ca ⊢
  generalize blk b = y at hb cb ⊢
  by_cases h1 : y ≤ x
  · have h2 : max 0 (y - x) = 0 := by omega
    have h3 : max 0 (y - x) = 0 := by omega
    rw [h2]
    go_enter Try.func16, Try.ntmps16
    go_wp2_with fail
    refine (cb.out _).mono ?_
    rintro ev w1 ⟨rfl, rfl⟩
    go_wp2_with fail
    refine (ca.out _).mono ?_
    rintro ev w1 ⟨rfl, rfl⟩
    go_wp2
    all_goals (go_ret; exact ⟨rfl, rfl⟩)
  · have h2 : max 0 (y - x) = y - x := by omega
    have h3 : max 0 (y - x) = y - x := by omega
    rw [h2]
    go_enter Try.func16, Try.ntmps16
    go_wp2_with fail
    refine (cb.out _).mono ?_
    rintro ev w1 ⟨rfl, rfl⟩
    go_wp2_with fail
    refine (ca.out _).mono ?_
    rintro ev w1 ⟨rfl, rfl⟩
    go_wp2
    all_goals (go_ret; exact ⟨rfl, rfl⟩)
set_option maxHeartbeats 1000000 in
theorem refgrow_calls (a b : Int) (w : World) :
    Calls Try.prog 17 #[.int .i64 a, .int .i64 b] w fun e w' => e = .returned (.int .i64 (growb a b)) ∧ w' = w := by
  unfold growb
  have ha := blk_range a
  have hb := blk_range b
  have ca := hidden (refblocks_calls a)
  have cb := hidden (refblocks_calls b)
  generalize blk a = x at ha ca ⊢
  generalize blk b = y at hb cb ⊢
  by_cases h1 : y ≤ x
  · by_cases h4 : y = x
    · subst h4
      have h2 : max 0 (y - y) = 0 := by omega
      have h3 : y - y = 0 := by omega
      rw [h2]
      go_enter Try.func17, Try.ntmps17
      go_wp2_with fail
      refine (cb.out _).mono ?_
      rintro ev w1 ⟨rfl, rfl⟩
      go_wp2_with fail
      refine (ca.out _).mono ?_
      rintro ev w1 ⟨rfl, rfl⟩
      go_wp2
      all_goals (go_ret; exact ⟨rfl, rfl⟩)
    · have h2 : max 0 (y - x) = 0 := by omega
      have h3 : max (y - x) 0 = 0 := by omega
      have h5 : y - x < 0 := by omega
      have h6 : y - x ≤ 33 ∧ -33 ≤ y - x := by omega
      rw [h2]
      go_enter Try.func17, Try.ntmps17
      go_wp2_with fail
      refine (cb.out _).mono ?_
      rintro ev w1 ⟨rfl, rfl⟩
      go_wp2_with fail
      refine (ca.out _).mono ?_
      rintro ev w1 ⟨rfl, rfl⟩
      have h7 : Hid (max (y - x) 0 = 0) := hidden h3
      generalize hz : y - x = z at *
      go_wp2
      all_goals (go_ret; exact ⟨rfl, rfl⟩)
  · have h2 : max 0 (y - x) = y - x := by omega
    have h3 : max (y - x) 0 = y - x := by omega
    rw [h2]
    go_enter Try.func17, Try.ntmps17
    go_wp2_with fail
    refine (cb.out _).mono ?_
    rintro ev w1 ⟨rfl, rfl⟩
    go_wp2_with fail
    refine (ca.out _).mono ?_
    rintro ev w1 ⟨rfl, rfl⟩
    go_wp2
    all_goals (go_ret; exact ⟨rfl, rfl⟩)
end Go.Proofs.Ytaakidgnijdgpaa
