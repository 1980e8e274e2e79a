/- budget.Layout, May, and the document's; what the document fixes (awake). -/
import Derived.Test.YtaakidgnijdgpaaBu
namespace Go.Proofs.Ytaakidgnijdgpaa
open Go.RowKit
set_option maxRecDepth 100000

/-- How many blocks are for data. -/
def dat (b i : Int) : Int := b - 96 - i - (b + 1023) / 1024
/-- A disk that may be laid out. -/
def layOk (b i : Int) : Prop := 128 ≤ b ∧ b ≤ 2048 ∧ 8 ≤ i ∧ i ≤ 200 ∧ 8 ≤ dat b i
set_option maxHeartbeats 1000000 in
theorem layout_ok (b i : Int) (h : layOk b i) (w : World) :
    Calls Try.prog 12 #[.int .i64 b, .int .i64 i] w fun e w' => e = .returned (.tuple #[.int .i64 (dat b i), .bool true]) ∧ w' = w := by
  obtain ⟨h1, h2, h3, h4, h5⟩ := h
  unfold dat at h5 ⊢
  have g1 : ¬ b < 128 := by omega
  have g2 : ¬ b > 2048 := by omega
  have g3 : ¬ i < 8 := by omega
  have g4 : ¬ i > 200 := by omega
  have hr : 0 ≤ (b + 1023) / 1024 ∧ (b + 1023) / 1024 ≤ 3 := by omega
  have hb := hidden (fun w => begun2_calls b (by omega) (by omega) w)
  generalize (b + 1023) / 1024 = q at hr hb h5 ⊢
  have g5 : ¬ b - 96 - i - q < 8 := by omega
  go_enter Try.func12, Try.ntmps12
  go_wp2_with fail
  refine (hb.out _).mono ?_
  rintro ev w1 ⟨rfl, rfl⟩
  go_wp2
  go_ret2
  exact ⟨rfl, rfl⟩
set_option maxHeartbeats 1000000 in
theorem layout_no (b i : Int) (h : ¬ layOk b i) (w : World) :
    Calls Try.prog 12 #[.int .i64 b, .int .i64 i] w fun e w' => e = .returned (.tuple #[.int .i64 0, .bool false]) ∧ w' = w := by
  by_cases h1 : b < 128
  · clear h
    go_enter Try.func12, Try.ntmps12
    go_wp2
    go_ret2
    exact ⟨rfl, rfl⟩
  by_cases h2 : b > 2048
  · clear h
    go_enter Try.func12, Try.ntmps12
    go_wp2
    go_ret2
    exact ⟨rfl, rfl⟩
  by_cases h3 : i < 8
  · clear h
    go_enter Try.func12, Try.ntmps12
    go_wp2
    go_ret2
    exact ⟨rfl, rfl⟩
  by_cases h4 : i > 200
  · clear h
    go_enter Try.func12, Try.ntmps12
    go_wp2
    go_ret2
    exact ⟨rfl, rfl⟩
  have h5 : b - 96 - i - (b + 1023) / 1024 < 8 := by
    unfold layOk dat at h
    omega
  clear h
  have hr : 0 ≤ (b + 1023) / 1024 ∧ (b + 1023) / 1024 ≤ 3 := by omega
  have hb := hidden (fun w => begun2_calls b (by omega) (by omega) w)
  generalize (b + 1023) / 1024 = q at hr hb h5 ⊢
  go_enter Try.func12, Try.ntmps12
  go_wp2_with fail
  refine (hb.out _).mono ?_
  rintro ev w1 ⟨rfl, rfl⟩
  go_wp2
  go_ret2
  exact ⟨rfl, rfl⟩
set_option maxHeartbeats 1000000 in
theorem reflayout_ok (b i : Int) (h : layOk b i) (w : World) :
    Calls Try.prog 13 #[.int .i64 b, .int .i64 i] w fun e w' => e = .returned (.tuple #[.int .i64 (dat b i), .bool true]) ∧ w' = w := by
  obtain ⟨h1, h2, h3, h4, h5⟩ := h
  unfold dat at h5 ⊢
  have g1 : ¬ b < 128 := by omega
  have g2 : ¬ b > 2048 := by omega
  have g3 : ¬ i < 8 := by omega
  have g4 : ¬ i > 200 := by omega
  have e1 : (b + 1023).tdiv 1024 = (b + 1023) / 1024 := Int.tdiv_eq_ediv_of_nonneg (by omega)
  have hr : 0 ≤ (b + 1023) / 1024 ∧ (b + 1023) / 1024 ≤ 3 := by omega
  generalize (b + 1023) / 1024 = q at hr e1 h5 ⊢
  have g5 : ¬ b - 96 - i - q < 8 := by omega
  go_enter Try.func13, Try.ntmps13
  go_wp2
  go_ret2
  exact ⟨rfl, rfl⟩
set_option maxHeartbeats 1000000 in
theorem reflayout_no (b i : Int) (h : ¬ layOk b i) (w : World) :
    Calls Try.prog 13 #[.int .i64 b, .int .i64 i] w fun e w' => e = .returned (.tuple #[.int .i64 0, .bool false]) ∧ w' = w := by
  by_cases h1 : b < 128
  · clear h
    go_enter Try.func13, Try.ntmps13
    go_wp2
    go_ret2
    exact ⟨rfl, rfl⟩
  by_cases h2 : b > 2048
  · clear h
    go_enter Try.func13, Try.ntmps13
    go_wp2
    go_ret2
    exact ⟨rfl, rfl⟩
  by_cases h3 : i < 8
  · clear h
    go_enter Try.func13, Try.ntmps13
    go_wp2
    go_ret2
    exact ⟨rfl, rfl⟩
  by_cases h4 : i > 200
  · clear h
    go_enter Try.func13, Try.ntmps13
    go_wp2
    go_ret2
    exact ⟨rfl, rfl⟩
  have h5 : b - 96 - i - (b + 1023) / 1024 < 8 := by
    unfold layOk dat at h
    omega
  clear h
  have e1 : (b + 1023).tdiv 1024 = (b + 1023) / 1024 := Int.tdiv_eq_ediv_of_nonneg (by omega)
  have hr : 0 ≤ (b + 1023) / 1024 ∧ (b + 1023) / 1024 ≤ 3 := by omega
  generalize (b + 1023) / 1024 = q at hr e1 h5 ⊢
  go_enter Try.func13, Try.ntmps13
  go_wp2
  go_ret2
  exact ⟨rfl, rfl⟩
/-- May so many be taken? -/
def mayB (f r n : Int) (a : Bool) : Bool := decide (n < 1) || (decide (n ≤ f) && (a || decide (r ≤ f - n)))
set_option maxHeartbeats 1000000 in
theorem may_calls (f r n : Int) (a : Bool) (hf : f ≤ 9223372036854775807) (w : World) :
    Calls Try.prog 8 #[.int .i64 f, .int .i64 r, .int .i64 n, .bool a] w fun e w' => e = .returned (.bool (mayB f r n a)) ∧ w' = w := by
  by_cases h1 : n < 1
  · have hE : mayB f r n a = true := by unfold mayB; simp [h1]
    rw [hE]
    clear hE
    go_enter Try.func8, Try.ntmps8
    go_wp2
    go_ret
    exact ⟨rfl, rfl⟩
  by_cases h2 : n > f
  · have hE : mayB f r n a = false := by unfold mayB; rw [decide_eq_false h1, decide_eq_false (show ¬ n ≤ f by omega)]; rfl
    rw [hE]
    clear hE
    go_enter Try.func8, Try.ntmps8
    go_wp2
    go_ret
    exact ⟨rfl, rfl⟩
  cases a with
  | true =>
    have hE : mayB f r n true = true := by unfold mayB; rw [decide_eq_true (show n ≤ f by omega)]; simp
    rw [hE]
    clear hE
    go_enter Try.func8, Try.ntmps8
    go_wp2
    go_ret
    exact ⟨rfl, rfl⟩
  | false =>
    have hE : mayB f r n false = decide (r ≤ f - n) := by unfold mayB; rw [decide_eq_false h1, decide_eq_true (show n ≤ f by omega)]; simp
    rw [hE]
    clear hE
    obtain ⟨z, hz⟩ : ∃ z, f - n = z := ⟨_, rfl⟩
    have hz0 : 0 ≤ z ∧ z ≤ 9223372036854775807 := by omega
    rw [hz]
    by_cases h3 : r ≤ z
    · rw [decide_eq_true h3]
      go_enter Try.func8, Try.ntmps8
      go_wp2
      all_goals (go_ret; exact ⟨rfl, rfl⟩)
    · rw [decide_eq_false h3]
      go_enter Try.func8, Try.ntmps8
      go_wp2
      all_goals (go_ret; exact ⟨rfl, rfl⟩)
set_option maxHeartbeats 1000000 in
theorem refmay_calls (f r n : Int) (a : Bool) (hf : f ≤ 9223372036854775807) (w : World) :
    Calls Try.prog 18 #[.int .i64 f, .int .i64 r, .int .i64 n, .bool a] w fun e w' => e = .returned (.bool (mayB f r n a)) ∧ w' = w := by
  by_cases h1 : n < 1
  · have hE : mayB f r n a = true := by unfold mayB; simp [h1]
    rw [hE]
    clear hE
    go_enter Try.func18, Try.ntmps18
    go_wp2
    go_ret
    exact ⟨rfl, rfl⟩
  by_cases h2 : n > f
  · have hE : mayB f r n a = false := by unfold mayB; rw [decide_eq_false h1, decide_eq_false (show ¬ n ≤ f by omega)]; rfl
    rw [hE]
    clear hE
    go_enter Try.func18, Try.ntmps18
    go_wp2
    go_ret
    exact ⟨rfl, rfl⟩
  cases a with
  | true =>
    have hE : mayB f r n true = true := by unfold mayB; rw [decide_eq_true (show n ≤ f by omega)]; simp
    rw [hE]
    clear hE
    go_enter Try.func18, Try.ntmps18
    go_wp2
    go_ret
    exact ⟨rfl, rfl⟩
  | false =>
    have hE : mayB f r n false = decide (r ≤ f - n) := by unfold mayB; rw [decide_eq_false h1, decide_eq_true (show n ≤ f by omega)]; simp
    rw [hE]
    clear hE
    obtain ⟨z, hz⟩ : ∃ z, f - n = z := ⟨_, rfl⟩
    have hz0 : 0 ≤ z ∧ z ≤ 9223372036854775807 := by omega
    rw [hz]
    by_cases h3 : r ≤ z
    · rw [decide_eq_true h3]
      go_enter Try.func18, Try.ntmps18
      go_wp2
      all_goals (go_ret; exact ⟨rfl, rfl⟩)
    · rw [decide_eq_false h3]
      go_enter Try.func18, Try.ntmps18
      go_wp2
      all_goals (go_ret; exact ⟨rfl, rfl⟩)
end Go.Proofs.Ytaakidgnijdgpaa
