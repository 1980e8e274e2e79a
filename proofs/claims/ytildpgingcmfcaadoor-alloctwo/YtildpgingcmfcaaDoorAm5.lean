/- alloc's New and Take. -/
import Derived.Test.YtildpgingcmfcaaDoorAm3
import Derived.Test.YtildpgingcmfcaaDoorAm4
namespace Go.Proofs.YtildpgingcmfcaaDoor
open Go.RowKit Go.Extern.Stop Go.Stop Go.Extern Go.Shelf
set_option maxRecDepth 100000

theorem anew_any (cb : Nat) (A F K : Int) (h : ((1 ≤ K ∧ K ≤ 2048) ∧ 0 ≤ A) ∧ 0 ≤ F) (hF : F ≤ 9223372036854775807) (w : World) :
    Calls Tryd.prog 8 #[ptr cb, .int .i64 A, .int .i64 F, .int .i64 K] w fun e w' => e = .returned (.tuple #[ptr w.heap.size, .nilIface]) ∧ w' = w.alloc (.cells #[ptr cb, .int .i64 A, .int .i64 F, .int .i64 (min (K - 1) (9223372036854775807 - F) + 1)] 54) := by
  obtain ⟨⟨⟨a1, a2⟩, a3⟩, a4⟩ := h
  go_enter Tryd.func8, Tryd.ntmps8
  go_wp2
  go_ret2
  exact ⟨rfl, rfl⟩
theorem anew_calls (cb ma fr k : Nat) (h1 : 1 ≤ k) (h2 : k ≤ 2048) (ht : fr + k ≤ 9223372036854775807) (w : World) :
    Calls Tryd.prog 8 #[ptr cb, .int .i64 ma, .int .i64 fr, .int .i64 k] w fun e w' => e = .returned (.tuple #[ptr w.heap.size, .nilIface]) ∧ MpAt w.heap.size cb ma fr k w' ∧ Below w.heap.size w w' := by
  refine (anew_any cb ma fr k (by omega) (by omega) w).mono ?_
  rintro e w' ⟨rfl, rfl⟩
  rw [show min ((k : Int) - 1) (9223372036854775807 - fr) + 1 = k by omega]
  exact ⟨rfl, ⟨by simp, by simp, by simp, by simp⟩, (Below.refl _ _).alloc (Nat.le_refl _) _⟩
theorem anew_bad (cb : Nat) (A F K : Int) (h : ¬ (((1 ≤ K ∧ K ≤ 2048) ∧ 0 ≤ A) ∧ 0 ≤ F)) (w : World) :
    Calls Tryd.prog 8 #[ptr cb, .int .i64 A, .int .i64 F, .int .i64 K] w fun e w' => ∃ b, e = .returned (.tuple #[.pointer none, flt b]) ∧ Chain w' [(sAlloc, sNone)] (num 1) (flt b) ∧ Below w.heap.size w w' := by
  have hW := hidden (awrong_some sNone w [] (num 1) _ _ rfl)
  have h' : (decide (K < 1) || decide (2048 < K) || decide (A < 0) || decide (F < 0)) = true := by
    simp only [Bool.or_eq_true, decide_eq_true_eq]
    omega
  go_enter Tryd.func8, Tryd.ntmps8
  go_wp2_with (go_at_call 18; refine (hW.out).mono ?_; rintro ev w1 ⟨b, rfl, hc, hb, hB⟩; have hE := hidden (And.intro hc hB); clear hc hB)
  all_goals (go_ret2; exact ⟨_, rfl, hE.out⟩)
theorem anew_nil (w : World) :
    Calls Tryd.prog 8 #[.pointer none, .int .i64 0, .int .i64 0, .int .i64 5] w fun e w' => ∃ b, e = .returned (.tuple #[.pointer none, flt b]) ∧ Chain w' [(sAlloc, sNone)] (num 1) (flt b) ∧ Below w.heap.size w w' := by
  have hW := hidden (awrong_some sNone w [] (num 1) _ _ rfl)
  go_enter Tryd.func8, Tryd.ntmps8
  go_wp2_with (go_at_call 18; refine (hW.out).mono ?_; rintro ev w1 ⟨b, rfl, hc, hb, hB⟩; have hE := hidden (And.intro hc hB); clear hc hB)
  all_goals (go_ret2; exact ⟨_, rfl, hE.out⟩)
end Go.Proofs.YtildpgingcmfcaaDoor
