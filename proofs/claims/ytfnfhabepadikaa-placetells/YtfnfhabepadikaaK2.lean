/- up, held, empty, wrong, Ok; credenzaref14's up and RangesOk. -/
import Derived.Test.YtfnfhabepadikaaK1
namespace Go.Proofs.Ytfnfhabepadikaa
open Go Go.RowKit
set_option maxRecDepth 100000

def rv (a : Rg) : Value := .agg #[.int .i64 a.1, .int .i64 a.2]
theorem up_calls (n : Int) (h0 : 0 ≤ n) (h1 : n ≤ 1099511627776) (w : World) : Calls Try.prog 24 #[.int .i64 n] w fun e w' => e = .returned (.int .i64 (upZ n)) ∧ w' = w := by
  have e1 : (n + 15).tdiv 16 = (n + 15) / 16 := Int.tdiv_eq_ediv_of_nonneg (by omega)
  have hr : 0 ≤ (n + 15) / 16 ∧ (n + 15) / 16 ≤ 1099511627776 := by omega
  have e2 : n + 16 - 1 = n + 15 := by omega
  unfold upZ
  generalize (n + 15) / 16 = q at e1 hr ⊢
  go_enter Try.func24, Try.ntmps24
  go_wp2
  go_ret
  exact ⟨rfl, rfl⟩
theorem held_calls (n : Int) (w : World) : Calls Try.prog 25 #[.int .i64 n] w fun e w' => e = .returned (.int .i64 (max n 1)) ∧ w' = w := by
  by_cases h : 1 ≤ n
  · rw [show max n 1 = n by omega]
    go_enter Try.func25, Try.ntmps25
    go_wp2
    go_ret
    exact ⟨rfl, rfl⟩
  · rw [show max n 1 = 1 by omega]
    go_enter Try.func25, Try.ntmps25
    go_wp2
    go_ret
    exact ⟨rfl, rfl⟩
theorem empty_calls (a : Rg) (w : World) : Calls Try.prog 33 #[rv a] w fun e w' => e = .returned (.bool (decide (a.2 ≤ a.1))) ∧ Below w.heap.size w w' := by
  obtain ⟨x, y⟩ := a
  unfold rv
  go_enter Try.func33, Try.ntmps33
  go_wp2
  go_ret
  exact ⟨rfl, (Below.refl _ _).alloc (Nat.le_refl _) _⟩
def OkR (a : Rg) : Prop := 0 ≤ a.1 ∧ a.1 ≤ a.2 ∧ a.2 ≤ 1073741824
theorem wrong_yes (x y : Int) (w : World) (h : x < 0 ∨ y < x ∨ 1073741824 < y) : Calls Try.prog 28 #[.agg #[.int .i64 x, .int .i64 y]] w fun e w' => e = .returned (.bool true) ∧ Below w.heap.size w w' := by
  by_cases h1 : x < 0
  · go_enter Try.func28, Try.ntmps28
    go_wp2
    go_ret
    exact ⟨rfl, (Below.refl _ _).alloc (Nat.le_refl _) _⟩
  by_cases h2 : y < x
  · go_enter Try.func28, Try.ntmps28
    go_wp2
    go_ret
    exact ⟨rfl, (Below.refl _ _).alloc (Nat.le_refl _) _⟩
  have h3 : 1073741824 < y := by omega
  clear h
  go_enter Try.func28, Try.ntmps28
  go_wp2
  go_ret
  exact ⟨rfl, (Below.refl _ _).alloc (Nat.le_refl _) _⟩
theorem wrong_no (x y : Int) (w : World) (h1 : ¬ x < 0) (h2 : ¬ y < x) (h3 : ¬ 1073741824 < y) : Calls Try.prog 28 #[.agg #[.int .i64 x, .int .i64 y]] w fun e w' => e = .returned (.bool false) ∧ Below w.heap.size w w' := by
  go_enter Try.func28, Try.ntmps28
  go_wp2
  go_ret
  exact ⟨rfl, (Below.refl _ _).alloc (Nat.le_refl _) _⟩
theorem wrong_calls (a : Rg) (w : World) : Calls Try.prog 28 #[rv a] w fun e w' => (∃ b : Bool, e = .returned (.bool b) ∧ (b = true ↔ ¬ OkR a)) ∧ Below w.heap.size w w' := by
  obtain ⟨x, y⟩ := a
  by_cases h : x < 0 ∨ y < x ∨ 1073741824 < y
  · exact (wrong_yes x y w h).mono fun e w' ⟨he, hB⟩ => ⟨⟨true, he, by unfold OkR; simp; omega⟩, hB⟩
  · exact (wrong_no x y w (by omega) (by omega) (by omega)).mono fun e w' ⟨he, hB⟩ => ⟨⟨false, he, by unfold OkR; simp; omega⟩, hB⟩
end Go.Proofs.Ytfnfhabepadikaa
