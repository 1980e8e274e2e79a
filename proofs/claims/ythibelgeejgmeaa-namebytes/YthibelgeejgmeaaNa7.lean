/- What the document fixes of names: awake answers true. -/
import Derived.Test.YthibelgeejgmeaaNa5
namespace Go.Proofs.Ythibelgeejgmeaa
open Go Go.RowKit
set_option maxRecDepth 100000

theorem parD_aw : parD [47, 97, 47, 98, 46, 99, 111, 110, 102] = [47, 97] := by decide
theorem parN_aw : parN [47, 97, 47, 98, 46, 99, 111, 110, 102] = [98, 46, 99, 111, 110, 102] := by decide
theorem parO_aw : parO [47, 97, 47, 98, 46, 99, 111, 110, 102] = true := by decide
theorem ok1_aw : okB [97, 43, 51, 45, 49, 46, 99, 111, 110, 102] = true := by decide
theorem ok2_aw : okB [46, 46] = false := by decide
theorem ok3_aw : okB [97, 47, 98] = false := by decide
set_option maxHeartbeats 4000000 in
theorem awake_calls (w : World) : Calls Try.prog 9 #[] w fun e w' => e = .returned (.bool true) ∧ Below w.heap.size w w' := by
  have kP : Calls Try.prog 11 #[.string ⟨#[47, 97, 47, 98, 46, 99, 111, 110, 102]⟩] w fun e w' => e = .returned (.tuple #[.string ⟨#[47, 97]⟩, .string ⟨#[98, 46, 99, 111, 110, 102]⟩, .bool true]) ∧ Below w.heap.size w w' := by
    have h := parent_calls [47, 97, 47, 98, 46, 99, 111, 110, 102] w (by decide)
    rw [parD_aw, parN_aw, parO_aw] at h
    exact h
  have k1 : ∀ w, Calls Try.prog 17 #[.string ⟨#[97, 43, 51, 45, 49, 46, 99, 111, 110, 102]⟩] w fun e w' => e = .returned (.bool true) ∧ w' = w := fun w => by
    have h := ok_calls ⟨#[97, 43, 51, 45, 49, 46, 99, 111, 110, 102]⟩ w
    rw [ok1_aw] at h
    exact h
  have k2 : ∀ w, Calls Try.prog 17 #[.string ⟨#[46, 46]⟩] w fun e w' => e = .returned (.bool false) ∧ w' = w := fun w => by
    have h := ok_calls ⟨#[46, 46]⟩ w
    rw [ok2_aw] at h
    exact h
  have k3 : ∀ w, Calls Try.prog 17 #[.string ⟨#[97, 47, 98]⟩] w fun e w' => e = .returned (.bool false) ∧ w' = w := fun w => by
    have h := ok_calls ⟨#[97, 47, 98]⟩ w
    rw [ok3_aw] at h
    exact h
  replace kP := hidden kP
  replace k1 := hidden k1
  replace k2 := hidden k2
  replace k3 := hidden k3
  go_enter Try.func9, Try.ntmps9
  go_wp2_with fail
  refine kP.out.mono ?_
  rintro e w1 ⟨rfl, hB⟩
  replace hB := hidden hB
  go_wp2_with fail
  refine (k1.out w1).mono ?_
  rintro e w2 ⟨rfl, hw⟩
  subst w2
  go_wp2_with fail
  refine (k2.out w1).mono ?_
  rintro e w2 ⟨rfl, hw⟩
  subst w2
  go_wp2_with fail
  refine (k3.out w1).mono ?_
  rintro e w2 ⟨rfl, hw⟩
  subst w2
  go_wp2
  go_ret
  exact ⟨rfl, hB.out⟩
end Go.Proofs.Ythibelgeejgmeaa
