/- What layer 4's statements call awake: the document's own example holds. -/
import Derived.Test.YtkaippiblpedhaaGreatDoorJq1
namespace Go.Proofs.YtkaippiblpedhaaGreatDoor
open Go.RowKit Go.Extern.Stop Go.Stop Go.Extern
set_option maxRecDepth 100000

theorem good_one (N at_ own no : Nat) (zs : List Int) (h1 : no < N) (h2 : zs.length = 128) (h3 : ∀ z ∈ zs, 0 ≤ z ∧ z ≤ 255) (h4 : no < at_ ∨ at_ + own ≤ no) : Good N at_ own [(no, zs)] := by
  have e : ∀ k, k < ([(no, zs)] : Grp).length → k = 0 := fun k hk => by simpa using hk
  refine ⟨by simp, fun k hk => ?_, fun k hk => ?_, fun k hk => ?_, fun k hk => ?_, fun k j hk hj => ?_⟩
  · obtain rfl := e k hk; exact h1
  · obtain rfl := e k hk; exact h2
  · obtain rfl := e k hk; exact h3
  · obtain rfl := e k hk; exact h4
  · have := e k hk; omega
theorem idle_zero (at_ : Nat) : Idle at_ (fun _ => 0) := by
  show blockL (fun _ => 0) at_ = List.replicate 128 0
  apply List.ext_getElem?
  intro j
  by_cases hj : j < 128
  · rw [blockL_get _ _ _ hj, List.getElem?_replicate, if_pos hj]
  · rw [List.getElem?_eq_none (by rw [blockL_len]; omega), List.getElem?_replicate, if_neg hj]
end Go.Proofs.YtkaippiblpedhaaGreatDoor
