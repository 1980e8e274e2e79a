/- What the document fixes of layer 6 (awake): true. -/
import Derived.Test.YtaakidgnijdgpaaBv
namespace Go.Proofs.Ytaakidgnijdgpaa
open Go.RowKit
set_option maxRecDepth 100000

theorem lay256 : layOk 256 40 := by unfold layOk dat; omega
set_option maxHeartbeats 1000000 in
theorem awake_calls (w : World) :
    Calls Try.prog 9 #[] w fun e w' => e = .returned (.bool true) ∧ w' = w := by
  have c1 := hidden (layout_ok 256 40 lay256)
  rw [show dat 256 40 = 119 by decide] at c1
  have c2 := hidden (blocks_calls 1025)
  rw [show blk 1025 = 10 by decide] at c2
  have c3 := hidden (blocks_calls 0)
  rw [show blk 0 = 0 by decide] at c3
  have c4 := hidden (blocks_calls 1024)
  rw [show blk 1024 = 8 by decide] at c4
  have c5 := hidden (may_calls 5 2 3 false (by decide))
  rw [show mayB 5 2 3 false = true by decide] at c5
  have c6 := hidden (may_calls 5 2 4 false (by decide))
  rw [show mayB 5 2 4 false = false by decide] at c6
  have c7 := hidden (may_calls 5 2 5 true (by decide))
  rw [show mayB 5 2 5 true = true by decide] at c7
  go_enter Try.func9, Try.ntmps9
  go_wp2_with fail
  refine (c1.out _).mono ?_
  rintro ev w1 ⟨rfl, rfl⟩
  go_wp2_with fail
  refine (c2.out _).mono ?_
  rintro ev w1 ⟨rfl, rfl⟩
  go_wp2_with fail
  refine (c3.out _).mono ?_
  rintro ev w1 ⟨rfl, rfl⟩
  go_wp2_with fail
  refine (c4.out _).mono ?_
  rintro ev w1 ⟨rfl, rfl⟩
  go_wp2_with fail
  refine (c5.out _).mono ?_
  rintro ev w1 ⟨rfl, rfl⟩
  go_wp2_with fail
  refine (c6.out _).mono ?_
  rintro ev w1 ⟨rfl, rfl⟩
  go_wp2_with fail
  refine (c7.out _).mono ?_
  rintro ev w1 ⟨rfl, rfl⟩
  go_wp2
  go_ret
  exact ⟨rfl, rfl⟩
end Go.Proofs.Ytaakidgnijdgpaa
