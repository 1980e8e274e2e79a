/- The document's own class and Tokens. -/
import Derived.Test.YtnlcaabkbnppkaaDoorV9
namespace Go.Proofs.YtnlcaabkbnppkaaDoor
open Go Go.RowKit
set_option maxRecDepth 100000

def letB (z : Int) : Bool := (decide (97 ≤ z) && decide (z ≤ 122)) || (decide (65 ≤ z) && decide (z ≤ 90)) || (decide (48 ≤ z) && decide (z ≤ 57))
set_option maxHeartbeats 4000000 in
theorem letter_calls (c : UInt8) (w : World) : Calls Tryd.prog 37 #[.int .u8 (c.toNat : Int)] w fun e w' => e = .returned (.bool (letB (c.toNat : Int))) ∧ w' = w := by
  unfold letB
  generalize (c.toNat : Int) = z
  by_cases a1 : (97 : Int) ≤ z <;> by_cases a2 : z ≤ 122 <;> by_cases b1 : (65 : Int) ≤ z <;> by_cases b2 : z ≤ 90 <;> by_cases c1 : (48 : Int) ≤ z <;> by_cases c2 : z ≤ 57
  all_goals first
    | (exfalso; omega)
    | (simp only [a1, a2, b1, b2, c1, c2, decide_true, decide_false, Bool.and_true, Bool.and_false, Bool.or_true, Bool.or_false]
       go_enter Tryd.func37, Tryd.ntmps37
       go_wp2
       go_ret
       exact ⟨rfl, rfl⟩)
def rclZ (c : UInt8) : Int := if clsB c = 1 then -1 else (clsB c : Int)
def rclI (z : Int) : Int := if 48 ≤ z ∧ z ≤ 57 then 3 else if z = 126 then 0 else if letB z = true then 2 else -1
theorem rclZ_of (c : UInt8) : rclZ c = rclI (c.toNat : Int) := by
  have h := clsZ_of c
  unfold rclZ rclI
  have e : ∀ (a b : Int), clsB c = 1 ↔ ((clsB c : Nat) : Int) = 1 := fun _ _ => by omega
  simp only [e 0 0, h]
  unfold clsZ letB
  generalize (c.toNat : Int) = z
  by_cases a1 : (97 : Int) ≤ z <;> by_cases a2 : z ≤ 122 <;> by_cases b1 : (65 : Int) ≤ z <;> by_cases b2 : z ≤ 90 <;> by_cases c1 : (48 : Int) ≤ z <;> by_cases c2 : z ≤ 57 <;> by_cases d1 : z = 126
  all_goals first
    | (exfalso; omega)
    | (simp only [a1, a2, b1, b2, c1, c2, d1]; rfl)
    | simp [a1, a2, b1, b2, c1, c2, d1]
set_option maxHeartbeats 4000000 in
theorem rclass_calls (c : UInt8) (w : World) : Calls Tryd.prog 29 #[.int .u8 (c.toNat : Int)] w fun e w' => e = .returned (.int .i64 (rclZ c)) ∧ w' = w := by
  have kL := hidden (letter_calls c w)
  rw [rclZ_of]
  unfold rclI
  generalize hb : letB (c.toNat : Int) = b at *
  generalize (c.toNat : Int) = z at *
  clear hb
  by_cases c1 : (48 : Int) ≤ z <;> by_cases c2 : z ≤ 57 <;> by_cases d1 : z = 126 <;> cases b
  all_goals first
    | (exfalso; omega)
    | (simp [c1, c2, d1]
       go_enter Tryd.func29, Tryd.ntmps29
       go_wp2_with fail
       refine kL.out.mono ?_
       rintro e w1 ⟨rfl, rfl⟩
       go_wp2
       go_ret
       exact ⟨rfl, rfl⟩)
    | (simp [c1, c2, d1]
       go_enter Tryd.func29, Tryd.ntmps29
       go_wp2
       go_ret
       exact ⟨rfl, rfl⟩)
end Go.Proofs.YtnlcaabkbnppkaaDoor
