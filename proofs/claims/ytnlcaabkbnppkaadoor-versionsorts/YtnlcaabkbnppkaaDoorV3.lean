/- version's hold and Compare: as the tokens' lists have it. -/
import Derived.Test.YtnlcaabkbnppkaaDoorV2
namespace Go.Proofs.YtnlcaabkbnppkaaDoor
open Go Go.RowKit
set_option maxRecDepth 100000

theorem cmpI_zero (a b : Int) (h : Lib.compareInt a b = 0) : a = b := by
  unfold Lib.compareInt at h
  split at h
  · cases h
  · split at h
    · cases h
    · omega
theorem cmp_step (x y : List UInt8) : (holdB (nextB x).1 (nextB y).1 ≠ 0 ∨ (nextB x).1.1 = 1 → cmpV x y = holdB (nextB x).1 (nextB y).1) ∧ (holdB (nextB x).1 (nextB y).1 = 0 → (nextB x).1.1 ≠ 1 → cmpV x y = cmpV (nextB x).2 (nextB y).2 ∧ (nextB x).2.length < x.length ∧ (nextB y).2.length < y.length) := by
  have e1 : Lib.compareInt 1 1 = 0 := by decide
  rcases next_toks x with ⟨h1, h2, h3⟩ | ⟨h1, h2, h3⟩ <;> rcases next_toks y with ⟨k1, k2, k3⟩ | ⟨k1, k2, k3⟩
  · rw [h2, k2]
    refine ⟨fun _ => ?_, fun _ h => absurd rfl h⟩
    rw [cmpV, h3, k3]; rfl
  · have hh : holdB (nextB x).1 (nextB y).1 = Lib.compareInt 1 ((nextB y).1.1 : Int) := by
      rw [h2, holdB, if_pos (by show 1 ≠ _; omega)]; rfl
    refine ⟨fun _ => ?_, fun h h' => absurd h1 h'⟩
    rw [hh, cmpV, h3, k2, cmpL]
  · have hh : holdB (nextB x).1 (nextB y).1 = Lib.compareInt ((nextB x).1.1 : Int) 1 := by
      rw [k2, holdB, if_pos (by show _ ≠ 1; omega)]; rfl
    refine ⟨fun _ => ?_, fun h h' => ?_⟩
    · rw [hh, cmpV, h2, k3, cmpL]
    · rw [hh] at h; have := cmpI_zero _ _ h; omega
  · refine ⟨fun h => ?_, fun h _ => ⟨?_, h3, k3⟩⟩
    · rw [cmpV, h2, k2, cmpL]
      rcases h with h | h
      · rw [if_neg h]
      · exact absurd h h1
    · rw [cmpV, h2, k2, cmpL, if_pos h]; rfl
set_option maxHeartbeats 4000000 in
theorem hold_calls (p q : Tok) (w : World) : Calls Tryd.prog 15 #[tokV p, tokV q] w fun e w' => e = .returned (.int .i64 (holdB p q)) ∧ Below w.heap.size w w' := by
  obtain ⟨k, s⟩ := p
  obtain ⟨l, t⟩ := q
  unfold tokV
  have kI := hidden (fun (a b : Int) (w : World) => Tryd.cmp_Compare_int a b w)
  have kS := hidden (fun (w : World) => Tryd.strings_Compare (mkB s) (mkB t) w)
  rw [mk_list, mk_list] at kS
  have hz := mk_size s
  have hy := mk_size t
  have hB := hidden (fun (o o' : Obj) => ((Below.refl w.heap.size w).alloc (Nat.le_refl _) o).alloc (by simp) o')
  unfold holdB
  dsimp only
  by_cases h1 : (k : Int) = (l : Int)
  · rw [if_neg (by omega)]
    by_cases h2 : (k : Int) = 3
    · by_cases h3 : (s.length : Int) = (t.length : Int)
      · rw [if_neg (by omega)]
        go_enter Tryd.func15, Tryd.ntmps15
        go_wp2_with fail
        refine (kS.out _).mono ?_
        rintro e w1 ⟨rfl, rfl⟩
        go_wp2
        go_ret
        exact ⟨rfl, hB.out _ _⟩
      · rw [if_pos ⟨by omega, by omega⟩]
        go_enter Tryd.func15, Tryd.ntmps15
        go_wp2_with fail
        refine (kI.out _ _ _).mono ?_
        rintro e w1 ⟨rfl, rfl⟩
        go_wp2
        go_ret
        exact ⟨rfl, hB.out _ _⟩
    · rw [if_neg (by omega)]
      go_enter Tryd.func15, Tryd.ntmps15
      go_wp2_with fail
      refine (kS.out _).mono ?_
      rintro e w1 ⟨rfl, rfl⟩
      go_wp2
      go_ret
      exact ⟨rfl, hB.out _ _⟩
  · rw [if_pos (by omega)]
    go_enter Tryd.func15, Tryd.ntmps15
    go_wp2_with fail
    refine (kI.out _ _ _).mono ?_
    rintro e w1 ⟨rfl, rfl⟩
    go_wp2
    go_ret
    exact ⟨rfl, hB.out _ _⟩
end Go.Proofs.YtnlcaabkbnppkaaDoor
