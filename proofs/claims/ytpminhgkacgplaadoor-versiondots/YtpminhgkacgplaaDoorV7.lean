/- VersionOrders answers true, whatever it is given, and changes nothing that was there. -/
import Derived.Test.YtpminhgkacgplaaDoorV5
import Derived.Test.YtpminhgkacgplaaDoorV6
namespace Go.Proofs.YtpminhgkacgplaaDoor
open Go Go.RowKit
set_option maxRecDepth 100000

theorem size_big (x : List UInt8) (n : Nat) (h : n < x.length) : (n : Int) < ((mkB x).size : Int) := by rw [mk_size]; omega
theorem size_few (x : List UInt8) (n : Nat) (h : ¬ n < x.length) : ¬ (n : Int) < ((mkB x).size : Int) := by rw [mk_size]; omega
set_option maxHeartbeats 8000000 in
theorem versionOrders_calls (a b c : List UInt8) (w : World) : Calls Tryd.prog 6 #[.string (mkB a), .string (mkB b), .string (mkB c)] w fun e w' => e = .returned (.bool true) ∧ Below w.heap.size w w' := by
  have kA := hidden (fun w => awake_calls w)
  by_cases b1 : 200 < a.length
  · have s1 := size_big a 200 b1
    go_enter Tryd.func6, Tryd.ntmps6
    go_wp2_with fail
    refine (kA.out w).mono ?_
    rintro e w1 ⟨rfl, hB⟩
    go_wp2
    go_ret
    exact ⟨rfl, hB⟩
  have s1 := size_few a 200 b1
  by_cases b2 : 200 < b.length
  · have s2 := size_big b 200 b2
    go_enter Tryd.func6, Tryd.ntmps6
    go_wp2_with fail
    refine (kA.out w).mono ?_
    rintro e w1 ⟨rfl, hB⟩
    go_wp2
    go_ret
    exact ⟨rfl, hB⟩
  have s2 := size_few b 200 b2
  by_cases b3 : 200 < c.length
  · have s3 := size_big c 200 b3
    go_enter Tryd.func6, Tryd.ntmps6
    go_wp2_with fail
    refine (kA.out w).mono ?_
    rintro e w1 ⟨rfl, hB⟩
    go_wp2
    go_ret
    exact ⟨rfl, hB⟩
  have s3 := size_few c 200 b3
  have k1 := hidden (fun w => compare_calls a b w (by omega) (by omega))
  have k2 := hidden (fun w => compare_calls b c w (by omega) (by omega))
  have k3 := hidden (fun w => compare_calls a c w (by omega) (by omega))
  have k4 := hidden (fun w => compare_calls a a w (by omega) (by omega))
  have k5 := hidden (fun w => compare_calls b a w (by omega) (by omega))
  rw [cmpV_self] at k4
  rw [cmpV_anti a b] at k5
  have ho := order3 a b c
  have r1 := cmpV_rng a b
  have r2 := cmpV_rng b c
  have r3 := cmpV_rng a c
  generalize cmpV a b = x at *
  generalize cmpV b c = y at *
  generalize cmpV a c = z at *
  clear b1 b2 b3
  replace ho := hidden ho
  replace r1 := hidden r1
  replace r2 := hidden r2
  replace r3 := hidden r3
  go_enter Tryd.func6, Tryd.ntmps6
  go_wp2_with fail
  refine (k1.out _).mono ?_
  rintro e w1 ⟨rfl, hb1⟩
  replace hb1 := hidden hb1
  go_wp2_with fail
  refine (k2.out _).mono ?_
  rintro e w2 ⟨rfl, hb2⟩
  replace hb2 := hidden (hb1.out.trans (hb2.mono hb1.out.size))
  go_wp2_with fail
  refine (k3.out _).mono ?_
  rintro e w3 ⟨rfl, hb3⟩
  replace hb3 := hidden (hb2.out.trans (hb3.mono hb2.out.size))
  clear k1 k2 k3 hb1 hb2 s1 s2 s3
  have hcases : ∃ q : Int × Int × Int, q = (x, y, z) ∧ ((q = (1, 1, 1) ∨ q = (1, 1, 0) ∨ q = (-1, -1, 0) ∨ q = (1, 0, 1) ∨ q = (1, -1, -1) ∨ q = (1, -1, 0) ∨ q = (1, -1, 1) ∨ q = (0, -1, -1)) ∨ (q = (0, 0, 0) ∨ q = (0, 1, 1) ∨ q = (-1, -1, -1) ∨ q = (-1, 0, -1) ∨ q = (-1, 1, -1) ∨ q = (-1, 1, 0) ∨ q = (-1, 1, 1))) := by
    refine ⟨_, rfl, ?_⟩
    obtain ⟨o1, o2, o3, o4⟩ := ho.out
    replace r1 := r1.out
    replace r2 := r2.out
    replace r3 := r3.out
    clear ho k4 k5 hb3
    rcases r1 with rfl | rfl | rfl <;> rcases r2 with rfl | rfl | rfl <;> rcases r3 with rfl | rfl | rfl
    all_goals first
      | (exfalso; omega)
      | simp
  obtain ⟨q, hq, hc⟩ := hcases
  clear ho r1 r2 r3
  rcases hc with (rfl | rfl | rfl | rfl | rfl | rfl | rfl | rfl) | (rfl | rfl | rfl | rfl | rfl | rfl | rfl)
  all_goals
    simp only [Prod.mk.injEq] at hq
    obtain ⟨rfl, rfl, rfl⟩ := hq
    go_upto_region 4 with fail
    go_wp2_with fail
    refine (k4.out _).mono ?_
    rintro e w4 ⟨rfl, hb4⟩
    replace hb4 := hidden (hb3.out.trans (hb4.mono hb3.out.size))
    go_wp2_with fail
    refine (k5.out _).mono ?_
    rintro e w5 ⟨rfl, hb5⟩
    replace hb5 := hidden (hb4.out.trans (hb5.mono hb4.out.size))
    clear k4 k5 hb3 hb4
    go_upto_region 8 with fail
    go_wp2_with fail
    refine (kA.out _).mono ?_
    rintro e w6 ⟨rfl, hb6⟩
    have hb7 := hidden (hb5.out.trans (hb6.mono hb5.out.size))
    clear hb6
    go_wp2
    go_ret
    exact ⟨rfl, hb7.out⟩
end Go.Proofs.YtpminhgkacgplaaDoor
