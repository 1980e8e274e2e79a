/- NameTells answers true, whatever it is given, and changes nothing that was there. -/
import Derived.Test.YthibelgeejgmeaaNa8
namespace Go.Proofs.Ythibelgeejgmeaa
open Go Go.RowKit
set_option maxRecDepth 100000

theorem beq_self (s : ByteArray) : (s.toList == s.toList) = true := by simp
set_option maxHeartbeats 8000000 in
theorem nameTells_calls (x y : List UInt8) (w : World) :
    Calls Try.prog 5 #[.string (mkB x), .string (mkB y)] w fun e w' => e = .returned (.bool true) ∧ Below w.heap.size w w' := by
  have kA := hidden (fun w => awake_calls w)
  by_cases b1 : (1000 : Int) < ((mkB x).size : Int)
  · go_enter Try.func5, Try.ntmps5
    go_wp2_with fail
    refine (kA.out w).mono ?_
    rintro e w1 ⟨rfl, hB⟩
    go_wp2
    go_ret
    exact ⟨rfl, hB⟩
  by_cases b2 : (1000 : Int) < ((mkB y).size : Int)
  · go_enter Try.func5, Try.ntmps5
    go_wp2_with fail
    refine (kA.out w).mono ?_
    rintro e w1 ⟨rfl, hB⟩
    go_wp2
    go_ret
    exact ⟨rfl, hB⟩
  have hx : x.length ≤ 1000 := by rw [mk_size] at b1; omega
  have hy : y.length ≤ 1000 := by rw [mk_size] at b2; omega
  have kS := hidden (fun w => split_calls x w (by omega))
  have kR := hidden (fun w => rsplit_calls x w hx)
  have kP := hidden (fun w => parent_calls x w (by omega))
  have kQ := hidden (fun w => rparent_calls x w hx)
  have kO := hidden (fun w => (by have h := ok_calls (mkB x) w; rw [mk_list] at h; exact h : Calls Try.prog 17 #[.string (mkB x)] w fun e w' => e = .returned (.bool (okB x)) ∧ w' = w))
  have kN := hidden (fun w => (by have h := nameOk_calls (mkB x) w; rw [mk_list] at h; exact h : Calls Try.prog 18 #[.string (mkB x)] w fun e w' => e = .returned (.bool (okB x)) ∧ w' = w))
  have kW := hidden (fun w => within_calls x y w (by omega) (by omega))
  have kV := hidden (fun w => rwithin_calls x y w hx hy)
  have kL := hidden (less_calls (mkB x) (mkB y))
  have hmm := hidden (may_all (names_may x)).1
  go_enter Try.func5, Try.ntmps5
  go_wp2_with fail
  refine (kS.out w).mono ?_
  rintro e w1 ⟨v1, rfl, ht1⟩
  go_wp2_with fail
  refine (kR.out w1).mono ?_
  rintro e w2 ⟨v2, rfl, ht2⟩
  clear kS kR
  have hB2 := hidden (ht1.2.trans (ht2.2.mono ht1.2.size))
  have hT1 := hidden ((told_at ht1).below ht2.2)
  have hT2 := hidden (told_at ht2)
  clear ht1 ht2
  go_wp2_with fail
  refine (kP.out w2).mono ?_
  rintro e w3 ⟨rfl, hB⟩
  have hB3 := hidden (hB2.out.trans (hB.mono hB2.out.size))
  have hT13 := hidden (hT1.out.below hB)
  have hT23 := hidden (hT2.out.below hB)
  clear kP hB hT1 hT2 hB2
  go_wp2_with fail
  refine (kQ.out w3).mono ?_
  rintro e w4 ⟨rfl, hB⟩
  have hB4 := hidden (hB3.out.trans (hB.mono hB3.out.size))
  have kE := hidden (same_calls _ _ _ _ w4 (hT13.out.below hB) (hT23.out.below hB) (by have := hmm.out; omega) (by have := hmm.out; omega))
  rw [show decide (namesB x = namesB x) = true by simp] at kE
  clear kQ hB hT13 hT23 hB3
  generalize (splitB x).isSome = is1
  generalize mkB (parD x) = pd
  generalize mkB (parN x) = pn
  generalize parO x = po
  go_wp2_with fail
  refine (kO.out w4).mono ?_
  rintro e w5 ⟨rfl, hw⟩
  subst w5
  go_wp2_with fail
  refine (kN.out w4).mono ?_
  rintro e w5 ⟨rfl, hw⟩
  subst w5
  clear kO kN
  generalize okB x = ok
  go_wp2_with fail
  refine kE.out.mono ?_
  rintro e w5 ⟨rfl, hB⟩
  have hB5 := hidden (hB4.out.trans (hB.mono hB4.out.size))
  clear kE hB hB4
  go_wp2_with fail
  refine (kW.out w5).mono ?_
  rintro e w6 ⟨rfl, hB⟩
  have hB6 := hidden (hB5.out.trans (hB.mono hB5.out.size))
  clear kW hB hB5
  go_wp2_with fail
  refine (kV.out w6).mono ?_
  rintro e w7 ⟨rfl, hB⟩
  have hB7 := hidden (hB6.out.trans (hB.mono hB6.out.size))
  clear kV hB hB6
  generalize withinB x y = wi
  go_wp2_with fail
  refine (kL.out w7).mono ?_
  rintro e w8 ⟨rfl, hw⟩
  subst w8
  go_wp2_with fail
  refine (kA.out w7).mono ?_
  rintro e w8 ⟨rfl, hB⟩
  have hB8 := hidden (hB7.out.trans (hB.mono hB7.out.size))
  clear kA hB hB7
  go_wp2
  go_ret
  exact ⟨rfl, hB8.out⟩
end Go.Proofs.Ythibelgeejgmeaa
