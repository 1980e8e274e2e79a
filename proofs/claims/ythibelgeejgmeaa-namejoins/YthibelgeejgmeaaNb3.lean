/- NameJoins answers true, whatever it is given, and changes nothing that was there. -/
import Derived.Test.YthibelgeejgmeaaNa8
namespace Go.Proofs.Ythibelgeejgmeaa
open Go Go.RowKit
set_option maxRecDepth 100000

set_option maxHeartbeats 8000000 in
theorem nameJoins_calls (v : Value) (l : List (List UInt8)) (y : List UInt8) (w : World) (h : TxtsAt w v l) :
    Calls Try.prog 6 #[v, .string (mkB y)] w fun e w' => e = .returned (.bool true) ∧ Below w.heap.size w w' := by
  have hh := hidden h
  obtain ⟨a, cap, rfl, hcap, hc⟩ := h
  clear hc hcap
  have kA := hidden (fun w => awake_calls w)
  by_cases b1 : (20 : Int) < (l.length : Int)
  · go_enter Try.func6, Try.ntmps6
    go_wp2_with fail
    refine (kA.out w).mono ?_
    rintro e w1 ⟨rfl, hB⟩
    go_wp2
    go_ret
    exact ⟨rfl, hB⟩
  by_cases b2 : (1000 : Int) < ((mkB y).size : Int)
  · go_enter Try.func6, Try.ntmps6
    go_wp2_with fail
    refine (kA.out w).mono ?_
    rintro e w1 ⟨rfl, hB⟩
    go_wp2
    go_ret
    exact ⟨rfl, hB⟩
  have hl20 : l.length ≤ 20 := by omega
  have hy : y.length ≤ 1000 := by rw [mk_size] at b2; omega
  have kJ := hidden (join_calls _ l w hh.out)
  have kS := hidden (fun w => split_calls y w (by omega))
  go_enter Try.func6, Try.ntmps6
  go_wp2_with fail
  refine kJ.out.mono ?_
  rintro e w1 ⟨rfl, hB⟩
  have hB1 := hidden hB
  have hT1 := hidden (hh.out.below hB)
  clear kJ hB b1 b2
  have kR := hidden (rjoin_calls _ l w1 hT1.out)
  go_wp2_with fail
  refine kR.out.mono ?_
  rintro e w2 ⟨rfl, hw⟩
  subst w2
  clear kR
  cases hm : mayB l
  · clear hT1 hh
    go_wp2_with fail
    refine (kS.out w1).mono ?_
    rintro e w5 ⟨v5, rfl, ht⟩
    have hB5 := hidden (hB1.out.trans (ht.2.mono hB1.out.size))
    have hT5 := hidden (told_at ht)
    clear ht
    cases hsp : splitB y with
    | none =>
      clear hT5
      go_wp2_with fail
      refine (kA.out w5).mono ?_
      rintro e w6 ⟨rfl, hB⟩
      have hB6 := hidden (hB5.out.trans (hB.mono hB5.out.size))
      clear hB
      go_wp2
      go_ret
      exact ⟨rfl, hB6.out⟩
    | some m =>
      have hn : namesB y = m := by rw [namesB, hsp]; rfl
      have hmm := split_may hsp
      have hjj := join_split hsp
      rw [hn] at hT5
      have kJ2 := hidden (join_calls _ m w5 hT5.out)
      rw [joinR_may hmm, hmm, hjj] at kJ2
      clear hT5 hn hmm hjj hsp
      go_wp2_with fail
      refine kJ2.out.mono ?_
      rintro e w6 ⟨rfl, hB⟩
      have hB6 := hidden (hB5.out.trans (hB.mono hB5.out.size))
      clear hB kJ2
      go_wp2_with fail
      refine (kA.out w6).mono ?_
      rintro e w7 ⟨rfl, hB⟩
      have hB7 := hidden (hB6.out.trans (hB.mono hB6.out.size))
      clear hB
      go_wp2
      go_ret
      exact ⟨rfl, hB7.out⟩
  · have kS1 := hidden (split_calls (joinB l) w1 (Nat.le_trans (join_len hm) (by omega)))
    have hnj := hidden (names_join hm)
    rw [split_join hm] at kS1
    rw [joinR_may hm]
    clear hm
    go_wp2_with fail
    refine kS1.out.mono ?_
    rintro e w3 ⟨v3, rfl, ht⟩
    have hB3 := hidden (hB1.out.trans (ht.2.mono hB1.out.size))
    have hT3 := hidden (told_at ht)
    rw [hnj.out] at hT3
    have kE := hidden (same_calls _ _ _ _ w3 hT3.out (hT1.out.below ht.2) (by omega) (by omega))
    rw [show decide (l = l) = true by simp] at kE
    clear ht kS1 hT3 hT1 hnj
    go_wp2_with fail
    refine kE.out.mono ?_
    rintro e w4 ⟨rfl, hB⟩
    have hB4 := hidden (hB3.out.trans (hB.mono hB3.out.size))
    clear hB kE hB3
    go_wp2_with fail
    refine (kS.out w4).mono ?_
    rintro e w5 ⟨v5, rfl, ht⟩
    have hB5 := hidden (hB4.out.trans (ht.2.mono hB4.out.size))
    have hT5 := hidden (told_at ht)
    clear ht
    cases hsp : splitB y with
    | none =>
      clear hT5
      go_wp2_with fail
      refine (kA.out w5).mono ?_
      rintro e w6 ⟨rfl, hB⟩
      have hB6 := hidden (hB5.out.trans (hB.mono hB5.out.size))
      clear hB
      go_wp2
      go_ret
      exact ⟨rfl, hB6.out⟩
    | some m =>
      have hn : namesB y = m := by rw [namesB, hsp]; rfl
      have hmm := split_may hsp
      have hjj := join_split hsp
      rw [hn] at hT5
      have kJ2 := hidden (join_calls _ m w5 hT5.out)
      rw [joinR_may hmm, hmm, hjj] at kJ2
      clear hT5 hn hmm hjj hsp
      go_wp2_with fail
      refine kJ2.out.mono ?_
      rintro e w6 ⟨rfl, hB⟩
      have hB6 := hidden (hB5.out.trans (hB.mono hB5.out.size))
      clear hB kJ2
      go_wp2_with fail
      refine (kA.out w6).mono ?_
      rintro e w7 ⟨rfl, hB⟩
      have hB7 := hidden (hB6.out.trans (hB.mono hB6.out.size))
      clear hB
      go_wp2
      go_ret
      exact ⟨rfl, hB7.out⟩
end Go.Proofs.Ythibelgeejgmeaa
