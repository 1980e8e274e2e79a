/- NamePaths answers true, whatever it is given, and changes nothing that was there. -/
import Derived.Test.YthibelgeejgmeaaNa8
namespace Go.Proofs.Ythibelgeejgmeaa
open Go Go.RowKit
set_option maxRecDepth 100000

theorem flat_count (l : List (List UInt8)) (h : ∀ x ∈ l, (47 : UInt8) ∉ x) : (flatB l).count 47 = l.length := by
  induction l with
  | nil => rfl
  | cons x l ih =>
    have e : flatB (x :: l) = 47 :: (x ++ flatB l) := by simp [flatB]
    rw [e, List.count_cons_self, List.count_append, List.count_eq_zero.2 (h x (by simp)), ih (fun y hy => h y (by simp [hy]))]
    simp
theorem split_length {s : List UInt8} {m : List (List UInt8)} (h : splitB s = some m) (hn : s ≠ [47]) : m.length = s.count 47 := by
  unfold splitB at h
  rw [if_neg hn] at h
  cases s with
  | nil => cases h
  | cons c r =>
    by_cases hc : c = 47
    · subst hc
      simp only [if_true] at h
      split at h
      · cases h; rw [strokes_count, List.count_cons_self]
      · cases h
    · simp only [hc, if_false] at h; cases h
theorem split_mid {l m : List (List UInt8)} (hm : mayB l = true) (hn : l ≠ []) (k : Nat) (h : splitB ((joinB l).take k ++ [47] ++ (joinB l).drop k) = some m) : m.length = l.length + 1 := by
  have hc : (joinB l).count 47 = l.length := by rw [joinB, if_neg hn]; exact flat_count l (fun x hx => ok_stroke ((may_all hm).2 x hx))
  have hc2 : ((joinB l).take k ++ [47] ++ (joinB l).drop k).count 47 = l.length + 1 := by
    have e : (joinB l).count 47 = ((joinB l).take k).count 47 + ((joinB l).drop k).count 47 := by rw [← List.count_append, List.take_append_drop]
    rw [List.count_append, List.count_append, ← hc, e]
    simp
    omega
  rw [split_length h ?_, hc2]
  intro he
  rw [he] at hc2
  have h0 := List.length_pos_iff.2 hn
  rw [show List.count (47 : UInt8) [47] = 1 from rfl] at hc2
  omega
theorem join_head {l : List (List UInt8)} (hm : mayB l = true) (hn : l ≠ []) : ∃ c r, (joinB l).drop 1 = c :: r ∧ c ≠ 47 := by
  cases l with
  | nil => exact absurd rfl hn
  | cons x l =>
    have hok := (may_all hm).2 x (by simp)
    have e : joinB (x :: l) = 47 :: (x ++ flatB l) := by simp [joinB, flatB]
    rw [e]
    cases x with
    | nil => exact absurd rfl (ok_ne hok)
    | cons c r => exact ⟨c, r ++ flatB l, rfl, fun h => ok_stroke hok (by simp [h])⟩
theorem split_tail {l : List (List UInt8)} (hm : mayB l = true) (hn : l ≠ []) : splitB ((joinB l).drop 1) = none := by
  obtain ⟨c, r, h, hc⟩ := join_head hm hn
  rw [h, splitB]
  have : ¬ (c :: r = [47]) := by intro e; cases e; exact hc rfl
  rw [if_neg this]
  simp only [hc, if_false]
theorem split_more {l : List (List UInt8)} (hm : mayB l = true) (hn : l ≠ []) : splitB (joinB l ++ [47]) = none := by
  cases l with
  | nil => exact absurd rfl hn
  | cons x l =>
    have hall := (may_all hm).2
    have e : joinB (x :: l) ++ [47] = 47 :: (x ++ flatB (l ++ [[]])) := by simp [joinB, flatB]
    rw [e]
    have hs := strokes_flat x (l ++ [[]]) (ok_stroke (hall x (by simp))) (fun y hy => by
      rcases List.mem_append.1 hy with hy | hy
      · exact ok_stroke (hall y (by simp [hy]))
      · simp at hy; rw [hy]; simp)
    have hx := ok_ne (hall x (by simp))
    have hb : mayB (x :: (l ++ [[]])) = false := by
      cases hq : mayB (x :: (l ++ [[]])) with
      | false => rfl
      | true => have := (may_all hq).2 [] (by simp); simp [okB] at this
    unfold splitB
    rw [if_neg (by simp [hx])]
    simp only [if_true, hs, hb]
    rfl
theorem ext_take (p : List UInt8) (k : Nat) : (mkB p).extract 0 k = mkB (p.take k) := by
  rw [← mk_back ((mkB p).extract 0 k), Lib.extract_eq]
  simp [mk_list]
theorem ext_drop (p : List UInt8) (k : Nat) : (mkB p).extract k (mkB p).size = mkB (p.drop k) := by
  rw [← mk_back ((mkB p).extract k (mkB p).size), Lib.extract_to_end, mk_list]
set_option maxHeartbeats 8000000 in
theorem namePaths_calls (v : Value) (l : List (List UInt8)) (z : Int) (w : World) (h : TxtsAt w v l) :
    Calls Try.prog 4 #[v, .int .i64 z] w fun e w' => e = .returned (.bool true) ∧ Below w.heap.size w w' := by
  have hh := hidden h
  obtain ⟨a, cap, rfl, hcap, hc⟩ := h
  clear hc hcap
  have kA := hidden (fun w => awake_calls w)
  by_cases b1 : (20 : Int) < (l.length : Int)
  · go_enter Try.func4, Try.ntmps4
    go_wp2_with fail
    refine (kA.out w).mono ?_
    rintro e w1 ⟨rfl, hB⟩
    go_wp2
    go_ret
    exact ⟨rfl, hB⟩
  have hl20 : l.length ≤ 20 := by omega
  have kJ := hidden (join_calls _ l w hh.out)
  go_enter Try.func4, Try.ntmps4
  go_wp2_with fail
  refine kJ.out.mono ?_
  rintro e w1 ⟨rfl, hB⟩
  have hB1 := hidden hB
  clear kJ hB b1 hh
  cases hm : mayB l
  · go_wp2_with fail
    refine (kA.out w1).mono ?_
    rintro e w2 ⟨rfl, hB2⟩
    go_wp2
    go_ret
    exact ⟨rfl, hB1.out.trans (hB2.mono hB1.out.size)⟩
  by_cases hn : l = []
  · subst hn
    have h0 : ((([] : List (List UInt8)).length : Nat) : Int) = 0 := rfl
    go_wp2_with fail
    refine (kA.out w1).mono ?_
    rintro e w2 ⟨rfl, hB2⟩
    go_wp2
    go_ret
    exact ⟨rfl, hB1.out.trans (hB2.mono hB1.out.size)⟩
  have h0 : 0 < l.length := List.length_pos_iff.2 hn
  have h6 := (may_all hm).1
  have hlen := join_len hm
  have hsz := mk_size (joinB l)
  have hpos : 0 < (joinB l).length := by obtain ⟨c, r, e, -⟩ := join_head hm hn; have := congrArg List.length e; simp at this; omega
  obtain ⟨f, g, hf, hf0, hf1, hg, hg0, hg1⟩ := and_rem z 65535 (((mkB (joinB l)).size : Int) + 1) (by omega) (by omega) (by omega)
  obtain ⟨K, rfl⟩ := Int.eq_ofNat_of_zero_le hg0
  have hK : K ≤ (mkB (joinB l)).size := by omega
  have hmid := hidden (fun m => split_mid (m := m) hm hn K)
  have hlS : ((joinB l).take K ++ [47] ++ (joinB l).drop K).length ≤ 1000 := by simp; omega
  have kS := hidden (fun w => split_calls ((joinB l).take K ++ [47] ++ (joinB l).drop K) w (by omega))
  have kR := hidden (fun w => rsplit_calls ((joinB l).take K ++ [47] ++ (joinB l).drop K) w hlS)
  have kT := hidden (fun w => split_calls ((joinB l).drop 1) w (by rw [List.length_drop]; omega))
  have kM := hidden (fun w => split_calls (joinB l ++ [47]) w (by simp; omega))
  rw [split_tail hm hn] at kT
  rw [split_more hm hn] at kM
  have hq : (mkB (joinB l)).extract 0 K ++ ⟨#[47]⟩ ++ (mkB (joinB l)).extract K (mkB (joinB l)).size = mkB ((joinB l).take K ++ [47] ++ (joinB l).drop K) := by
    rw [ext_take, ext_drop, mk_stroke, mk_append, mk_append]
  have hq1 : (mkB (joinB l)).extract 1 (mkB (joinB l)).size = mkB ((joinB l).drop 1) := ext_drop _ _
  have hq2 : mkB (joinB l) ++ ⟨#[47]⟩ = mkB (joinB l ++ [47]) := by rw [mk_stroke, mk_append]
  have s1 : ((mkB (joinB l)).extract 0 K).size ≤ 200 := by rw [ext_take, mk_size, List.length_take]; omega
  have s2 : ((mkB (joinB l)).extract K (mkB (joinB l)).size).size ≤ 200 := by rw [ext_drop, mk_size, List.length_drop]; omega
  replace hq := hidden hq
  replace hq1 := hidden hq1
  replace hq2 := hidden hq2
  rw [joinR_may hm]
  have hS6 := hidden (may_all (names_may ((joinB l).take K ++ [47] ++ (joinB l).drop K))).1
  have hKs : (K : Int) ≤ ((mkB (joinB l)).size : Int) := by omega
  have hsz1 : (1 : Int) ≤ ((mkB (joinB l)).size : Int) := by omega
  have hszl : (mkB (joinB l)).size ≤ 200 := by omega
  clear hm hn hlen hsz hpos hg0 hg1 hlS
  generalize (joinB l).take K ++ [47] ++ (joinB l).drop K = S at *
  generalize (joinB l).drop 1 = T1 at *
  generalize joinB l ++ [47] = M1 at *
  generalize joinB l = P at *
  go_wp2_with fail
  go_region
  go_wp2_with fail
  rw [hq.out]
  refine (kS.out _).mono ?_
  rintro e w2 ⟨v2, rfl, ht2⟩
  have hB2 := hidden ((hB1.out.drew).trans (ht2.2.mono (hB1.out.drew).size))
  clear kS hq hB1
  go_wp2_with fail
  refine (kR.out _).mono ?_
  rintro e w3 ⟨v3, rfl, ht3⟩
  have hB3 := hidden (hB2.out.trans (ht3.2.mono hB2.out.size))
  have hT2 := hidden ((told_at ht2).below ht3.2)
  have hT3 := hidden (told_at ht3)
  clear kR ht2 ht3 hB2
  go_wp2_with fail
  rw [hq1.out]
  refine (kT.out _).mono ?_
  rintro e w4 ⟨v4, rfl, ht4⟩
  have hB4 := hidden (hB3.out.trans (ht4.2.mono hB3.out.size))
  have hT24 := hidden (hT2.out.below ht4.2)
  have hT34 := hidden (hT3.out.below ht4.2)
  clear kT ht4 hT2 hT3 hB3 hq1
  go_wp2_with fail
  rw [hq2.out]
  refine (kM.out _).mono ?_
  rintro e w5 ⟨v5, rfl, ht5⟩
  have hB5 := hidden (hB4.out.trans (ht5.2.mono hB4.out.size))
  have hT25 := hidden (hT24.out.below ht5.2)
  have hT35 := hidden (hT34.out.below ht5.2)
  clear kM ht5 hT24 hT34 hB4 hq2
  have kE := hidden (same_calls _ _ _ _ w5 hT25.out hT35.out (by have := hS6.out; omega) (by have := hS6.out; omega))
  rw [show decide (namesB S = namesB S) = true by simp] at kE
  have hcs : (splitB S).isSome = false ∨ ((splitB S).isSome = true ∧ (namesB S).length = l.length + 1) := by
    cases hs : splitB S with
    | none => exact Or.inl rfl
    | some m => exact Or.inr ⟨rfl, by rw [namesB, hs]; exact hmid.out m hs⟩
  obtain ⟨a2, cap2, rfl, -, -⟩ := hT25.out
  clear hT25 hT35 hmid
  rcases hcs with his | ⟨his, hln⟩
  · rw [his]
    clear his
    generalize (namesB S).length = n2 at *
    go_wp2_with fail
    refine kE.out.mono ?_
    rintro e w6 ⟨rfl, hB⟩
    have hB6 := hidden (hB5.out.trans (hB.mono hB5.out.size))
    clear kE hB hB5
    go_wp2_with fail
    refine (kA.out w6).mono ?_
    rintro e w7 ⟨rfl, hB⟩
    have hB7 := hidden (hB6.out.trans (hB.mono hB6.out.size))
    clear hB
    go_wp2
    go_ret
    exact ⟨rfl, hB7.out⟩
  · rw [his]
    clear his
    generalize (namesB S).length = n2 at *
    subst hln
    go_wp2_with fail
    refine kE.out.mono ?_
    rintro e w6 ⟨rfl, hB⟩
    have hB6 := hidden (hB5.out.trans (hB.mono hB5.out.size))
    clear kE hB hB5
    go_wp2_with fail
    refine (kA.out w6).mono ?_
    rintro e w7 ⟨rfl, hB⟩
    have hB7 := hidden (hB6.out.trans (hB.mono hB6.out.size))
    clear hB
    go_wp2
    go_ret
    exact ⟨rfl, hB7.out⟩
end Go.Proofs.Ythibelgeejgmeaa
