/- NameWithin answers true, whatever it is given, and changes nothing that was there. -/
import Derived.Test.YthibelgeejgmeabNb0
namespace Go.Proofs.Ythibelgeejgmeab
open Go Go.RowKit
set_option maxRecDepth 100000

theorem within_join {l m : List (List UInt8)} (h : mayB l = true) (h2 : mayB m = true) : withinB (joinB l) (joinB m) = (decide (m.length ≤ l.length) && decide (l.take m.length = m)) := by
  rw [within_def, names_join h, names_join h2, split_join h, split_join h2]; rfl
theorem wi_qr (l : List (List UInt8)) (a b : Nat) (h : mayB l = true) (hab : a ≤ b) : withinB (joinB (l.take b)) (joinB (l.take a)) = true := by
  rw [within_join (may_take h b) (may_take h a), List.length_take, List.length_take]
  rw [show decide (min a l.length ≤ min b l.length) = true by simp; omega]
  rw [List.take_take]
  have e : l.take (min (min a l.length) b) = l.take a := by
    by_cases ha : a ≤ l.length
    · rw [show min (min a l.length) b = a by omega]
    · rw [show min (min a l.length) b = l.length by omega, List.take_length, List.take_of_length_le (by omega)]
  rw [e]; simp
theorem wi_pq (l : List (List UInt8)) (b : Nat) (h : mayB l = true) : withinB (joinB l) (joinB (l.take b)) = true := by
  by_cases hb : b ≤ l.length
  · have := wi_qr l b l.length h hb
    rwa [List.take_length] at this
  · have := wi_qr l l.length l.length h (Nat.le_refl _)
    rw [List.take_length] at this
    rw [List.take_of_length_le (by omega)]; exact this
theorem wi_self (l : List (List UInt8)) (h : mayB l = true) : withinB (joinB l) (joinB l) = true := by
  have := wi_qr l l.length l.length h (Nat.le_refl _)
  rwa [List.take_length] at this
theorem wi_root (l : List (List UInt8)) (h : mayB l = true) : withinB (joinB l) [47] = true := by
  have := wi_pq l 0 h
  exact this
theorem wi_rq (l : List (List UInt8)) (a b : Nat) (h : mayB l = true) (hab : a ≤ b) (hb : b ≤ l.length) : withinB (joinB (l.take a)) (joinB (l.take b)) = decide ((a : Int) = (b : Int)) := by
  rw [within_join (may_take h a) (may_take h b), List.length_take, List.length_take]
  by_cases e : a = b
  · subst e
    rw [List.take_of_length_le (by rw [List.length_take]; omega)]
    simp
  · rw [show decide (min b l.length ≤ min a l.length) = false by simp; omega]
    have : ¬ (a : Int) = (b : Int) := by omega
    simp [this]
set_option maxHeartbeats 8000000 in
theorem nameWithin_calls (v : Value) (l : List (List UInt8)) (za zb : Int) (w : World) (h : TxtsAt w v l) :
    Calls Try.prog 3 #[v, .int .i64 za, .int .i64 zb] w fun e w' => e = .returned (.bool true) ∧ Below w.heap.size w w' := by
  have hh := hidden h
  obtain ⟨a, cap, rfl, hcap, hc⟩ := h
  clear hc
  have kA := hidden (fun w => awake_calls w)
  by_cases b1 : (10 : Int) < (l.length : Int)
  · go_enter Try.func3, Try.ntmps3
    go_wp2_with fail
    refine (kA.out w).mono ?_
    rintro e w1 ⟨rfl, hB⟩
    go_wp2
    go_ret
    exact ⟨rfl, hB⟩
  have hl20 : l.length ≤ 10 := by omega
  have kJ := hidden (join_calls _ l w hh.out)
  go_enter Try.func3, Try.ntmps3
  go_wp2_with fail
  refine kJ.out.mono ?_
  rintro e w0 ⟨rfl, hB⟩
  have hB0 := hidden hB
  have hT0 := hidden (hh.out.below hB)
  clear kJ hB b1 hh
  cases hm : mayB l
  · go_wp2_with fail
    refine (kA.out w0).mono ?_
    rintro e w2 ⟨rfl, hB2⟩
    go_wp2
    go_ret
    exact ⟨rfl, hB0.out.trans (hB2.mono hB0.out.size)⟩
  rw [joinR_may hm]
  replace hm := hidden hm
  obtain ⟨f, g, hf, hf0, hf1, hg, hg0, hg1⟩ := and_rem za 255 ((l.length : Int) + 1) (by omega) (by omega) (by omega)
  obtain ⟨f2, g2, hf2, hf20, hf21, hg2, hg20, hg21⟩ := and_rem zb 255 ((l.length : Int) + 1) (by omega) (by omega) (by omega)
  obtain ⟨K, rfl⟩ := Int.eq_ofNat_of_zero_le hg0
  obtain ⟨K2, rfl⟩ := Int.eq_ofNat_of_zero_le hg20
  have w1e : w0.drew = w0.drew := rfl
  have hT1 : Hid (TxtsAt w0.drew (.slice a l.length cap) l) := hidden (hT0.out.below (Below.refl _ _).drew)
  have hB1 : Hid (Below w.heap.size w w0.drew) := hidden (hB0.out.drew)
  clear hT0 hB0 w1e
  by_cases hgt : (K2 : Int) < (K : Int)
  · have hle : K2 ≤ K := by omega
    have hKl : K ≤ l.length := by omega
    clear hg0 hg20 hg1 hg21
    go_wp2_with fail
    go_region
    generalize w0.drew = w1 at *
    have hTB := hidden (hT1.out.take K (by omega))
    have hTA := hidden (hT1.out.take K2 (by omega))
    have kB := hidden (join_calls _ _ w1 hTB.out)
    rw [joinR_may (may_take hm.out K), may_take hm.out K] at kB
    have hBk : (K : Int) ≤ (cap : Int) := by omega
    have hAk : (K2 : Int) ≤ (cap : Int) := by omega
    have e1 := wi_pq l K hm.out
    have e2 := wi_qr l K2 K hm.out (by omega)
    have e3 := wi_pq l K2 hm.out
    have e4 := wi_root l hm.out
    have e5 := wi_self l hm.out
    have e6 := wi_rq l K2 K hm.out (by omega) (by omega)
    have kAA := hidden (fun w hT => join_calls (.slice a K2 cap) (l.take K2) w hT)
    rw [joinR_may (may_take hm.out K2), may_take hm.out K2] at kAA
    have n1 := hidden (Nat.le_trans (join_len hm.out) (show 168 ≤ 2000 by omega))
    have n2 := hidden (Nat.le_trans (join_len (may_take hm.out K)) (show 168 ≤ 2000 by omega))
    have n3 := hidden (Nat.le_trans (join_len (may_take hm.out K2)) (show 168 ≤ 2000 by omega))
    have k1 := hidden (fun w => within_calls (joinB l) (joinB (l.take K)) w n1.out n2.out)
    have k2 := hidden (fun w => within_calls (joinB (l.take K)) (joinB (l.take K2)) w n2.out n3.out)
    have k3 := hidden (fun w => within_calls (joinB l) (joinB (l.take K2)) w n1.out n3.out)
    have k4 := hidden (fun w => within_calls (joinB l) [47] w n1.out (by simp))
    have k5 := hidden (fun w => within_calls (joinB l) (joinB l) w n1.out n1.out)
    have k6 := hidden (fun w => within_calls (joinB (l.take K2)) (joinB (l.take K)) w n3.out n2.out)
    rw [e1] at k1
    rw [e2] at k2
    rw [e3] at k3
    rw [e4] at k4
    rw [e5] at k5
    rw [e6] at k6
    rw [show mkB [47] = ⟨#[47]⟩ from rfl] at k4
    clear e1 e2 e3 e4 e5 e6 n1 n2 n3
    generalize joinB l = P at *
    generalize joinB (l.take K2) = R at *
    generalize joinB (l.take K) = Q1 at *
    go_wp2_with fail
    refine kB.out.mono ?_
    rintro e w2 ⟨rfl, hB⟩
    have hB2 := hidden ((hB1.out).trans (hB.mono hB1.out.size))
    have kA2 := hidden (kAA.out w2 (hTA.out.below hB))
    clear kB hB kAA hTA hTB hT1
    go_wp2_with fail
    refine kA2.out.mono ?_
    rintro e w3 ⟨rfl, hB⟩
    have hB3 := hidden (hB2.out.trans (hB.mono hB2.out.size))
    clear kA2 hB
    go_wp2_with fail
    refine (k1.out w3).mono ?_
    rintro e w4 ⟨rfl, hB⟩
    have hB4 := hidden (hB3.out.trans (hB.mono hB3.out.size))
    clear k1 hB
    go_wp2_with fail
    refine (k2.out w4).mono ?_
    rintro e w5 ⟨rfl, hB⟩
    have hB5 := hidden (hB4.out.trans (hB.mono hB4.out.size))
    clear k2 hB
    go_wp2_with fail
    refine (k3.out w5).mono ?_
    rintro e w6 ⟨rfl, hB⟩
    have hB6 := hidden (hB5.out.trans (hB.mono hB5.out.size))
    clear k3 hB
    go_wp2_with fail
    refine (k4.out w6).mono ?_
    rintro e w7 ⟨rfl, hB⟩
    have hB7 := hidden (hB6.out.trans (hB.mono hB6.out.size))
    clear k4 hB
    go_wp2_with fail
    refine (k5.out w7).mono ?_
    rintro e w8 ⟨rfl, hB⟩
    have hB8 := hidden (hB7.out.trans (hB.mono hB7.out.size))
    clear k5 hB
    go_wp2_with fail
    refine (k6.out w8).mono ?_
    rintro e w9 ⟨rfl, hB⟩
    have hB9 := hidden (hB8.out.trans (hB.mono hB8.out.size))
    clear k6 hB
    go_wp2_with fail
    refine (kA.out w9).mono ?_
    rintro e w10 ⟨rfl, hB⟩
    have hB10 := hidden (hB9.out.trans (hB.mono hB9.out.size))
    clear hB
    go_wp2
    go_ret
    exact ⟨rfl, hB10.out⟩
  · have hle : K ≤ K2 := by omega
    have hKl : K2 ≤ l.length := by omega
    clear hg0 hg20 hg1 hg21
    go_wp2_with fail
    go_region
    generalize w0.drew = w1 at *
    have hTB := hidden (hT1.out.take K2 (by omega))
    have hTA := hidden (hT1.out.take K (by omega))
    have kB := hidden (join_calls _ _ w1 hTB.out)
    rw [joinR_may (may_take hm.out K2), may_take hm.out K2] at kB
    have hBk : (K2 : Int) ≤ (cap : Int) := by omega
    have hAk : (K : Int) ≤ (cap : Int) := by omega
    have e1 := wi_pq l K2 hm.out
    have e2 := wi_qr l K K2 hm.out (by omega)
    have e3 := wi_pq l K hm.out
    have e4 := wi_root l hm.out
    have e5 := wi_self l hm.out
    have e6 := wi_rq l K K2 hm.out (by omega) (by omega)
    have kAA := hidden (fun w hT => join_calls (.slice a K cap) (l.take K) w hT)
    rw [joinR_may (may_take hm.out K), may_take hm.out K] at kAA
    have n1 := hidden (Nat.le_trans (join_len hm.out) (show 168 ≤ 2000 by omega))
    have n2 := hidden (Nat.le_trans (join_len (may_take hm.out K2)) (show 168 ≤ 2000 by omega))
    have n3 := hidden (Nat.le_trans (join_len (may_take hm.out K)) (show 168 ≤ 2000 by omega))
    have k1 := hidden (fun w => within_calls (joinB l) (joinB (l.take K2)) w n1.out n2.out)
    have k2 := hidden (fun w => within_calls (joinB (l.take K2)) (joinB (l.take K)) w n2.out n3.out)
    have k3 := hidden (fun w => within_calls (joinB l) (joinB (l.take K)) w n1.out n3.out)
    have k4 := hidden (fun w => within_calls (joinB l) [47] w n1.out (by simp))
    have k5 := hidden (fun w => within_calls (joinB l) (joinB l) w n1.out n1.out)
    have k6 := hidden (fun w => within_calls (joinB (l.take K)) (joinB (l.take K2)) w n3.out n2.out)
    rw [e1] at k1
    rw [e2] at k2
    rw [e3] at k3
    rw [e4] at k4
    rw [e5] at k5
    rw [e6] at k6
    rw [show mkB [47] = ⟨#[47]⟩ from rfl] at k4
    clear e1 e2 e3 e4 e5 e6 n1 n2 n3
    generalize joinB l = P at *
    generalize joinB (l.take K) = R at *
    generalize joinB (l.take K2) = Q1 at *
    go_wp2_with fail
    refine kB.out.mono ?_
    rintro e w2 ⟨rfl, hB⟩
    have hB2 := hidden ((hB1.out).trans (hB.mono hB1.out.size))
    have kA2 := hidden (kAA.out w2 (hTA.out.below hB))
    clear kB hB kAA hTA hTB hT1
    go_wp2_with fail
    refine kA2.out.mono ?_
    rintro e w3 ⟨rfl, hB⟩
    have hB3 := hidden (hB2.out.trans (hB.mono hB2.out.size))
    clear kA2 hB
    go_wp2_with fail
    refine (k1.out w3).mono ?_
    rintro e w4 ⟨rfl, hB⟩
    have hB4 := hidden (hB3.out.trans (hB.mono hB3.out.size))
    clear k1 hB
    go_wp2_with fail
    refine (k2.out w4).mono ?_
    rintro e w5 ⟨rfl, hB⟩
    have hB5 := hidden (hB4.out.trans (hB.mono hB4.out.size))
    clear k2 hB
    go_wp2_with fail
    refine (k3.out w5).mono ?_
    rintro e w6 ⟨rfl, hB⟩
    have hB6 := hidden (hB5.out.trans (hB.mono hB5.out.size))
    clear k3 hB
    go_wp2_with fail
    refine (k4.out w6).mono ?_
    rintro e w7 ⟨rfl, hB⟩
    have hB7 := hidden (hB6.out.trans (hB.mono hB6.out.size))
    clear k4 hB
    go_wp2_with fail
    refine (k5.out w7).mono ?_
    rintro e w8 ⟨rfl, hB⟩
    have hB8 := hidden (hB7.out.trans (hB.mono hB7.out.size))
    clear k5 hB
    go_wp2_with fail
    refine (k6.out w8).mono ?_
    rintro e w9 ⟨rfl, hB⟩
    have hB9 := hidden (hB8.out.trans (hB.mono hB8.out.size))
    clear k6 hB
    go_wp2_with fail
    refine (kA.out w9).mono ?_
    rintro e w10 ⟨rfl, hB⟩
    have hB10 := hidden (hB9.out.trans (hB.mono hB9.out.size))
    clear hB
    go_wp2
    go_ret
    exact ⟨rfl, hB10.out⟩
end Go.Proofs.Ythibelgeejgmeab
