/- NameParents answers true, whatever it is given, and changes nothing that was there. -/
import Derived.Test.YthibelgeejgmeaaNb0
import Derived.Deep.CutBlock
import Derived.Deep.DeepCutAuto
namespace Go.Proofs.Ythibelgeejgmeaa
open Go Go.RowKit
set_option maxRecDepth 100000

set_option maxHeartbeats 8000000 in
theorem nameParents_calls (v : Value) (l : List (List UInt8)) (x y : List UInt8) (w : World) (h : TxtsAt w v l) :
    Calls Try.prog 3 #[v, .string (mkB x), .string (mkB y)] w fun e w' => e = .returned (.bool true) ∧ Below w.heap.size w w' := by
  have hh := hidden h
  obtain ⟨a, cap, rfl, hcap, hc⟩ := h
  replace hc := hidden hc
  by_cases hbig : 20 < l.length ∨ 200 < (mkB x).size ∨ 200 < (mkB y).size
  · have kA := hidden (awake_calls w)
    by_cases b1 : (20 : Int) < (l.length : Int)
    · go_enter Try.func3, Try.ntmps3
      go_wp2_with fail
      refine kA.out.mono ?_
      rintro e w1 ⟨rfl, hB⟩
      go_wp2
      go_ret
      exact ⟨rfl, hB⟩
    by_cases b2 : (200 : Int) < ((mkB x).size : Int)
    · go_enter Try.func3, Try.ntmps3
      go_wp2_with fail
      refine kA.out.mono ?_
      rintro e w1 ⟨rfl, hB⟩
      go_wp2
      go_ret
      exact ⟨rfl, hB⟩
    have b3 : (200 : Int) < ((mkB y).size : Int) := by omega
    go_enter Try.func3, Try.ntmps3
    go_wp2_with fail
    refine kA.out.mono ?_
    rintro e w1 ⟨rfl, hB⟩
    go_wp2
    go_ret
    exact ⟨rfl, hB⟩
  have b1 : ¬ (20 : Int) < (l.length : Int) := by omega
  have b2 : ¬ (200 : Int) < ((mkB x).size : Int) := by omega
  have b3 : ¬ (200 : Int) < ((mkB y).size : Int) := by omega
  have hl20 : l.length ≤ 20 := by omega
  clear hbig
  have kJ := hidden (join_calls _ l w hh.out)
  go_enter Try.func3, Try.ntmps3
  go_wp2_with fail
  refine kJ.out.mono ?_
  rintro e w1 ⟨rfl, hB⟩
  clear kJ b1 b2 b3
  have hB1 := hidden hB
  have kA := hidden (awake_calls w1)
  cases hm : mayB l
  · clear hB
    go_wp2_with fail
    refine kA.out.mono ?_
    rintro e w2 ⟨rfl, hB2⟩
    go_wp2
    go_ret
    exact ⟨rfl, hB1.out.trans (hB2.mono hB1.out.size)⟩
  by_cases hn : l = []
  · subst hn
    clear hB
    have h0 : ((([] : List (List UInt8)).length : Nat) : Int) = 0 := rfl
    go_wp2_with fail
    refine kA.out.mono ?_
    rintro e w2 ⟨rfl, hB2⟩
    go_wp2
    go_ret
    exact ⟨rfl, hB1.out.trans (hB2.mono hB1.out.size)⟩
  have h0 : 0 < l.length := List.length_pos_iff.2 hn
  have h6 := (may_all hm).1
  obtain ⟨b, off, rfl, hb, hx⟩ := hc.out hn
  have hcell := hx _ _ (last_get hn)
  clear hx hc kA
  have hT1 := hidden (hh.out.below hB)
  have kP := hidden (parent_calls (joinB l) w1 (Nat.le_trans (join_len hm) (by omega)))
  rw [parD_join hm hn, parN_join hm, parO_join hm hn] at kP
  rw [joinR_may hm]
  have hdm := may_drop hm
  have kS := hidden (fun w2 => split_calls (joinB l.dropLast) w2 (Nat.le_trans (join_len hdm) (by omega)))
  have hsp := split_join hdm
  rw [hsp] at kS
  have hno := hidden (names_join hdm)
  have hst := hidden (join_stroke hdm)
  have hpt := hidden (join_parts hn)
  have hlD : (mkB (joinB l.dropLast)).size ≤ 200 := by rw [mk_size]; exact Nat.le_trans (join_len hdm) (by omega)
  have hlX : (mkB (l.getLastD [])).size ≤ 200 := by rw [mk_size]; have := (ok_len (last_ok hm hn)).2; omega
  have hdl := hidden (dropLast_take l)
  clear hsp
  replace hdm := hidden hdm
  have hm' := hidden hm
  have hn' := hidden hn
  clear hm hn
  have hdlen : l.dropLast.length = l.length - 1 := by simp
  replace hdlen := hidden hdlen
  generalize joinB l.dropLast = D at *
  generalize l.getLastD [] = X at *
  generalize hP : joinB l = P at *
  clear hP
  have hcell1 := hidden ((hB.cell (p := ⟨b, off + (l.length - 1), none⟩) hb).trans hcell)
  clear hcell hB
  go_wp2_with fail
  refine kP.out.mono ?_
  rintro e w2 ⟨rfl, hB2⟩
  clear kP
  have hcell2 := hidden ((hB2.cell (p := ⟨b, off + (l.length - 1), none⟩) (Nat.lt_of_lt_of_le hb hB1.out.size)).trans hcell1.out)
  have hT2 := hidden (hT1.out.below hB2)
  have hBB := hidden (hB1.out.trans (hB2.mono hB1.out.size))
  clear hB2 hT1 hcell1 hB1
  have hbw : b < w2.heap.size := Nat.lt_of_lt_of_le hb hBB.out.size
  by_cases hD : D = [47]
  · have hDs : ((mkB D).toList == [47]) = true := by rw [mk_toList, hD]; rfl
    have hq : ⟨#[47]⟩ ++ mkB X = mkB P := by rw [mk_stroke, mk_append, hpt.out, if_pos (hst.out.1 hD)]
    replace hq := hidden hq
    clear hD
    go_wp2_with fail
    refine (kS.out w2).mono ?_
    rintro e w3 ⟨vS, rfl, hTd⟩
    clear kS
    rw [hq.out]
    have hT3 := hidden (hT2.out.below hTd.2)
    have hTS := hidden (told_at hTd)
    rw [hno.out] at hTS
    have hBB3 := hidden (hBB.out.trans (hTd.2.mono hBB.out.size))
    have hcell3 := (hTd.2.cell (p := ⟨b, off + (l.length - 1), none⟩) hbw).trans hcell2.out
    have hTk := hT3.out.take (l.length - 1) (by omega)
    rw [← hdl.out] at hTk
    have kE := hidden (same_calls _ _ _ _ w3 hTS.out hTk (by have := hdlen.out; omega) (by have := hdlen.out; omega))
    have kL := hidden (less_calls (mkB x) (mkB y))
    have kL2 := hidden (less_calls (mkB x) (mkB x))
    rw [less_irrefl] at kL2
    have kA := hidden (fun w => awake_calls w)
    rw [show decide (l.dropLast = l.dropLast) = true by simp] at kE
    clear hTd hTk hT3 hTS hT2 hBB hcell2 hdl hno hdm hst hpt hdlen hm' hn' hh hq
    generalize l.length = n at *
    obtain ⟨k, rfl⟩ : ∃ k, n = k + 1 := ⟨n - 1, by omega⟩
    rw [Nat.add_sub_cancel] at hcell3 kE
    have i1 : ((k : Int) + 1 - 1) = (k : Int) := by omega
    go_wp2_with fail
    refine kE.out.mono ?_
    rintro e w4 ⟨rfl, hB4⟩
    have hBB4 := hidden (hBB3.out.trans (hB4.mono hBB3.out.size))
    clear kE hB4 hBB3 hcell3
    go_wp2_with fail
    refine (kL.out w4).mono ?_
    rintro e w5 ⟨rfl, hw⟩
    subst w5
    go_wp2_with fail
    refine (kL2.out w4).mono ?_
    rintro e w5 ⟨rfl, hw⟩
    subst w5
    go_wp2_with fail
    refine (kA.out w4).mono ?_
    rintro e w5 ⟨rfl, hB5⟩
    have hBB5 := hidden (hBB4.out.trans (hB5.mono hBB4.out.size))
    clear hB5
    go_wp2
    go_ret
    exact ⟨rfl, hBB5.out⟩
  · have hDs : ((mkB D).toList == [47]) = false := by rw [mk_toList]; simp [hD]
    have hq : mkB D ++ ⟨#[47]⟩ ++ mkB X = mkB P := by rw [mk_stroke, mk_append, mk_append, hpt.out, if_neg (fun h => hD (hst.out.2 h))]
    replace hq := hidden hq
    clear hD
    go_wp2_with fail
    refine (kS.out w2).mono ?_
    rintro e w3 ⟨vS, rfl, hTd⟩
    clear kS
    rw [hq.out]
    have hT3 := hidden (hT2.out.below hTd.2)
    have hTS := hidden (told_at hTd)
    rw [hno.out] at hTS
    have hBB3 := hidden (hBB.out.trans (hTd.2.mono hBB.out.size))
    have hcell3 := (hTd.2.cell (p := ⟨b, off + (l.length - 1), none⟩) hbw).trans hcell2.out
    have hTk := hT3.out.take (l.length - 1) (by omega)
    rw [← hdl.out] at hTk
    have kE := hidden (same_calls _ _ _ _ w3 hTS.out hTk (by have := hdlen.out; omega) (by have := hdlen.out; omega))
    have kL := hidden (less_calls (mkB x) (mkB y))
    have kL2 := hidden (less_calls (mkB x) (mkB x))
    rw [less_irrefl] at kL2
    have kA := hidden (fun w => awake_calls w)
    rw [show decide (l.dropLast = l.dropLast) = true by simp] at kE
    clear hTd hTk hT3 hTS hT2 hBB hcell2 hdl hno hdm hst hpt hdlen hm' hn' hh hq
    generalize l.length = n at *
    obtain ⟨k, rfl⟩ : ∃ k, n = k + 1 := ⟨n - 1, by omega⟩
    rw [Nat.add_sub_cancel] at hcell3 kE
    have i1 : ((k : Int) + 1 - 1) = (k : Int) := by omega
    go_wp2_with fail
    refine kE.out.mono ?_
    rintro e w4 ⟨rfl, hB4⟩
    have hBB4 := hidden (hBB3.out.trans (hB4.mono hBB3.out.size))
    clear kE hB4 hBB3 hcell3
    go_wp2_with fail
    refine (kL.out w4).mono ?_
    rintro e w5 ⟨rfl, hw⟩
    subst w5
    go_wp2_with fail
    refine (kL2.out w4).mono ?_
    rintro e w5 ⟨rfl, hw⟩
    subst w5
    go_wp2_with fail
    refine (kA.out w4).mono ?_
    rintro e w5 ⟨rfl, hB5⟩
    have hBB5 := hidden (hBB4.out.trans (hB5.mono hBB4.out.size))
    clear hB5
    go_wp2
    go_ret
    exact ⟨rfl, hBB5.out⟩
end Go.Proofs.Ythibelgeejgmeaa
