/- VersionTokens answers true, whatever it is given, and changes nothing that was there. -/
import Derived.Test.YtpminhgkacgplabDoorVU0
namespace Go.Proofs.YtpminhgkacgplabDoor
open Go Go.RowKit
set_option maxRecDepth 100000

theorem empty_text (x : List UInt8) (h : x ≠ []) : (mkB x).toList.isEmpty = false := by rw [mk_toList]; cases x with
  | nil => exact absurd rfl h
  | cons c r => rfl
set_option maxHeartbeats 16000000 in
theorem versionTokens_calls (a : List UInt8) (w : World) : Calls Tryd.prog 4 #[.string (mkB a)] w fun e w' => e = .returned (.bool true) ∧ Below w.heap.size w w' := by
  have kA := hidden (fun w => awake_calls w)
  by_cases b1 : 200 < a.length
  · have s1 := size_big a 200 b1
    go_enter Tryd.func4, Tryd.ntmps4
    go_wp2_with fail
    refine (kA.out w).mono ?_
    rintro e w1 ⟨rfl, hB⟩
    go_wp2
    go_ret
    exact ⟨rfl, hB⟩
  have s1 := size_few a 200 b1
  have kT := hidden (fun w => tokens_calls a w (by omega))
  have hok := hidden (toks_ok a)
  have hml := toks_len a.length a (Nat.le_refl _)
  have hpl := hidden (part_len a)
  have hjt := joinT_toks (toksB a) (toks_ok a)
  have hcm : cmpV (joinT (toksB a)) a = 0 := by rw [cmpV, hjt, cmpL_self]
  have hjl : (joinT (toksB a)).length ≤ 600 := by have := part_len a (toksB a).length; rw [List.take_length] at this; omega
  have kM := hidden (fun w => tokens_calls (joinT (toksB a)) w (by omega))
  rw [hjt] at kM
  have kC := hidden (fun w => compare_calls (joinT (toksB a)) a w (by omega) (by omega))
  rw [hcm] at kC
  have hLl : (toksB a).length ≤ 200 := by omega
  clear hjt hcm hjl hml
  replace b1 := hidden b1
  generalize toksB a = L at *
  go_enter Tryd.func4, Tryd.ntmps4
  go_wp2_with fail
  refine (kT.out _).mono ?_
  rintro e w1 ⟨⟨v1, rfl, hO1⟩, hb1⟩
  have hT1 := hidden hO1.at
  replace hb1 := hidden hb1
  clear kT hO1
  obtain ⟨a1, c1, hv1, hc1, hx1⟩ := hT1.out
  generalize hlL : L.length = lL at *
  subst hv1
  replace hlL := hidden hlL
  replace hx1 := hidden hx1
  go_wp2_with fail
  go_loopg [4, 5] lL (fun g sv si wr => ∃ i : Nat, i ≤ lL ∧ g = lL - i ∧ si = .int .i64 (i : Int) ∧ sv = .string (mkB (joinT (L.take i))) ∧ wr = w1)
  case atStart => exact ⟨0, Nat.zero_le _, rfl, rfl, rfl, rfl⟩
  case round =>
    obtain ⟨i, hi, hg, rfl, rfl, hw⟩ := hrel
    replace hw := hw.symm
    subst hw
    replace hg := hidden hg
    by_cases hlt : i < lL
    · have hlt' : (i : Int) < (lL : Int) := by omega
      have hne : L ≠ [] := by rintro rfl; have := hlL.out; simp at this; omega
      obtain ⟨q1, o1, rfl, hq1, hy1⟩ := hx1.out hne
      obtain ⟨⟨k, x⟩, ht⟩ : ∃ t, L[i]? = some t := ⟨_, List.getElem?_eq_getElem (by rw [hlL.out]; exact hlt)⟩
      obtain ⟨f0, f1⟩ := hy1 i _ ht
      have hkx := hok.out _ (List.mem_of_getElem? ht)
      have htk : L.take (i + 1) = L.take i ++ [((k, x) : Tok)] := by rw [List.take_add_one, ht]; rfl
      have hnx := hidden (show joinT (L.take (i + 1)) = joinT (L.take i) ++ tokT (k, x) ++ [46] by rw [htk, joinT_app])
      have hSl : (joinT (L.take i)).length ≤ 600 := by have := hpl.out i; have := b1.out; omega
      have hSn : (joinT (L.take (i + 1))).length ≤ 600 := by have := hpl.out (i + 1); have := b1.out; omega
      rw [hnx.out] at hSn
      generalize joinT (L.take i) = S at *
      obtain ⟨T, hT⟩ : ∃ T, tokT (k, x) = T := ⟨_, rfl⟩
      rw [hT] at hSn
      have hTl : T.length ≤ 600 := by rw [List.length_append, List.length_append] at hSn; omega
      have z1 := mk_size S
      have z2 := mk_size T
      have z3 : (mkB (S ++ T)).size = S.length + T.length := by rw [mk_size]; simp
      have e1 : mkB S ++ mkB T = mkB (S ++ T) := mk_app S T
      have e2 : mkB (S ++ T) ++ ⟨#[46]⟩ = mkB (S ++ T ++ [46]) := mk_app _ [46]
      have hz3 : S.length + T.length ≤ 600 := by rw [List.length_append, List.length_append] at hSn; omega
      replace hT := hidden hT
      clear hy1 hne ht htk hSn
      dsimp only at f0 f1
      rcases hkx with h | ⟨h1, h2, h3⟩ | ⟨h1, h2, h3⟩
      · obtain ⟨rfl, rfl⟩ := Prod.mk.inj h
        obtain rfl : [126] = T := by rw [← hT.out]; rfl
        have ht126 : ((mkB [126]).toList == [126]) = true := by rw [mk_toList]; rfl
        go_wp2
        go_roundg (lL - (i + 1))
        case measure => rw [hg.out]; omega
        case rel => exact ⟨i + 1, hlt, rfl, by go_num, by rw [hnx.out, hT.out]; simp, rfl⟩
      · have hk : k = 2 := h1
        subst hk
        obtain rfl : x = T := by
          have h := hT.out
          rw [tokT, if_neg (by simp)] at h
          exact h
        have hem := empty_text x h2
        clear h1 h2 h3
        go_wp2
        go_roundg (lL - (i + 1))
        case measure => rw [hg.out]; omega
        case rel => exact ⟨i + 1, hlt, rfl, by go_num, by rw [hnx.out, hT.out]; simp, rfl⟩
      · have hk : k = 3 := h1
        subst hk
        by_cases hx0 : x = []
        · subst hx0
          obtain rfl : [48] = T := by rw [← hT.out]; rfl
          have hem : (mkB []).toList.isEmpty = true := by rw [mk_toList]; rfl
          have e1' : mkB S ++ ⟨#[48]⟩ = mkB (S ++ [48]) := e1
          have z2' : (⟨#[48]⟩ : ByteArray).size = 1 := rfl
          have hz3' : S.length + 1 ≤ 600 := hz3
          clear h1 h2 h3
          go_wp2
          go_roundg (lL - (i + 1))
          case measure => rw [hg.out]; omega
          case rel => exact ⟨i + 1, hlt, rfl, by go_num, by rw [hnx.out, hT.out]; simp, rfl⟩
        · obtain rfl : x = T := by
            have h := hT.out
            rw [tokT, if_neg (by simp [hx0])] at h
            exact h
          have hem := empty_text x hx0
          clear h1 h2 h3
          go_wp2
          go_roundg (lL - (i + 1))
          case measure => rw [hg.out]; omega
          case rel => exact ⟨i + 1, hlt, rfl, by go_num, by rw [hnx.out, hT.out]; simp, rfl⟩
    · obtain rfl : lL = i := by omega
      rw [show L.take lL = L from List.take_of_length_le (by rw [hlL.out]; exact Nat.le_refl _)]
      clear hx1
      go_wp2_with fail
      refine (kM.out _).mono ?_
      rintro e w2 ⟨⟨v2, rfl, hO2⟩, hb2⟩
      have hT2 := hidden hO2.at
      have hT3 := hidden (hT1.out.below hb2)
      have hB2 := hidden (hb1.out.trans (hb2.mono hb1.out.size))
      clear kM hO2 hb2 hT1
      obtain ⟨p1, d1, hp1, hd1, hx1⟩ := hT3.out
      obtain ⟨p2, d2, hp2, hd2, hx2⟩ := hT2.out
      rw [hlL.out] at hp1 hp2
      obtain ⟨rfl, -, rfl⟩ := Value.slice.inj hp1
      subst hp2
      replace hx1 := hidden hx1
      replace hx2 := hidden hx2
      clear hT2 hT3
      go_wp2_with fail
      go_loopg [8] lL (fun g si wr => ∃ i : Nat, si = .int .i64 (i : Int) ∧ g = lL - i ∧ i ≤ lL ∧ Hid (Below w2.heap.size w2 wr))
      case atStart => exact ⟨0, rfl, rfl, Nat.zero_le _, hidden (Below.refl _ _)⟩
      case round =>
        obtain ⟨j, rfl, hg2, hj, hb⟩ := hrel
        replace hg2 := hidden hg2
        by_cases hlt2 : j < lL
        · have hlt' : (j : Int) < (lL : Int) := by omega
          have hne : L ≠ [] := by rintro rfl; have := hlL.out; simp at this; omega
          obtain ⟨q1, o1, rfl, hq1, hy1⟩ := hx1.out hne
          obtain ⟨q2, o2, rfl, hq2, hy2⟩ := hx2.out hne
          obtain ⟨⟨k, s⟩, ht⟩ : ∃ t, L[j]? = some t := ⟨_, List.getElem?_eq_getElem (by rw [hlL.out]; exact hlt2)⟩
          obtain ⟨c0, c1'⟩ := hy1 j _ ht
          obtain ⟨e0, e1'⟩ := hy2 j _ ht
          have bs := beq_text s
          have hF := hidden (fun (wx : World) (hx : Below wr.heap.size wr wx) => (show wx.cell? ⟨q1, o1 + j * 2, none⟩ = some (.int .i64 (k : Int)) ∧ wx.cell? ⟨q1, o1 + j * 2 + 1, none⟩ = some (.string (mkB s)) ∧ wx.cell? ⟨q2, o2 + j * 2, none⟩ = some (.int .i64 (k : Int)) ∧ wx.cell? ⟨q2, o2 + j * 2 + 1, none⟩ = some (.string (mkB s)) from
            have hz := hb.out.trans (hx.mono hb.out.size)
            ⟨(hz.cell (p := ⟨q1, o1 + j * 2, none⟩) hq1).trans c0, (hz.cell (p := ⟨q1, o1 + j * 2 + 1, none⟩) hq1).trans c1', (hz.cell (p := ⟨q2, o2 + j * 2, none⟩) hq2).trans e0, (hz.cell (p := ⟨q2, o2 + j * 2 + 1, none⟩) hq2).trans e1'⟩))
          clear c0 c1' e0 e1' hy1 hy2 hne ht hx1 hx2
          go_upto_region 27 with fail
          obtain ⟨f0, f1, f2, f3⟩ := hF.out _ (Below.refl _ _)
          go_quiet (fail)
          have hb5 : Below wr.heap.size wr (wr.drewN nq) := bdN wr nq
          have hb6 := hidden (hb.out.trans (hb5.mono hb.out.size))
          generalize wr.drewN nq = w7 at hb6 ⊢
          clear f0 f1 f2 f3 hF bs hb5
          go_wp2
          go_roundg (lL - (j + 1))
          case measure => have := hg2.out; omega
          case rel => exact ⟨j + 1, by go_num, rfl, by omega, hb6⟩
        · have hlt' : ¬ (j : Int) < (lL : Int) := by omega
          have hB3 := hidden (hB2.out.trans (hb.out.mono hB2.out.size))
          clear hx1 hx2
          go_wp2_with fail
          refine (kC.out _).mono ?_
          rintro e w3 ⟨rfl, hb3⟩
          replace hb3 := hidden (hB3.out.trans (hb3.mono hB3.out.size))
          go_wp2_with fail
          refine (kA.out _).mono ?_
          rintro e w5 ⟨rfl, hb5⟩
          replace hb5 := hidden (hb3.out.trans (hb5.mono hb3.out.size))
          go_wp2
          go_ret
          exact ⟨rfl, hb5.out⟩
end Go.Proofs.YtpminhgkacgplabDoor
