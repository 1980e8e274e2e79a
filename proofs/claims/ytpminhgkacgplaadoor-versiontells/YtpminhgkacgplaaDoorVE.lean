/- VersionTells answers true, whatever it is given, and changes nothing that was there. -/
import Derived.Test.YtpminhgkacgplaaDoorVD
import Derived.Test.YtpminhgkacgplaaDoorV7
import Derived.BigQuiet
namespace Go.Proofs.YtpminhgkacgplaaDoor
open Go Go.RowKit
set_option maxRecDepth 100000

theorem bdN (w : World) (n : Nat) : Below w.heap.size w (w.drewN n) := ⟨rfl, rfl, rfl, Nat.le_refl _, fun _ _ => rfl⟩
theorem beq_text (x : List UInt8) : ((mkB x).toList == (mkB x).toList) = true := by simp
set_option maxHeartbeats 16000000 in
theorem versionTells_calls (a b : List UInt8) (w : World) : Calls Tryd.prog 5 #[.string (mkB a), .string (mkB b)] w fun e w' => e = .returned (.bool true) ∧ Below w.heap.size w w' := by
  have kA := hidden (fun w => awake_calls w)
  by_cases b1 : 300 < a.length
  · have s1 := size_big a 300 b1
    go_enter Tryd.func5, Tryd.ntmps5
    go_wp2_with fail
    refine (kA.out w).mono ?_
    rintro e w1 ⟨rfl, hB⟩
    go_wp2
    go_ret
    exact ⟨rfl, hB⟩
  have s1 := size_few a 300 b1
  by_cases b2 : 300 < b.length
  · have s2 := size_big b 300 b2
    go_enter Tryd.func5, Tryd.ntmps5
    go_wp2_with fail
    refine (kA.out w).mono ?_
    rintro e w1 ⟨rfl, hB⟩
    go_wp2
    go_ret
    exact ⟨rfl, hB⟩
  have s2 := size_few b 300 b2
  have kT := hidden (fun w => tokens_calls a w (by omega))
  have kR := hidden (fun w => rtokens_calls a w (by omega))
  have kC := hidden (fun w => compare_calls a b w (by omega) (by omega))
  have kD := hidden (fun w => rcompare_calls a b w (by omega) (by omega))
  have hml := hidden (toks_len a.length a (Nat.le_refl _))
  replace b1 := hidden b1
  generalize toksB a = L at *
  generalize cmpV a b = z at *
  go_enter Tryd.func5, Tryd.ntmps5
  go_wp2_with fail
  refine (kT.out _).mono ?_
  rintro e w1 ⟨⟨v1, rfl, hO1⟩, hb1⟩
  replace hO1 := hidden hO1
  replace hb1 := hidden hb1
  go_wp2_with fail
  refine (kR.out _).mono ?_
  rintro e w2 ⟨⟨v2, rfl, hO2⟩, hb2⟩
  have hT1 := hidden ((hO1.out.below hb2).at)
  have hT2 := hidden hO2.at
  have hB2 := hidden (hb1.out.trans (hb2.mono hb1.out.size))
  clear kT kR hO1 hb1 hO2 hb2 s1 s2
  have hLl : L.length ≤ 300 := by have := hml.out; have := b1.out; omega
  obtain ⟨a1, c1, hv1, hc1, hx1⟩ := hT1.out
  obtain ⟨a2, c2, hv2, hc2, hx2⟩ := hT2.out
  generalize hlL : L.length = lL at *
  subst hv1
  subst hv2
  replace hlL := hidden hlL
  replace hx1 := hidden hx1
  replace hx2 := hidden hx2
  clear hT1 hT2
  go_wp2_with fail
  go_loopg [7] lL (fun g si wr => ∃ i : Nat, si = .int .i64 (i : Int) ∧ g = lL - i ∧ i ≤ lL ∧ Hid (Below w2.heap.size w2 wr))
  case atStart => exact ⟨0, rfl, rfl, Nat.zero_le _, hidden (Below.refl _ _)⟩
  case round =>
    obtain ⟨i, rfl, hg, hi, hb⟩ := hrel
    replace hg := hidden hg
    by_cases hlt : i < lL
    · have hlt' : (i : Int) < (lL : Int) := by omega
      have hne : L ≠ [] := by rintro rfl; have := hlL.out; simp at this; omega
      obtain ⟨q1, o1, rfl, hq1, hy1⟩ := hx1.out hne
      obtain ⟨q2, o2, rfl, hq2, hy2⟩ := hx2.out hne
      obtain ⟨⟨k, s⟩, ht⟩ : ∃ t, L[i]? = some t := ⟨_, List.getElem?_eq_getElem (by rw [hlL.out]; exact hlt)⟩
      obtain ⟨c0, c1'⟩ := hy1 i _ ht
      obtain ⟨e0, e1'⟩ := hy2 i _ ht
      have bs := beq_text s
      have hF := hidden (fun (wx : World) (hx : Below wr.heap.size wr wx) => (show wx.cell? ⟨q1, o1 + i * 2, none⟩ = some (.int .i64 (k : Int)) ∧ wx.cell? ⟨q1, o1 + i * 2 + 1, none⟩ = some (.string (mkB s)) ∧ wx.cell? ⟨q2, o2 + i * 2, none⟩ = some (.int .i64 (k : Int)) ∧ wx.cell? ⟨q2, o2 + i * 2 + 1, none⟩ = some (.string (mkB s)) from
        have hz := hb.out.trans (hx.mono hb.out.size)
        ⟨(hz.cell (p := ⟨q1, o1 + i * 2, none⟩) hq1).trans c0, (hz.cell (p := ⟨q1, o1 + i * 2 + 1, none⟩) hq1).trans c1', (hz.cell (p := ⟨q2, o2 + i * 2, none⟩) hq2).trans e0, (hz.cell (p := ⟨q2, o2 + i * 2 + 1, none⟩) hq2).trans e1'⟩))
      clear c0 c1' e0 e1' hy1 hy2 hne ht hx1 hx2
      go_upto_region 9 with fail
      obtain ⟨f0, f1, f2, f3⟩ := hF.out _ (Below.refl _ _)
      go_quiet (fail)
      have hb5 : Below wr.heap.size wr (wr.drewN nq) := bdN wr nq
      have hb6 := hidden (hb.out.trans (hb5.mono hb.out.size))
      generalize wr.drewN nq = w7 at hb6 ⊢
      clear f0 f1 f2 f3 hF bs hb5
      go_wp2
      go_roundg (lL - (i + 1))
      case measure => have := hg.out; omega
      case rel => exact ⟨i + 1, by go_num, rfl, by omega, hb6⟩
    · have hlt' : ¬ (i : Int) < (lL : Int) := by omega
      have hB3 := hidden (hB2.out.trans (hb.out.mono hB2.out.size))
      clear hx1 hx2
      go_wp2_with fail
      refine (kC.out _).mono ?_
      rintro e w3 ⟨rfl, hb3⟩
      replace hb3 := hidden (hB3.out.trans (hb3.mono hB3.out.size))
      go_wp2_with fail
      refine (kD.out _).mono ?_
      rintro e w4 ⟨rfl, hb4⟩
      replace hb4 := hidden (hb3.out.trans (hb4.mono hb3.out.size))
      go_wp2_with fail
      refine (kA.out _).mono ?_
      rintro e w5 ⟨rfl, hb5⟩
      replace hb5 := hidden (hb4.out.trans (hb5.mono hb4.out.size))
      go_wp2
      go_ret
      exact ⟨rfl, hb5.out⟩
end Go.Proofs.YtpminhgkacgplaaDoor
