/- AllocBounds, walked. -/
import Derived.Test.YtildpgingcmfcaaDoorAm8
namespace Go.Proofs.YtildpgingcmfcaaDoor
open Go.RowKit Go.Extern.Stop Go.Stop Go.Extern Go.Shelf
set_option maxRecDepth 100000

set_option maxHeartbeats 2000000 in
theorem allocBounds_calls (A F K : Int) (hF : i64 F) (w : World) (hG : Ground w) (hGT : GT w) :
    Calls Tryd.prog 6 #[.int .i64 A, .int .i64 F, .int .i64 K] w fun e w' => e = .returned (.bool true) ∧ Below w.heap.size w w' := by
  have hmd := hidden (made7_calls w hG)
  have kA := hidden (fun (wx : World) (hx : Below w.heap.size w wx) => awake7_calls wx (hG.below hx))
  have kI := hidden (fun (wx : World) (hx : Below w.heap.size w wx) (b : Nat) (hc : Chain wx [(sAlloc, sNone)] (num 1) (flt b)) => law_is 1 (by decide) wx sAlloc sNone [] (flt b) hc (hGT.below hx))
  have hF2 := hF.2
  clear hG hGT hF
  by_cases hgood : ((1 ≤ K ∧ K ≤ 2048) ∧ 0 ≤ A) ∧ 0 ≤ F
  · have kN := hidden (fun cb wx => anew_any cb A F K hgood hF2 wx)
    obtain ⟨⟨⟨a1, a2⟩, a3⟩, a4⟩ := hgood
    go_enter Tryd.func6, Tryd.ntmps6
    go_wp2_with fail
    refine (hmd.out).mono ?_
    rintro ev w1 ⟨jb, cb, mb, rfl, hC1⟩
    have hB1 := hidden hC1.sys.below
    clear hmd hC1
    go_wp2_with fail
    refine (kN.out cb w1).mono ?_
    rintro ev w2 ⟨rfl, hw2⟩
    have hB2 : Below w.heap.size w w2 := by rw [hw2]; exact hB1.out.alloc hB1.out.size _
    replace hB2 := hidden hB2
    clear hw2 hB1 kN
    go_wp2_with fail
    refine (anew_nil w2).mono ?_
    rintro ev w3 ⟨b, rfl, hc, hB3⟩
    have hB13 := hB2.out.trans (hB3.mono hB2.out.size)
    have hI := hidden (kI.out w3 hB13 b hc)
    replace hB13 := hidden hB13
    clear hc hB3 hB2
    go_wp2_with fail
    refine (hI.out).mono ?_
    rintro ev w4 ⟨rfl, hB4⟩
    have hB14 := hB13.out.trans (hB4.mono hB13.out.size)
    have hA := hidden (kA.out w4 hB14)
    replace hB14 := hidden hB14
    clear hB4 hI
    go_wp2_with fail
    refine (hA.out).mono ?_
    rintro ev w5 ⟨rfl, hB5⟩
    have hE := hidden (hB14.out.trans (hB5.mono hB14.out.size))
    clear hB5 hA
    go_wp2
    go_ret
    exact ⟨rfl, hE.out⟩
  · have kN := hidden (fun cb wx => anew_bad cb A F K hgood wx)
    have hor : K < 1 ∨ (1 ≤ K ∧ 2048 < K) ∨ ((1 ≤ K ∧ K ≤ 2048) ∧ A < 0) ∨ (((1 ≤ K ∧ K ≤ 2048) ∧ 0 ≤ A) ∧ F < 0) := by omega
    replace hgood := hidden hgood
    rcases hor with a1 | ⟨a1, a2⟩ | ⟨⟨a1, a2⟩, a3⟩ | ⟨⟨⟨a1, a2⟩, a3⟩, a4⟩
    · go_enter Tryd.func6, Tryd.ntmps6
      go_wp2_with fail
      refine (hmd.out).mono ?_
      rintro ev w1 ⟨jb, cb, mb, rfl, hC1⟩
      have hB1 := hidden hC1.sys.below
      clear hmd hC1
      go_wp2_with fail
      refine (kN.out cb w1).mono ?_
      rintro ev w2 ⟨b2, rfl, hc2, hB2⟩
      have hB12 := hB1.out.trans (hB2.mono hB1.out.size)
      have hI2 := hidden (kI.out w2 hB12 b2 hc2)
      replace hB12 := hidden hB12
      clear hc2 hB2 hB1 kN
      go_wp2_with fail
      refine (hI2.out).mono ?_
      rintro ev w21 ⟨rfl, hB21⟩
      have hB2 := hidden (hB12.out.trans (hB21.mono hB12.out.size))
      clear hB21 hB12 hI2
      go_wp2_with fail
      refine (anew_nil w21).mono ?_
      rintro ev w3 ⟨b, rfl, hc, hB3⟩
      have hB13 := hB2.out.trans (hB3.mono hB2.out.size)
      have hI := hidden (kI.out w3 hB13 b hc)
      replace hB13 := hidden hB13
      clear hc hB3 hB2
      go_wp2_with fail
      refine (hI.out).mono ?_
      rintro ev w4 ⟨rfl, hB4⟩
      have hB14 := hB13.out.trans (hB4.mono hB13.out.size)
      have hA := hidden (kA.out w4 hB14)
      replace hB14 := hidden hB14
      clear hB4 hI
      go_wp2_with fail
      refine (hA.out).mono ?_
      rintro ev w5 ⟨rfl, hB5⟩
      have hE := hidden (hB14.out.trans (hB5.mono hB14.out.size))
      clear hB5 hA
      go_wp2
      go_ret
      exact ⟨rfl, hE.out⟩
    · go_enter Tryd.func6, Tryd.ntmps6
      go_wp2_with fail
      refine (hmd.out).mono ?_
      rintro ev w1 ⟨jb, cb, mb, rfl, hC1⟩
      have hB1 := hidden hC1.sys.below
      clear hmd hC1
      go_wp2_with fail
      refine (kN.out cb w1).mono ?_
      rintro ev w2 ⟨b2, rfl, hc2, hB2⟩
      have hB12 := hB1.out.trans (hB2.mono hB1.out.size)
      have hI2 := hidden (kI.out w2 hB12 b2 hc2)
      replace hB12 := hidden hB12
      clear hc2 hB2 hB1 kN
      go_wp2_with fail
      refine (hI2.out).mono ?_
      rintro ev w21 ⟨rfl, hB21⟩
      have hB2 := hidden (hB12.out.trans (hB21.mono hB12.out.size))
      clear hB21 hB12 hI2
      go_wp2_with fail
      refine (anew_nil w21).mono ?_
      rintro ev w3 ⟨b, rfl, hc, hB3⟩
      have hB13 := hB2.out.trans (hB3.mono hB2.out.size)
      have hI := hidden (kI.out w3 hB13 b hc)
      replace hB13 := hidden hB13
      clear hc hB3 hB2
      go_wp2_with fail
      refine (hI.out).mono ?_
      rintro ev w4 ⟨rfl, hB4⟩
      have hB14 := hB13.out.trans (hB4.mono hB13.out.size)
      have hA := hidden (kA.out w4 hB14)
      replace hB14 := hidden hB14
      clear hB4 hI
      go_wp2_with fail
      refine (hA.out).mono ?_
      rintro ev w5 ⟨rfl, hB5⟩
      have hE := hidden (hB14.out.trans (hB5.mono hB14.out.size))
      clear hB5 hA
      go_wp2
      go_ret
      exact ⟨rfl, hE.out⟩
    · go_enter Tryd.func6, Tryd.ntmps6
      go_wp2_with fail
      refine (hmd.out).mono ?_
      rintro ev w1 ⟨jb, cb, mb, rfl, hC1⟩
      have hB1 := hidden hC1.sys.below
      clear hmd hC1
      go_wp2_with fail
      refine (kN.out cb w1).mono ?_
      rintro ev w2 ⟨b2, rfl, hc2, hB2⟩
      have hB12 := hB1.out.trans (hB2.mono hB1.out.size)
      have hI2 := hidden (kI.out w2 hB12 b2 hc2)
      replace hB12 := hidden hB12
      clear hc2 hB2 hB1 kN
      go_wp2_with fail
      refine (hI2.out).mono ?_
      rintro ev w21 ⟨rfl, hB21⟩
      have hB2 := hidden (hB12.out.trans (hB21.mono hB12.out.size))
      clear hB21 hB12 hI2
      go_wp2_with fail
      refine (anew_nil w21).mono ?_
      rintro ev w3 ⟨b, rfl, hc, hB3⟩
      have hB13 := hB2.out.trans (hB3.mono hB2.out.size)
      have hI := hidden (kI.out w3 hB13 b hc)
      replace hB13 := hidden hB13
      clear hc hB3 hB2
      go_wp2_with fail
      refine (hI.out).mono ?_
      rintro ev w4 ⟨rfl, hB4⟩
      have hB14 := hB13.out.trans (hB4.mono hB13.out.size)
      have hA := hidden (kA.out w4 hB14)
      replace hB14 := hidden hB14
      clear hB4 hI
      go_wp2_with fail
      refine (hA.out).mono ?_
      rintro ev w5 ⟨rfl, hB5⟩
      have hE := hidden (hB14.out.trans (hB5.mono hB14.out.size))
      clear hB5 hA
      go_wp2
      go_ret
      exact ⟨rfl, hE.out⟩
    · go_enter Tryd.func6, Tryd.ntmps6
      go_wp2_with fail
      refine (hmd.out).mono ?_
      rintro ev w1 ⟨jb, cb, mb, rfl, hC1⟩
      have hB1 := hidden hC1.sys.below
      clear hmd hC1
      go_wp2_with fail
      refine (kN.out cb w1).mono ?_
      rintro ev w2 ⟨b2, rfl, hc2, hB2⟩
      have hB12 := hB1.out.trans (hB2.mono hB1.out.size)
      have hI2 := hidden (kI.out w2 hB12 b2 hc2)
      replace hB12 := hidden hB12
      clear hc2 hB2 hB1 kN
      go_wp2_with fail
      refine (hI2.out).mono ?_
      rintro ev w21 ⟨rfl, hB21⟩
      have hB2 := hidden (hB12.out.trans (hB21.mono hB12.out.size))
      clear hB21 hB12 hI2
      go_wp2_with fail
      refine (anew_nil w21).mono ?_
      rintro ev w3 ⟨b, rfl, hc, hB3⟩
      have hB13 := hB2.out.trans (hB3.mono hB2.out.size)
      have hI := hidden (kI.out w3 hB13 b hc)
      replace hB13 := hidden hB13
      clear hc hB3 hB2
      go_wp2_with fail
      refine (hI.out).mono ?_
      rintro ev w4 ⟨rfl, hB4⟩
      have hB14 := hB13.out.trans (hB4.mono hB13.out.size)
      have hA := hidden (kA.out w4 hB14)
      replace hB14 := hidden hB14
      clear hB4 hI
      go_wp2_with fail
      refine (hA.out).mono ?_
      rintro ev w5 ⟨rfl, hB5⟩
      have hE := hidden (hB14.out.trans (hB5.mono hB14.out.size))
      clear hB5 hA
      go_wp2
      go_ret
      exact ⟨rfl, hE.out⟩
end Go.Proofs.YtildpgingcmfcaaDoor
