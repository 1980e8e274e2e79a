/- DiskPlays answers true, whatever it is given, and changes nothing that was there. -/
import Derived.Test.YtahehgbibmmaeaaDoorPa
namespace Go.Proofs.YtahehgbibmmaeaaDoor
open Go.RowKit Go.Extern.Stop Go.Stop Go.Extern
set_option maxRecDepth 100000

set_option maxHeartbeats 2000000 in
theorem plays_bad (blocks : Int) (hb : i64 blocks) (hbad : blocks < 16 ∨ 2048 < blocks) (v : Value) (w : World) (hG : Ground w) :
    Calls Tryd.prog 6 #[.int .i64 blocks, v] w fun e w' => e = .returned (.bool true) ∧ Below w.heap.size w w' := by
  have hN := hidden (new_bad blocks hb hbad w hG)
  have hNum := hidden (num_calls blocks hb)
  have h1 : ¬ (60 < blocks ∧ blocks ≤ 2048) := by omega
  rcases Classical.em (60 < blocks) with h2 | h2
  · have h3 : ¬ blocks ≤ 2048 := by omega
    have h4 : ¬ blocks < 16 := by omega
    have h5 : 2048 < blocks := by omega
    go_enter Tryd.func6, Tryd.ntmps6
    go_wp2_with fail
    refine (hN.out).mono ?_
    rintro ev w1 ⟨b, rfl, hC, -, hB⟩
    replace hC := hidden hC
    go_wp2_with fail
    refine (hNum.out w1).mono ?_
    rintro ev w1 ⟨rfl, rfl⟩
    go_wp2_with fail
    refine (law_is 1 (by decide) w1 sDisk (itoaB blocks) [] _ hC.out (hG.below hB).g).mono ?_
    rintro ev w2 ⟨rfl, hB2⟩
    have hB3 := hB.trans (hB2.mono hB.size)
    clear hB2 hB hC
    go_wp2_with fail
    refine (awake_calls w2 (hG.below hB3)).mono ?_
    rintro ev w3 ⟨rfl, hB4⟩
    have hE := hidden (hB3.trans (hB4.mono hB3.size))
    clear hB3 hB4
    go_wp2
    go_ret
    exact ⟨rfl, hE.out⟩
  · have h5 : blocks < 16 := by omega
    go_enter Tryd.func6, Tryd.ntmps6
    go_wp2_with fail
    refine (hN.out).mono ?_
    rintro ev w1 ⟨b, rfl, hC, -, hB⟩
    replace hC := hidden hC
    go_wp2_with fail
    refine (hNum.out w1).mono ?_
    rintro ev w1 ⟨rfl, rfl⟩
    go_wp2_with fail
    refine (law_is 1 (by decide) w1 sDisk (itoaB blocks) [] _ hC.out (hG.below hB).g).mono ?_
    rintro ev w2 ⟨rfl, hB2⟩
    have hB3 := hB.trans (hB2.mono hB.size)
    clear hB2 hB hC
    go_wp2_with fail
    refine (awake_calls w2 (hG.below hB3)).mono ?_
    rintro ev w3 ⟨rfl, hB4⟩
    have hE := hidden (hB3.trans (hB4.mono hB3.size))
    clear hB3 hB4
    go_wp2
    go_ret
    exact ⟨rfl, hE.out⟩
end Go.Proofs.YtahehgbibmmaeaaDoor
