/- Where a bit stands (spot, set, home); the walk over all of them. -/
import Derived.Test.YtildpgingcmfcaaDoorAsA
import Derived.Test.YtildpgingcmfcaaDoorAp
import Derived.Test.YtildpgingcmfcaaDoorAm0
import Derived.Deep.LoopGhost
import Derived.Deep.RegionWith
import Derived.Deep.QuietTactic
import Derived.BigQuiet
namespace Go.Proofs.YtildpgingcmfcaaDoor
open Go.RowKit Go.Extern.Stop Go.Stop Go.Extern
set_option maxRecDepth 100000

theorem spot_calls (i : Nat) (hi : i < 1000000) (w : World) :
    Calls Tryd.prog 36 #[.int .i64 i] w fun e w' => e = .returned (.tuple #[.int .i64 (i % 1024 / 8 : Nat), .int .u8 (2 ^ (i % 8))]) ∧ Below w.heap.size w w' := by
  go_enter Tryd.func36, Tryd.ntmps36
  go_wp2_with fail
  go_quiet (fail)
  go_wp2
  go_ret2
  refine ⟨?_, below_drewN (Below.refl _ _) nq⟩
  have e := two8_mod (k := i % 8) (by omega)
  simp [e]
theorem home_calls (i ma ab : Nat) (hi : i < 1000000) (hm : ma < 1000000) (w : World) (hc : w.cell? ⟨ab, 1, none⟩ = some (.int .i64 ma)) :
    Calls Tryd.prog 38 #[.pointer (some ⟨ab, 0, none⟩), .int .i64 i] w fun e w' => e = .returned (.int .i64 (ma + i / 1024 : Nat)) ∧ w' = w := by
  go_enter Tryd.func38, Tryd.ntmps38
  go_wp2
  go_ret
  exact ⟨by simp, rfl⟩
theorem set_calls (i b : Nat) (hi : i < 1000000) (x : Int) (w : World) (hc : w.cell? ⟨b, (i % 1024 / 8), none⟩ = some (.int .u8 x)) :
    Calls Tryd.prog 39 #[.slice (some ⟨b, 0, none⟩) 128 128, .int .i64 i] w fun e w' => e = .returned (.bool (tb x (i % 8))) ∧ Below w.heap.size w w' := by
  have hS := hidden (spot_calls i hi w)
  have hl : b < w.heap.size := lt_of_cell (a := ⟨b, (i % 1024 / 8), none⟩) hc
  have hlt : i % 1024 / 8 < 128 := by omega
  have hA := and_bit x (k := i % 8) (by omega)
  have hp : ((2 : Int) ^ (i % 8) != 0) = true := two8_ne (k := i % 8) (by omega)
  obtain ⟨T, hT⟩ : ∃ T, tb x (i % 8) = T := ⟨_, rfl⟩
  rw [hT] at hA ⊢
  generalize i % 1024 / 8 = sp at hS hc hlt hl
  generalize (2 : Int) ^ (i % 8) = bt at hS hA hp
  have hV : (bits .and .u8 x bt != 0) = T := by
    rw [hA]
    cases T
    · rfl
    · exact hp
  generalize hVv : bits .and .u8 x bt = V at hV
  replace hV := hidden hV
  clear hA hp hT
  go_enter Tryd.func39, Tryd.ntmps39
  go_wp2_with fail
  refine (hS.out).mono ?_
  rintro ev w1 ⟨rfl, hB⟩
  have hc1 := (hB.cell (p := ⟨b, sp, none⟩) hl).trans hc
  replace hB := hidden hB
  clear hS
  go_wp2
  go_ret
  exact ⟨congrArg (fun b => Ending.returned (.bool b)) hV.out, hB.out⟩
/-- A row of 128 bytes, as it is read. -/
def RowB (w : World) (b : Nat) (zs : List Int) : Prop := ∀ i, i < 128 → w.cell? ⟨b, i, none⟩ = some (.int .u8 (zs.getD i 0))
theorem RowB.lt {w : World} {b : Nat} {zs : List Int} (h : RowB w b zs) : b < w.heap.size := lt_of_cell (a := ⟨b, 0, none⟩) (h 0 (by decide))
theorem RowB.below {w w' : World} {b : Nat} {zs : List Int} (h : RowB w b zs) (hb : Below w.heap.size w w') : RowB w' b zs := fun i hi => (hb.cell (p := ⟨b, i, none⟩) h.lt).trans (h i hi)
/-- What walk asks of the function that it is handed: I holds ahead of each index, E where it says stop. -/
structure Sees (f : FuncId) (caps : Array Value) (ab k : Nat) (row : Nat → List Int) (I E : Nat → World → Prop) : Prop where
  few : k ≤ 2048
  ent : ∀ (args : Array Value) (w : World), (callFunc f args).run Tryd.prog w = .ok (.enter f args) w
  more : ∀ j w w', I j w → Below w.heap.size w w' → I j w'
  cell : ∀ w, I 0 w → w.cell? ⟨ab, 3, none⟩ = some (.int .i64 k)
  bits : ∀ j w, j < k → I j w → Calls Tryd.prog 35 #[.pointer (some ⟨ab, 0, none⟩), .int .i64 j] w fun e w' => ∃ b, e = .returned (.tuple #[.slice (some ⟨b, 0, none⟩) 128 128, .nilIface]) ∧ RowB w' b (row (j / 1024)) ∧ Below w.heap.size w w'
  call : ∀ j w b zs, j < k → I j w → RowB w b zs → Calls Tryd.prog f (#[.int .i64 j, .bool (tb ((row (j / 1024)).getD (j % 1024 / 8) 0) (j % 8))] ++ caps) w fun e w' => (e = .returned (.bool true) ∧ I (j + 1) w' ∧ RowB w' b zs) ∨ (e = .returned (.bool false) ∧ E j w')
set_option maxHeartbeats 1000000 in
theorem walk_calls {f : FuncId} {caps : Array Value} {ab k : Nat} {row : Nat → List Int} {I E : Nat → World → Prop} (hs : Sees f caps ab k row I E) (w : World) (h0 : I 0 w) :
    Calls Tryd.prog 24 #[.pointer (some ⟨ab, 0, none⟩), .func (.func f) #[] caps] w fun e w' => e = .returned .nilIface ∧ (I k w' ∨ ∃ j, j < k ∧ E j w') := by
  have c3 := hs.cell w h0
  have hk := hs.few
  have hent := hs.ent
  replace hs := hidden hs
  go_enter Tryd.func24, Tryd.ntmps24
  go_wp2_with fail
  go_loopg [5, 12] (k + 1) (fun gk bv q wr => ∃ j : Nat, j ≤ k ∧ gk = k + 1 - j ∧ q = .int .i64 j ∧ Hid (I j wr) ∧ (j % 1024 ≠ 0 → ∃ b, bv = .slice (some ⟨b, 0, none⟩) 128 128 ∧ RowB wr b (row (j / 1024))))
  case atStart => exact ⟨0, by omega, rfl, rfl, hidden h0, fun h => absurd rfl h⟩
  case round =>
    obtain ⟨j, hj, hgk, rfl, hI, hrow⟩ := hrel
    replace hgk := hidden hgk
    clear h0 c3
    by_cases hlt : j < k
    · by_cases hm : j % 1024 = 0
      · have hm' : (j : Int) % 1024 = 0 := by omega
        replace hm := hidden hm
        have hB := hidden (hs.out.bits j _ hlt hI.out)
        clear hrow
        go_wp2_with fail
        refine (hB.out).mono ?_
        rintro ev w2 ⟨b, rfl, hR, hB2⟩
        have hI2 := hidden (hs.out.more _ _ _ hI.out hB2)
        have hR2 := hidden hR
        have hSet := hidden (set_calls j b (by omega) _ w2 (hR (j % 1024 / 8) (by omega)))
        clear hB hR hB2 hI
        go_wp2_with fail
        refine (hSet.out).mono ?_
        rintro ev w3 ⟨rfl, hB3⟩
        have hC := hidden (hs.out.call j w3 b (row (j / 1024)) hlt (hs.out.more _ _ _ hI2.out hB3) (hR2.out.below hB3))
        clear hSet hB3
        generalize tb ((row (j / 1024)).getD (j % 1024 / 8) 0) (j % 8) = T at hC ⊢
        go_wp2_with fail
        refine (hC.out).mono ?_
        rintro ev w4 (⟨rfl, hI4, hR4⟩ | ⟨rfl, hE4⟩)
        · replace hI4 := hidden hI4
          replace hR4 := hidden hR4
          clear hC hI2 hR2
          go_wp2
          go_roundg (k + 1 - (j + 1))
          case measure => rw [hgk.out]; omega
          case rel => exact ⟨j + 1, hlt, rfl, by go_num, hI4, fun hne => ⟨b, rfl, by rw [show (j + 1) / 1024 = j / 1024 by omega]; exact hR4.out⟩⟩
        · replace hE4 := hidden hE4
          clear hC hI2 hR2
          go_wp2
          go_ret
          exact ⟨rfl, Or.inr ⟨j, hlt, hE4.out⟩⟩
      · have hm' : ¬ (j : Int) % 1024 = 0 := by omega
        obtain ⟨b, rfl, hR⟩ := hrow hm
        have hI2 := hidden hI.out
        have hR2 := hidden hR
        have hSet := hidden (set_calls j b (by omega) _ _ (hR (j % 1024 / 8) (by omega)))
        clear hR hI hrow
        go_wp2_with fail
        refine (hSet.out).mono ?_
        rintro ev w3 ⟨rfl, hB3⟩
        have hC := hidden (hs.out.call j w3 b (row (j / 1024)) hlt (hs.out.more _ _ _ hI2.out hB3) (hR2.out.below hB3))
        clear hSet hB3
        generalize tb ((row (j / 1024)).getD (j % 1024 / 8) 0) (j % 8) = T at hC ⊢
        go_wp2_with fail
        refine (hC.out).mono ?_
        rintro ev w4 (⟨rfl, hI4, hR4⟩ | ⟨rfl, hE4⟩)
        · replace hI4 := hidden hI4
          replace hR4 := hidden hR4
          clear hC hI2 hR2
          go_wp2
          go_roundg (k + 1 - (j + 1))
          case measure => rw [hgk.out]; omega
          case rel => exact ⟨j + 1, hlt, rfl, by go_num, hI4, fun hne => ⟨b, rfl, by rw [show (j + 1) / 1024 = j / 1024 by omega]; exact hR4.out⟩⟩
        · replace hE4 := hidden hE4
          clear hC hI2 hR2
          go_wp2
          go_ret
          exact ⟨rfl, Or.inr ⟨j, hlt, hE4.out⟩⟩
    · obtain rfl : j = k := by omega
      go_wp2
      go_ret
      exact ⟨rfl, Or.inl hI.out⟩
end Go.Proofs.YtildpgingcmfcaaDoor
