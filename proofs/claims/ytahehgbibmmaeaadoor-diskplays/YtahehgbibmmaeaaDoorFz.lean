/- Writes whose answers don't matter: what is left of a Fuse behind them. -/
import Derived.Test.YtahehgbibmmaeaaDoorAw3
namespace Go.Proofs.YtahehgbibmmaeaaDoor
open Go.RowKit Go.Extern.Stop Go.Stop Go.Extern
set_option maxRecDepth 100000

theorem reach_dead (n : Nat) (i : Nat) (hi : i < n) : reachV n 0 i = num 50 := by unfold reachV; rw [if_neg (by omega), if_pos rfl]
theorem i64_nat (i : Nat) (h : i < 1000000) : i64 (i : Int) := ⟨by omega, by omega⟩
/-- A Write to a block that is there, whatever it answers. -/
theorem sys_write_some {w0 : World} {d g n : Nat} {mem : Nat → Int} {writes left : Int} {w : World} (h : Sys w0 d g n mem writes left w) (i : Nat) (hi : i < n) (hi2 : i < 1000000) (v : Value) (zs : List Int) (hv : BytesAt w v zs) (hz : zs.length = 128) (hl2 : left ≤ 9223372036854775807 ∧ -1 ≤ left) (hw : 0 ≤ writes ∧ writes < 1000000000) :
    Calls Tryd.prog 10 #[ptr d, .int .i64 i, v] w fun e w' => ∃ r mem' writes', e = .returned r ∧ writes ≤ writes' ∧ writes' ≤ writes + 1 ∧ Sys w0 d g n mem' writes' (burnt left) w' ∧ (if left = 0 then (∃ b, r = flt b ∧ Chain w' [(sDisk, itoaB i)] (num 50) (flt b) ∧ w.heap.size ≤ b) ∧ mem' = mem ∧ writes' = writes else r = .nilIface ∧ mem' = memW i zs mem ∧ writes' = writes + 1) ∧ Apart [d, g] w w' := by
  by_cases hl : left = 0
  · subst hl
    refine (sys_write_bad h i 50 (i64_nat i hi2) v zs hv (Or.inr ⟨hz, reach_dead n i hi⟩)).mono ?_
    rintro e w' ⟨b, rfl, hc, hb, hS, hB⟩
    exact ⟨_, mem, writes, rfl, by omega, by omega, hS, by rw [if_pos rfl]; exact ⟨⟨b, rfl, hc, hb⟩, rfl, rfl⟩, Apart.of_below hB⟩
  · refine (sys_write h i hi v zs hv hz hl hl2 hw).mono ?_
    rintro e w' ⟨rfl, hS, hA⟩
    exact ⟨_, _, _, rfl, by omega, by omega, hS, by rw [if_neg hl]; exact ⟨rfl, rfl, rfl⟩, hA⟩
end Go.Proofs.YtahehgbibmmaeaaDoor
