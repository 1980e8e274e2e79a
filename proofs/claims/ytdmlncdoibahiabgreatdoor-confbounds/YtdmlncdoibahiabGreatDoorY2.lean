/- ConfBounds: the entry that it makes, and the text. -/
import Derived.Test.YtdmlncdoibahiabGreatDoorY1
namespace Go.Proofs.YtdmlncdoibahiabGreatDoor
open Go.RowKit Go.Extern.Stop Go.Stop Go.Extern
set_option maxRecDepth 100000

def zB : Bl := ([120], zr)
def bE (V O X : Nat) : En := ⟨List.replicate V 55, [107], zr, List.replicate X zB, List.replicate O 113⟩
theorem litz : (⟨#[48, 48, 48, 48, 48, 48, 48, 48, 48, 48, 48, 48, 48, 48, 48, 48]⟩ : ByteArray) = mkB zr := rfl
theorem zero_calls (w : World) : Calls Tryz.prog 5 #[] w fun e w' => e = .returned (.string (mkB zr)) ∧ w' = w := by
  go_enter Tryz.func5, Tryz.ntmps5
  go_wp2
  go_ret
  exact ⟨rfl, rfl⟩
theorem all_rep (n : Nat) (c : UInt8) (p : UInt8 → Bool) (h : p c = true) : (List.replicate n c).all p = true := List.all_eq_true.2 (fun x hx => by rw [(List.mem_replicate.1 hx).2]; exact h)
theorem bE_ok (V O X : Nat) (hV : 1 ≤ V) (hO : 1 ≤ O) : okE (bE V O X) = (decide (V ≤ 40) && decide (O ≤ 200) && decide (X ≤ 8)) := by
  have h1 : verB (List.replicate V 55) = decide (V ≤ 40) := by
    have a : (List.replicate V (55 : UInt8)).isEmpty = false := by cases V with | zero => omega | succ n => rfl
    have b : plainB (List.replicate V 55) = true := all_rep V 55 _ (by decide)
    have c : Lib.indexByte (List.replicate V 55) 32 = -1 := ix_none (fun h => by have := (List.mem_replicate.1 h).2; revert this; decide)
    rw [verB, a, b, c, List.length_replicate]; simp
  have h2 : optB (List.replicate O 113) = decide (O ≤ 200) := by
    obtain ⟨n, rfl⟩ : ∃ n, O = n + 1 := ⟨O - 1, by omega⟩
    have b : plainB (List.replicate (n + 1) 113) = true := all_rep _ 113 _ (by decide)
    have c : (Lib.trimB (List.replicate (n + 1) (113 : UInt8)) 32 == List.replicate (n + 1) 113) = true := by
      rw [trim_ref]
      have e1 : (List.replicate (n + 1) (113 : UInt8)).head? = some 113 := rfl
      have e2 : (List.replicate (n + 1) (113 : UInt8)).getLast? = some 113 := by rw [List.getLast?_replicate]; simp
      rw [e1, e2]; simp
    rw [optB, b, c, List.length_replicate]; simp
  have h3 : (List.replicate X zB).any (fun b => !blobB b.1 b.2) = false := by
    apply List.any_eq_false.2
    intro x hx
    rw [(List.mem_replicate.1 hx).2]; decide
  have h4 : blobB [107] zr = true := by decide
  have h5 : decide ((List.replicate X zB).length ≤ 8) = decide (X ≤ 8) := by simp
  show (verB (List.replicate V 55) && blobB [107] zr && decide ((List.replicate X zB).length ≤ 8) && !((List.replicate X zB).any (fun b => !blobB b.1 b.2)) && optB (List.replicate O 113)) = _
  rw [h1, h2, h3, h4, h5]
  cases decide (V ≤ 40) <;> cases decide (O ≤ 200) <;> cases decide (X ≤ 8) <;> rfl
def s0 : List UInt8 := [118, 101, 114, 115, 105, 111, 110, 32, 49, 10, 107, 101, 114, 110, 101, 108, 32, 107, 32] ++ zr ++ [10, 35]
theorem s0_len : s0.length = 37 := rfl
theorem mk_app (a b : List UInt8) : mkB a ++ mkB b = mkB (a ++ b) := by
  apply ByteArray.ext
  simp [mkB]
theorem s0_cat : (⟨#[118, 101, 114, 115, 105, 111, 110, 32, 49, 10, 107, 101, 114, 110, 101, 108, 32, 107, 32]⟩ : ByteArray) ++ mkB zr ++ ⟨#[10, 35]⟩ = mkB s0 := by
  have e1 : (⟨#[118, 101, 114, 115, 105, 111, 110, 32, 49, 10, 107, 101, 114, 110, 101, 108, 32, 107, 32]⟩ : ByteArray) = mkB [118, 101, 114, 115, 105, 111, 110, 32, 49, 10, 107, 101, 114, 110, 101, 108, 32, 107, 32] := rfl
  have e2 : (⟨#[10, 35]⟩ : ByteArray) = mkB [10, 35] := rfl
  rw [e1, e2, mk_app, mk_app]; rfl
def bR : En := ⟨[49], [107], zr, [], []⟩
theorem s0_read (m : Nat) : readL (linesB (s0 ++ List.replicate m 45)) 0 e0 = .inr bR := by
  have e : s0 ++ List.replicate m 45 = lnV [49] ++ 10 :: (lnB kwK ([107], zr) ++ 10 :: (35 :: List.replicate m 45)) := rfl
  rw [e, lines_join _ _ (by decide), lines_join _ _ (by decide), lines_one]
  · rw [readL, take_lnV rfl (by decide)]
    simp only []
    rw [readL, take_lnK rfl rfl (by decide)]
    simp only []
    rw [readL, takeL, if_pos (by decide)]
    rfl
  · intro h
    rcases List.mem_cons.1 h with h | h
    · revert h; decide
    · have := (List.mem_replicate.1 h).2; revert this; decide
end Go.Proofs.YtdmlncdoibahiabGreatDoor
