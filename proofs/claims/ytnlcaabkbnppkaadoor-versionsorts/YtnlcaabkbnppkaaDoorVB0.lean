/- How the document's own Tokens goes on: one run at a time. -/
import Derived.Test.YtnlcaabkbnppkaaDoorVA
namespace Go.Proofs.YtnlcaabkbnppkaaDoor
open Go Go.RowKit
set_option maxRecDepth 100000

/-- How far a step goes. -/
def stepN : List UInt8 → Nat
  | [] => 0
  | c :: r => if clsB c = 2 ∨ clsB c = 3 then ((c :: r).takeWhile (fun d => clsB d == clsB c)).length else 1
def stepT (r : List UInt8) (c : UInt8) : List Tok := if clsB c = 1 then [] else [stripT (clsB c, r.take (stepN r))]
theorem step_le (r : List UInt8) : stepN r ≤ r.length := by
  cases r with
  | nil => exact Nat.le_refl _
  | cons c r =>
    by_cases h : clsB c = 2 ∨ clsB c = 3
    · rw [stepN, if_pos h]; exact take_len _ _
    · rw [stepN, if_neg h]; simp
theorem step_pos (c : UInt8) (r : List UInt8) : 1 ≤ stepN (c :: r) := by
  by_cases h : clsB c = 2 ∨ clsB c = 3
  · rw [stepN, if_pos h, List.takeWhile_cons, if_pos (by simp)]; simp
  · rw [stepN, if_neg h]; exact Nat.le_refl _
theorem step_toks (c : UInt8) (r : List UInt8) : toksB (c :: r) = stepT (c :: r) c ++ toksB ((c :: r).drop (stepN (c :: r))) := by
  unfold stepT
  by_cases h1 : clsB c = 1
  · rw [if_pos h1, stepN, if_neg (by omega), toksB, raw_one c r h1]; rfl
  · rw [if_neg h1]
    by_cases h2 : clsB c = 2 ∨ clsB c = 3
    · have hne : (c :: r).takeWhile (fun d => clsB d == clsB c) ≠ [] := by rw [List.takeWhile_cons, if_pos (by simp)]; simp
      rw [stepN, if_pos h2, drop_take, take_take, toksB, raw_span h2 _ hne, List.map_cons]; rfl
    · have h0 : clsB c = 0 := by have := cls_cases c; omega
      rw [stepN, if_neg h2, toksB, raw_tilde c r h0, List.map_cons, h0]; rfl
theorem step_more (x : List UInt8) (i : Nat) (c : UInt8) (hc : x[i]? = some c) (h : clsB c = 2 ∨ clsB c = 3) : stepN (x.drop i) = 1 + ((x.drop (i + 1)).takeWhile (fun d => clsB d == clsB c)).length := by
  obtain ⟨hl, rfl⟩ := List.getElem?_eq_some_iff.1 hc
  rw [List.drop_eq_getElem_cons hl, stepN, if_pos h, List.takeWhile_cons, if_pos (by simp), List.length_cons]; omega
theorem step_one (x : List UInt8) (i : Nat) (c : UInt8) (hc : x[i]? = some c) (h : ¬ (clsB c = 2 ∨ clsB c = 3)) : stepN (x.drop i) = 1 := by
  obtain ⟨hl, rfl⟩ := List.getElem?_eq_some_iff.1 hc
  rw [List.drop_eq_getElem_cons hl, stepN, if_neg h]
end Go.Proofs.YtnlcaabkbnppkaaDoor
