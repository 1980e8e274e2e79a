/- The document's own: options, and a whole entry. -/
import Derived.Test.YtdmlncdoibahiabGreatDoorX15
namespace Go.Proofs.YtdmlncdoibahiabGreatDoor
open Go.RowKit Go.Extern.Stop Go.Stop Go.Extern
set_option maxRecDepth 100000

theorem dw_len (l : List UInt8) (p : UInt8 → Bool) : (l.dropWhile p).length ≤ l.length := (List.dropWhile_suffix p).length_le
theorem trim_len (l : List UInt8) : (Lib.trimB l 32).length ≤ (Lib.trimRightB l 32).length := dw_len _ _
theorem trim_ref (x : List UInt8) : (Lib.trimB x 32 == x) = (x.isEmpty || (!(x.head? == some 32) && !(x.getLast? == some 32))) := by
  rcases List.eq_nil_or_concat x with rfl | ⟨l, z, rfl⟩
  · rfl
  · rw [List.concat_eq_append]
    by_cases hz : z = 32
    · subst hz
      have h1 : (Lib.trimRightB (l ++ [32]) 32).length ≤ l.length := by
        simp only [Lib.trimRightB, List.reverse_append, List.length_reverse]
        show (List.dropWhile (· == 32) (32 :: l.reverse)).length ≤ _
        rw [List.dropWhile_cons_of_pos (by rfl)]
        have := dw_len l.reverse (· == 32)
        simpa using this
      have h2 : (Lib.trimB (l ++ [32]) 32 == l ++ [32]) = false := by
        apply beq_eq_false_iff_ne.2
        intro e
        have e2 := congrArg List.length e
        have h3 := trim_len (l ++ [32])
        rw [e2, List.length_append] at h3
        simp at h3; omega
      rw [h2]; simp
    · have h1 : Lib.trimRightB (l ++ [z]) 32 = l ++ [z] := by
        simp only [Lib.trimRightB, List.reverse_append]
        show (List.dropWhile (· == 32) (z :: l.reverse)).reverse = _
        rw [List.dropWhile_cons_of_neg (by simpa using hz)]
        simp
      rw [Lib.trimB, h1, Lib.trimLeftB]
      cases l with
      | nil =>
        have : (List.dropWhile (· == 32) [z]) = [z] := List.dropWhile_cons_of_neg (by simpa using hz)
        simp [hz]
      | cons c r =>
        by_cases hc : c = 32
        · subst hc
          have h2 : (List.dropWhile (· == 32) (32 :: r ++ [z]) == 32 :: r ++ [z]) = false := by
            apply beq_eq_false_iff_ne.2
            intro e
            have e2 := congrArg List.length e
            rw [List.cons_append, List.dropWhile_cons_of_pos (by rfl)] at e2
            have := dw_len (r ++ [z]) (· == 32)
            rw [e2] at this
            simp at this
            omega
          rw [h2]; simp
        · have h2 : List.dropWhile (· == 32) (c :: r ++ [z]) = c :: r ++ [z] := by
            rw [List.cons_append, List.dropWhile_cons_of_neg (by simpa using hc)]
          rw [h2]
          have e1 : (c :: (r ++ [z])).getLast? = some z := by rw [← List.cons_append, List.getLast?_append]; rfl
          simp [hc, hz, e1]
theorem u8_32 (c : UInt8) : (((c.toNat : Nat) : Int) == 32) = (c == 32) := by
  by_cases e : c = 32
  · subst e; rfl
  · have : c.toNat ≠ 32 := fun e' => e (UInt8.toNat_inj.1 e')
    have h1 : (c == 32) = false := by simpa using e
    rw [h1]; simp; omega
theorem at_run (x : List UInt8) (k : Nat) (c : UInt8) (h : x[k]? = some c) (w : World) : (Instr.index 9 (.string (mkB x)) (.int .i64 (k : Int))).run Tryz.prog w = .ok (.int .u8 (c.toNat : Nat)) w := by
  have hk : k < x.length := (List.getElem?_eq_some_iff.1 h).1
  have hs : (mkB x).size = x.length := mk_size x
  have hg : (mkB x)[k]'(by rw [hs]; exact hk) = c := by
    have := (List.getElem?_eq_some_iff.1 h).2
    rw [← this]; rfl
  simp [go_sem, hs, hk, hg]
end Go.Proofs.YtdmlncdoibahiabGreatDoor
