/- Which is newer is an order. -/
import Derived.Test.YtnlcaabkbnppkaaDoorV0
namespace Go.Proofs.YtnlcaabkbnppkaaDoor
open Go Go.RowKit
set_option maxRecDepth 100000

theorem cI_lt {a b : Int} : Lib.compareInt a b = -1 ↔ a < b := by
  unfold Lib.compareInt; split
  · simp; omega
  · split
    · constructor
      · intro h; cases h
      · omega
    · constructor
      · intro h; cases h
      · omega
theorem cI_eq {a b : Int} : Lib.compareInt a b = 0 ↔ a = b := by
  unfold Lib.compareInt; split
  · constructor
    · intro h; cases h
    · omega
  · split
    · constructor
      · intro h; cases h
      · omega
    · simp; omega
theorem cI_anti (a b : Int) : Lib.compareInt b a = - Lib.compareInt a b := by
  unfold Lib.compareInt
  repeat' split
  all_goals first | rfl | (exfalso; omega)
theorem cI_rng (a b : Int) : Lib.compareInt a b = -1 ∨ Lib.compareInt a b = 0 ∨ Lib.compareInt a b = 1 := by
  unfold Lib.compareInt
  repeat' split
  all_goals simp
theorem cI_gt {a b : Int} : Lib.compareInt a b = 1 ↔ b < a := by
  have h := cI_anti a b
  rw [← cI_lt (a := b) (b := a), h]; omega
theorem u8_lt (a b : UInt8) : (a < b) = (a.toNat < b.toNat) := by rw [UInt8.lt_iff_toNat_lt]
theorem cb_rng : ∀ a b : List UInt8, Lib.compareBytes a b = -1 ∨ Lib.compareBytes a b = 0 ∨ Lib.compareBytes a b = 1
  | [], [] => Or.inr (Or.inl rfl)
  | [], _ :: _ => Or.inl rfl
  | _ :: _, [] => Or.inr (Or.inr rfl)
  | a :: as_, b :: bs => by
    unfold Lib.compareBytes
    split
    · exact Or.inl rfl
    · split
      · exact Or.inr (Or.inr rfl)
      · exact cb_rng as_ bs
theorem cb_anti : ∀ a b : List UInt8, Lib.compareBytes b a = - Lib.compareBytes a b
  | [], [] => rfl
  | [], _ :: _ => rfl
  | _ :: _, [] => rfl
  | a :: as_, b :: bs => by
    have ih := cb_anti as_ bs
    unfold Lib.compareBytes
    simp only [u8_lt]
    repeat' split
    all_goals first | rfl | (exfalso; omega) | exact ih
theorem cb_eq : ∀ a b : List UInt8, Lib.compareBytes a b = 0 → a = b
  | [], [], _ => rfl
  | [], _ :: _, h => by cases h
  | _ :: _, [], h => by cases h
  | a :: as_, b :: bs, h => by
    unfold Lib.compareBytes at h
    simp only [u8_lt] at h
    split at h
    · cases h
    · split at h
      · cases h
      · rw [cb_eq as_ bs h, UInt8.toNat_inj.1 (show a.toNat = b.toNat by omega)]
theorem cb_self : ∀ a : List UInt8, Lib.compareBytes a a = 0
  | [] => rfl
  | a :: as_ => by
    unfold Lib.compareBytes
    simp only [u8_lt]
    rw [if_neg (by omega), if_neg (by omega), cb_self as_]
theorem cb_trans : ∀ a b c : List UInt8, Lib.compareBytes a b = -1 → Lib.compareBytes b c = -1 → Lib.compareBytes a c = -1
  | [], [], _, h, _ => by cases h
  | [], _ :: _, [], _, h => by cases h
  | [], _ :: _, _ :: _, _, _ => rfl
  | _ :: _, [], _, h, _ => by cases h
  | _ :: _, _ :: _, [], _, h => by cases h
  | a :: as_, b :: bs, c :: cs, h, k => by
    unfold Lib.compareBytes at h k ⊢
    simp only [u8_lt] at h k ⊢
    split at h
    · split at k
      · rw [if_pos (by omega)]
      · split at k
        · cases k
        · rw [if_pos (by omega)]
    · split at h
      · cases h
      · split at k
        · rw [if_pos (by omega)]
        · split at k
          · cases k
          · rw [if_neg (by omega), if_neg (by omega)]
            exact cb_trans as_ bs cs h k
theorem hold_self (p : Tok) : holdB p p = 0 := by
  unfold holdB; rw [if_neg (by simp), if_neg (by simp), cb_self]
theorem hold_rng (p q : Tok) : holdB p q = -1 ∨ holdB p q = 0 ∨ holdB p q = 1 := by
  unfold holdB
  split
  · exact cI_rng _ _
  · split
    · exact cI_rng _ _
    · exact cb_rng _ _
theorem hold_anti (p q : Tok) : holdB q p = - holdB p q := by
  unfold holdB
  by_cases h : p.1 = q.1
  · rw [if_neg (show ¬ q.1 ≠ p.1 by omega), if_neg (show ¬ p.1 ≠ q.1 by omega)]
    by_cases h2 : p.1 = 3 ∧ p.2.length ≠ q.2.length
    · rw [if_pos h2, if_pos (show q.1 = 3 ∧ q.2.length ≠ p.2.length from ⟨by omega, by omega⟩), cI_anti]
    · rw [if_neg h2, if_neg (show ¬ (q.1 = 3 ∧ q.2.length ≠ p.2.length) from fun k => h2 ⟨by omega, by omega⟩), cb_anti]
  · rw [if_pos (show q.1 ≠ p.1 by omega), if_pos (show p.1 ≠ q.1 by omega), cI_anti]
theorem hold_eq (p q : Tok) (h : holdB p q = 0) : p = q := by
  unfold holdB at h
  split at h
  · have := cI_eq.1 h; omega
  · rename_i e
    split at h
    · have := cI_eq.1 h; omega
    · exact Prod.ext (by omega) (cb_eq _ _ h)
theorem hold_lt (p q : Tok) : holdB p q = -1 ↔ p.1 < q.1 ∨ (p.1 = q.1 ∧ p.1 = 3 ∧ p.2.length < q.2.length) ∨ (p.1 = q.1 ∧ (p.1 = 3 → p.2.length = q.2.length) ∧ Lib.compareBytes p.2 q.2 = -1) := by
  unfold holdB
  split
  · rw [cI_lt]; omega
  · rename_i e
    split
    · rename_i e2; rw [cI_lt]; omega
    · rename_i e2
      constructor
      · intro h; exact Or.inr (Or.inr ⟨by omega, by omega, h⟩)
      · rintro (h | h | h)
        · omega
        · omega
        · exact h.2.2
theorem hold_trans (p q r : Tok) (h : holdB p q = -1) (k : holdB q r = -1) : holdB p r = -1 := by
  rw [hold_lt] at h k ⊢
  rcases h with h | h | h <;> rcases k with k | k | k
  all_goals first
    | (left; omega)
    | (right; left; omega)
    | exact Or.inr (Or.inr ⟨by omega, by omega, cb_trans _ _ _ h.2.2 k.2.2⟩)
theorem hold_kind {p q : Tok} (h : holdB p q = -1) : p.1 ≤ q.1 := by
  rw [hold_lt] at h; omega
theorem cmpL_self : ∀ x : List Tok, cmpL x x = 0
  | [] => rfl
  | p :: x => by rw [cmpL, if_pos (hold_self p), cmpL_self x]
theorem cmpL_rng : ∀ x y : List Tok, cmpL x y = -1 ∨ cmpL x y = 0 ∨ cmpL x y = 1
  | [], [] => Or.inr (Or.inl rfl)
  | [], _ :: _ => cI_rng _ _
  | _ :: _, [] => cI_rng _ _
  | p :: x, q :: y => by
    unfold cmpL
    split
    · exact cmpL_rng x y
    · exact hold_rng p q
theorem cmpL_anti : ∀ x y : List Tok, cmpL y x = - cmpL x y
  | [], [] => rfl
  | [], _ :: _ => cI_anti _ _
  | _ :: _, [] => cI_anti _ _
  | p :: x, q :: y => by
    have ih := cmpL_anti x y
    have hh := hold_anti p q
    unfold cmpL
    by_cases h : holdB p q = 0
    · rw [if_pos h, if_pos (by omega), ih]
    · rw [if_neg h, if_neg (by omega), hh]
theorem cmpL_eq : ∀ x y : List Tok, (∀ t ∈ x, t.1 ≠ 1) → (∀ t ∈ y, t.1 ≠ 1) → cmpL x y = 0 → x = y
  | [], [], _, _, _ => rfl
  | [], q :: _, _, hy, h => by have := cI_eq.1 h; have := hy q (by simp); omega
  | p :: _, [], hx, _, h => by have := cI_eq.1 h; have := hx p (by simp); omega
  | p :: x, q :: y, hx, hy, h => by
    unfold cmpL at h
    split at h
    · rename_i e
      rw [hold_eq p q e, cmpL_eq x y (fun t ht => hx t (by simp [ht])) (fun t ht => hy t (by simp [ht])) h]
    · rename_i e; exact absurd h e
theorem cmpL_trans : ∀ x y z : List Tok, cmpL x y = -1 → cmpL y z = -1 → cmpL x z = -1
  | [], [], _, h, _ => by cases h
  | [], q :: _, [], h, k => by have := cI_lt.1 h; have := cI_lt.1 k; omega
  | [], q :: y, r :: z, h, k => by
    have h1 := cI_lt.1 h
    unfold cmpL at k ⊢
    split at k
    · rename_i e; rw [← hold_eq q r e]; exact h
    · have := hold_kind k; rw [cI_lt]; omega
  | p :: _, [], [], _, k => by cases k
  | p :: x, [], r :: z, h, k => by
    have h1 := cI_lt.1 h
    have k1 := cI_lt.1 k
    have : holdB p r = -1 := by rw [hold_lt]; left; omega
    unfold cmpL
    rw [if_neg (by omega), this]
  | p :: x, q :: y, [], h, k => by
    have k1 := cI_lt.1 k
    unfold cmpL at h ⊢
    split at h
    · rename_i e; rw [hold_eq p q e]; exact k
    · have := hold_kind h; rw [cI_lt]; omega
  | p :: x, q :: y, r :: z, h, k => by
    unfold cmpL at h k ⊢
    split at h
    · rename_i e
      have := hold_eq p q e
      subst this
      split at k
      · rename_i e2; rw [if_pos e2]; exact cmpL_trans x y z h k
      · rename_i e2; rw [if_neg e2]; exact k
    · rename_i e
      split at k
      · rename_i e2
        have := hold_eq q r e2
        subst this
        rw [if_neg e]; exact h
      · have := hold_trans p q r h k
        rw [if_neg (by omega), this]
theorem cmpV_self (a : List UInt8) : cmpV a a = 0 := cmpL_self _
theorem cmpV_rng (a b : List UInt8) : cmpV a b = -1 ∨ cmpV a b = 0 ∨ cmpV a b = 1 := cmpL_rng _ _
theorem cmpV_anti (a b : List UInt8) : cmpV b a = - cmpV a b := cmpL_anti _ _
theorem cmpV_eq (a b : List UInt8) (h : cmpV a b = 0) : toksB a = toksB b := cmpL_eq _ _ (toks_kind a) (toks_kind b) h
theorem cmpV_left {a b : List UInt8} (h : cmpV a b = 0) (c : List UInt8) : cmpV a c = cmpV b c := by rw [cmpV, cmpV_eq a b h]; rfl
theorem cmpV_right {b c : List UInt8} (h : cmpV b c = 0) (a : List UInt8) : cmpV a b = cmpV a c := by rw [cmpV, cmpV_eq b c h]; rfl
theorem cmpV_trans (a b c : List UInt8) (h : cmpV a b = -1) (k : cmpV b c = -1) : cmpV a c = -1 := cmpL_trans _ _ _ h k
/-- What VersionOrders asks of three. -/
theorem order3 (a b c : List UInt8) : (0 ≤ cmpV a b → 0 ≤ cmpV b c → 0 ≤ cmpV a c) ∧ (cmpV a b ≤ 0 → cmpV b c ≤ 0 → cmpV a c ≤ 0) ∧ (cmpV a b = 0 → cmpV a c = cmpV b c) ∧ (cmpV b c = 0 → cmpV a c = cmpV a b) := by
  have h1 := cmpV_rng a b
  have h2 := cmpV_rng b c
  have h3 := cmpV_rng a c
  refine ⟨fun h k => ?_, fun h k => ?_, fun h => cmpV_left h c, fun h => (cmpV_right h a).symm⟩
  · by_cases e : cmpV a b = 0
    · rw [cmpV_left e c]; exact k
    · by_cases e2 : cmpV b c = 0
      · rw [← cmpV_right e2 a]; exact h
      · have g1 := cmpV_anti a b
        have g2 := cmpV_anti b c
        have g3 := cmpV_anti a c
        have := cmpV_trans c b a (by omega) (by omega)
        omega
  · by_cases e : cmpV a b = 0
    · rw [cmpV_left e c]; exact k
    · by_cases e2 : cmpV b c = 0
      · rw [← cmpV_right e2 a]; exact h
      · have := cmpV_trans a b c (by omega) (by omega)
        omega
end Go.Proofs.YtnlcaabkbnppkaaDoor
