/- The document's own: which entries may be. -/
import Derived.Test.YtdmlncdoibahiabGreatDoorX14
namespace Go.Proofs.YtdmlncdoibahiabGreatDoor
open Go.RowKit Go.Extern.Stop Go.Stop Go.Extern
set_option maxRecDepth 100000

theorem ix_none : ∀ {x : List UInt8} {c : UInt8}, c ∉ x → Lib.indexByte x c = -1
  | [], _, _ => by simp [Lib.indexByte]
  | b :: l, c, h => by
    have e : ¬ b = c := fun e => h (by simp [e])
    rw [ix_cons e, ix_none (x := l) (fun hm => h (by simp [hm])), if_pos rfl]
theorem inR_split (c : UInt8) : inR 33 126 c = (inR 32 126 c && !(c == 32)) := by
  have h : (c == 32) = decide (c.toNat = 32) := by
    by_cases e : c = 32
    · subst e; rfl
    · have : c.toNat ≠ 32 := fun e' => e (UInt8.toNat_inj.1 e')
      simp [e, this]
  rw [h]
  simp only [inR]
  by_cases h1 : 33 ≤ c.toNat <;> by_cases h2 : c.toNat ≤ 126 <;> by_cases h3 : c.toNat = 32 <;> simp [h1, h2, h3] <;> omega
theorem ver_ref (x : List UInt8) : verB x = (decide (1 ≤ x.length) && decide (x.length ≤ 40) && x.all (inR 33 126)) := by
  have h1 : x.all (inR 33 126) = (plainB x && !decide (0 ≤ Lib.indexByte x 32)) := by
    by_cases hm : (32 : UInt8) ∈ x
    · have := ix_mem hm
      rw [decide_eq_true this]
      have : x.all (inR 33 126) = false := List.all_eq_false.2 ⟨32, hm, by decide⟩
      rw [this]; simp
    · have := ix_none hm
      rw [this, plainB]
      simp
      rw [Bool.eq_iff_iff, List.all_eq_true, List.all_eq_true]
      constructor
      · intro h c hc; have := h c hc; rw [inR_split] at this; simp at this; exact this.1
      · intro h c hc
        rw [inR_split, h c hc]
        have : c ≠ 32 := fun e => hm (e ▸ hc)
        simpa using this
  rw [h1, verB]
  cases x <;> simp [Bool.and_assoc]
end Go.Proofs.YtdmlncdoibahiabGreatDoor
