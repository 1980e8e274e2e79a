/- name.Less; what the parts of a joined path are. -/
import Derived.Test.YthibelgeejgmeabNa7
namespace Go.Proofs.Ythibelgeejgmeab
open Go Go.RowKit
set_option maxRecDepth 100000
theorem and_low (x : Int) (m : Nat) (hm : m < 4611686018427387904) : 0 ≤ bits .and .i64 x (m : Int) ∧ bits .and .i64 x (m : Int) ≤ (m : Int) := by
  have h1 : bits .and .i64 x (m : Int) = IntKind.i64.wrap (((BitVec.ofInt 64 x &&& BitVec.ofInt 64 (m : Int)).toNat : Nat) : Int) := rfl
  have h2 : (BitVec.ofInt 64 x &&& BitVec.ofInt 64 (m : Int)).toNat ≤ m := by
    rw [BitVec.toNat_and]
    refine Nat.le_trans Nat.and_le_right ?_
    rw [BitVec.toNat_ofInt]
    have : ((m : Int) % (2 ^ 64 : Nat)).toNat = m := by omega
    omega
  generalize (BitVec.ofInt 64 x &&& BitVec.ofInt 64 (m : Int)).toNat = z at h1 h2
  have h3 : IntKind.i64.wrap (z : Int) = z := by
    have h4 : (z : Int) % (2 ^ 64 : Int) = z := by omega
    simp only [IntKind.wrap, IntKind.bits, IntKind.signed, h4]
    rw [if_neg (by simp; omega)]
  rw [h1, h3]
  omega
theorem and_of (x m : Int) (h0 : 0 ≤ m) (hm : m < 4611686018427387904) : ∃ f : Int, bits .and .i64 x m = f ∧ 0 ≤ f ∧ f ≤ m := by
  obtain ⟨k, rfl⟩ := Int.eq_ofNat_of_zero_le h0
  exact ⟨_, rfl, and_low x k (by omega)⟩
theorem and_rem (x m k : Int) (h0 : 0 ≤ m) (hm : m < 4611686018427387904) (hk : 0 < k) : ∃ f g : Int, bits .and .i64 x m = f ∧ 0 ≤ f ∧ f ≤ m ∧ f.tmod k = g ∧ 0 ≤ g ∧ g < k := by
  obtain ⟨f, h1, h2, h3⟩ := and_of x m h0 hm
  exact ⟨f, _, h1, h2, h3, rfl, Int.tmod_nonneg _ h2, Int.tmod_lt_of_pos _ hk⟩
theorem less_irrefl (l : List UInt8) : Op.bytesLess l l = false := by
  induction l with
  | nil => rfl
  | cons c r ih => simp [Op.bytesLess, ih]
theorem names_join {l : List (List UInt8)} (h : mayB l = true) : namesB (joinB l) = l := by rw [namesB, split_join h]; rfl
theorem parD_join {l : List (List UInt8)} (h : mayB l = true) (hn : l ≠ []) : parD (joinB l) = joinB l.dropLast := by rw [parD, names_join h, if_neg hn]
theorem parN_join {l : List (List UInt8)} (h : mayB l = true) : parN (joinB l) = l.getLastD [] := by rw [parN, names_join h]
theorem parO_join {l : List (List UInt8)} (h : mayB l = true) (hn : l ≠ []) : parO (joinB l) = true := by rw [parO, names_join h]; simp [hn]
theorem may_drop {l : List (List UInt8)} (h : mayB l = true) : mayB l.dropLast = true := by rw [dropLast_take]; exact may_take h _
theorem join_stroke {l : List (List UInt8)} (h : mayB l = true) : joinB l = [47] ↔ l = [] := by
  constructor
  · intro e; exact join_inj h (by rfl) (by rw [e]; rfl)
  · rintro rfl; rfl
theorem joinR_may {l : List (List UInt8)} (h : mayB l = true) : joinR l = joinB l := by rw [joinR, if_pos h]
theorem last_get {l : List (List UInt8)} (hn : l ≠ []) : l[l.length - 1]? = some (l.getLastD []) := by
  rw [List.getLastD_eq_getLast?, List.getLast?_eq_getElem?, List.getElem?_eq_getElem (by have := List.length_pos_iff.2 hn; omega)]; rfl
theorem last_ok {l : List (List UInt8)} (h : mayB l = true) (hn : l ≠ []) : okB (l.getLastD []) = true := (may_all h).2 _ (List.mem_of_getElem? (last_get hn))
theorem join_parts {l : List (List UInt8)} (hn : l ≠ []) : joinB l = (if l.dropLast = [] then [47] else joinB l.dropLast ++ [47]) ++ l.getLastD [] := by
  have e : l.getLastD [] = l.getLast hn := by rw [List.getLastD_eq_getLast?, List.getLast?_eq_some_getLast hn]; rfl
  rw [e]; exact join_last hn
end Go.Proofs.Ythibelgeejgmeab
