/- name.Less; what the parts of a joined path are. -/
import Derived.Test.YthibelgeejgmeaaNa7
namespace Go.Proofs.Ythibelgeejgmeaa
open Go Go.RowKit
set_option maxRecDepth 100000
theorem less_calls (s t : ByteArray) (w : World) : Calls Try.prog 14 #[.string s, .string t] w fun e w' => e = .returned (.bool (Op.bytesLess s.toList t.toList)) ∧ w' = w := by
  go_enter Try.func14, Try.ntmps14
  go_wp2
  go_ret
  exact ⟨rfl, rfl⟩
theorem and_low (x : Int) (m : Nat) (hm : m < 4611686018427387904) : 0 ≤ bits .and .i64 x (m : Int) ∧ bits .and .i64 x (m : Int) ≤ (m : Int) := by
  have h1 : bits .and .i64 x (m : Int) = IntKind.i64.wrap (((BitVec.ofInt 64 x &&& BitVec.ofInt 64 (m : Int)).toNat : Nat) : Int) := rfl
  have h2 : (BitVec.ofInt 64 x &&& BitVec.ofInt 64 (m : Int)).toNat ≤ m := by
    rw [BitVec.toNat_and]
    refine Nat.le_trans Nat.and_le_right ?_
    rw [BitVec.toNat_ofInt]
    have : ((m : Int) % (2 ^ 64 : Nat)).toNat = m := by omega
    omega
  generalize (BitVec.ofInt 64 x &&& BitVec.ofInt 64 (m : Int)).toNat = z at h1 h2
  have h3 : IntKind.i64.wrap (z : Int) = z := by
    have h4 : (z : Int) % (2 ^ 64 : Int) = z := by omega
    simp only [IntKind.wrap, IntKind.bits, IntKind.signed, h4]
    rw [if_neg (by simp; omega)]
  rw [h1, h3]
  omega
theorem and_of (x m : Int) (h0 : 0 ≤ m) (hm : m < 4611686018427387904) : ∃ f : Int, bits .and .i64 x m = f ∧ 0 ≤ f ∧ f ≤ m := by
  obtain ⟨k, rfl⟩ := Int.eq_ofNat_of_zero_le h0
  exact ⟨_, rfl, and_low x k (by omega)⟩
theorem and_rem (x m k : Int) (h0 : 0 ≤ m) (hm : m < 4611686018427387904) (hk : 0 < k) : ∃ f g : Int, bits .and .i64 x m = f ∧ 0 ≤ f ∧ f ≤ m ∧ f.tmod k = g ∧ 0 ≤ g ∧ g < k := by
  obtain ⟨f, h1, h2, h3⟩ := and_of x m h0 hm
  exact ⟨f, _, h1, h2, h3, rfl, Int.tmod_nonneg _ h2, Int.tmod_lt_of_pos _ hk⟩
theorem less_irrefl (l : List UInt8) : Op.bytesLess l l = false := by
  induction l with
  | nil => rfl
  | cons c r ih => simp [Op.bytesLess, ih]
theorem names_join {l : List (List UInt8)} (h : mayB l = true) : namesB (joinB l) = l := by rw [namesB, split_join h]; rfl
theorem parD_join {l : List (List UInt8)} (h : mayB l = true) (hn : l ≠ []) : parD (joinB l) = joinB l.dropLast := by rw [parD, names_join h, if_neg hn]
theorem parN_join {l : List (List UInt8)} (h : mayB l = true) : parN (joinB l) = l.getLastD [] := by rw [parN, names_join h]
theorem parO_join {l : List (List UInt8)} (h : mayB l = true) (hn : l ≠ []) : parO (joinB l) = true := by rw [parO, names_join h]; simp [hn]
theorem may_drop {l : List (List UInt8)} (h : mayB l = true) : mayB l.dropLast = true := by rw [dropLast_take]; exact may_take h _
theorem join_stroke {l : List (List UInt8)} (h : mayB l = true) : joinB l = [47] ↔ l = [] := by
  constructor
  · intro e; exact join_inj h (by rfl) (by rw [e]; rfl)
  · rintro rfl; rfl
theorem joinR_may {l : List (List UInt8)} (h : mayB l = true) : joinR l = joinB l := by rw [joinR, if_pos h]
theorem last_get {l : List (List UInt8)} (hn : l ≠ []) : l[l.length - 1]? = some (l.getLastD []) := by
  rw [List.getLastD_eq_getLast?, List.getLast?_eq_getElem?, List.getElem?_eq_getElem (by have := List.length_pos_iff.2 hn; omega)]; rfl
theorem last_ok {l : List (List UInt8)} (h : mayB l = true) (hn : l ≠ []) : okB (l.getLastD []) = true := (may_all h).2 _ (List.mem_of_getElem? (last_get hn))
theorem join_parts {l : List (List UInt8)} (hn : l ≠ []) : joinB l = (if l.dropLast = [] then [47] else joinB l.dropLast ++ [47]) ++ l.getLastD [] := by
  have e : l.getLastD [] = l.getLast hn := by rw [List.getLastD_eq_getLast?, List.getLast?_eq_some_getLast hn]; rfl
  rw [e]; exact join_last hn
theorem within_join {l m : List (List UInt8)} (h : mayB l = true) (h2 : mayB m = true) : withinB (joinB l) (joinB m) = (decide (m.length ≤ l.length) && decide (l.take m.length = m)) := by
  rw [within_def, names_join h, names_join h2, split_join h, split_join h2]; rfl
theorem wi_qr (l : List (List UInt8)) (a b : Nat) (h : mayB l = true) (hab : a ≤ b) : withinB (joinB (l.take b)) (joinB (l.take a)) = true := by
  rw [within_join (may_take h b) (may_take h a), List.length_take, List.length_take]
  rw [show decide (min a l.length ≤ min b l.length) = true by simp; omega]
  rw [List.take_take]
  have e : l.take (min (min a l.length) b) = l.take a := by
    by_cases ha : a ≤ l.length
    · rw [show min (min a l.length) b = a by omega]
    · rw [show min (min a l.length) b = l.length by omega, List.take_length, List.take_of_length_le (by omega)]
  rw [e]; simp
theorem wi_pq (l : List (List UInt8)) (b : Nat) (h : mayB l = true) : withinB (joinB l) (joinB (l.take b)) = true := by
  by_cases hb : b ≤ l.length
  · have := wi_qr l b l.length h hb
    rwa [List.take_length] at this
  · have := wi_qr l l.length l.length h (Nat.le_refl _)
    rw [List.take_length] at this
    rw [List.take_of_length_le (by omega)]; exact this
theorem wi_self (l : List (List UInt8)) (h : mayB l = true) : withinB (joinB l) (joinB l) = true := by
  have := wi_qr l l.length l.length h (Nat.le_refl _)
  rwa [List.take_length] at this
theorem wi_root (l : List (List UInt8)) (h : mayB l = true) : withinB (joinB l) [47] = true := by
  have := wi_pq l 0 h
  exact this
theorem wi_rq (l : List (List UInt8)) (a b : Nat) (h : mayB l = true) (hab : a ≤ b) (hb : b ≤ l.length) : withinB (joinB (l.take a)) (joinB (l.take b)) = decide ((a : Int) = (b : Int)) := by
  rw [within_join (may_take h a) (may_take h b), List.length_take, List.length_take]
  by_cases e : a = b
  · subst e
    rw [List.take_of_length_le (by rw [List.length_take]; omega)]
    simp
  · rw [show decide (min b l.length ≤ min a l.length) = false by simp; omega]
    have : ¬ (a : Int) = (b : Int) := by omega
    simp [this]
end Go.Proofs.Ythibelgeejgmeaa
