/- Numbers as tokens: held against each other by what they are. -/
import Derived.Test.YtpminhgkacgplabDoorV6
import Derived.Test.YtpminhgkacgplabDoorVN
namespace Go.Proofs.YtpminhgkacgplabDoor
open Go Go.RowKit
set_option maxRecDepth 100000

/-- The digits of a number; of nought none. -/
def strD (u : Nat) : List UInt8 := if u = 0 then [] else Lib.decDigits u
theorem dig_cls (d : Nat) (h : d < 10) : clsB (UInt8.ofNat (48 + d)) = 3 ∧ (UInt8.ofNat (48 + d)).toNat = 48 + d := by
  have h1 : (UInt8.ofNat (48 + d)).toNat = 48 + d := by simp; omega
  refine ⟨?_, h1⟩
  unfold clsB
  rw [h1, if_neg (by omega), if_pos (by omega)]
theorem dec_ind {P : Nat → Prop} (h1 : ∀ u, u < 10 → P u) (h2 : ∀ u, ¬ u < 10 → P (u / 10) → P u) (u : Nat) : P u := by
  induction u using Nat.strongRecOn with
  | _ u ih =>
    by_cases h : u < 10
    · exact h1 u h
    · exact h2 u h (ih (u / 10) (by omega))
theorem dec_one (u : Nat) (h : u < 10) : Lib.decDigits u = [UInt8.ofNat (48 + u)] := Lib.decDigits_one h
theorem dec_all (u : Nat) : ∀ c ∈ Lib.decDigits u, clsB c = 3 := by
  refine dec_ind (P := fun u => ∀ c ∈ Lib.decDigits u, clsB c = 3) ?_ ?_ u
  · intro u h c hc
    rw [dec_one u h] at hc
    simp only [List.mem_singleton] at hc
    rw [hc]; exact (dig_cls u h).1
  · intro u h ih c hc
    rw [decDigits_step u h] at hc
    rcases List.mem_append.1 hc with hc | hc
    · exact ih c hc
    · simp only [List.mem_singleton] at hc
      rw [hc]; exact (dig_cls _ (by omega)).1
theorem dec_ne (u : Nat) : Lib.decDigits u ≠ [] := by
  by_cases h : u < 10
  · rw [dec_one u h]; simp
  · rw [decDigits_step u h]; simp
theorem dec_head (u : Nat) : u ≠ 0 → ∃ c r, Lib.decDigits u = c :: r ∧ ¬ c = 48 := by
  refine dec_ind (P := fun u => u ≠ 0 → ∃ c r, Lib.decDigits u = c :: r ∧ ¬ c = 48) ?_ ?_ u
  · intro u h h0
    refine ⟨_, [], dec_one u h, fun e => ?_⟩
    have := congrArg UInt8.toNat e
    rw [(dig_cls u h).2] at this
    have e2 : (48 : UInt8).toNat = 48 := rfl
    omega
  · intro u h ih _
    obtain ⟨c, r, e, hc⟩ := ih (by omega)
    exact ⟨c, r ++ [UInt8.ofNat (48 + u % 10)], by rw [decDigits_step u h, e]; rfl, hc⟩
theorem strip_dec (u : Nat) : (Lib.decDigits u).dropWhile (· == 48) = strD u := by
  unfold strD
  split
  · rename_i h; subst h; rw [dec_one 0 (by omega)]; decide
  · rename_i h
    obtain ⟨c, r, e, hc⟩ := dec_head u h
    rw [e, List.dropWhile_cons, if_neg (by simpa using hc)]
theorem strip_zeros (n u : Nat) : (List.replicate n 48 ++ Lib.decDigits u).dropWhile (· == 48) = strD u := by
  induction n with
  | zero => exact strip_dec u
  | succ n ih => rw [List.replicate_succ, List.cons_append, List.dropWhile_cons, if_pos (by decide), ih]
theorem dec_mono : ∀ (v u : Nat), v ≤ u → (Lib.decDigits v).length ≤ (Lib.decDigits u).length := by
  intro v
  refine dec_ind (P := fun v => ∀ u, v ≤ u → (Lib.decDigits v).length ≤ (Lib.decDigits u).length) ?_ ?_ v
  · intro v h u _
    rw [dec_one v h]
    have := List.length_pos_iff.2 (dec_ne u)
    show 1 ≤ (Lib.decDigits u).length
    omega
  · intro v h ih u hu
    rw [decDigits_step v h, decDigits_step u (by omega), List.length_append, List.length_append]
    have := ih (u / 10) (by omega)
    simpa using this
theorem str_mono (v u : Nat) (h : v ≤ u) : (strD v).length ≤ (strD u).length := by
  unfold strD
  split
  · exact Nat.zero_le _
  · rw [if_neg (by omega)]; exact dec_mono v u h
def dv (c : UInt8) : Nat := c.toNat - 48
def valD (l : List UInt8) : Nat := l.foldl (fun n c => 10 * n + dv c) 0
theorem val_from (l : List UInt8) : ∀ n, l.foldl (fun n c => 10 * n + dv c) n = n * 10 ^ l.length + valD l := by
  unfold valD
  induction l with
  | nil => intro n; simp
  | cons c r ih =>
    intro n
    rw [List.foldl_cons, List.foldl_cons, ih (10 * n + dv c), ih (10 * 0 + dv c), List.length_cons, Nat.pow_succ]
    rw [Nat.add_mul, Nat.add_mul]
    have : 10 * n * 10 ^ r.length = n * (10 ^ r.length * 10) := by rw [Nat.mul_comm 10 n, Nat.mul_assoc, Nat.mul_comm 10 (10 ^ r.length)]
    omega
theorem val_cons (c : UInt8) (r : List UInt8) : valD (c :: r) = dv c * 10 ^ r.length + valD r := by
  have := val_from r (10 * 0 + dv c)
  show List.foldl _ _ r = _
  rw [this]; simp
theorem val_snoc (l : List UInt8) (c : UInt8) : valD (l ++ [c]) = 10 * valD l + dv c := by
  unfold valD; rw [List.foldl_append]; rfl
theorem val_dec (u : Nat) : valD (Lib.decDigits u) = u := by
  refine dec_ind (P := fun u => valD (Lib.decDigits u) = u) ?_ ?_ u
  · intro u h
    rw [dec_one u h]
    show 10 * 0 + dv _ = u
    rw [dv, (dig_cls u h).2]; omega
  · intro u h ih
    rw [decDigits_step u h, val_snoc, ih, dv, (dig_cls (u % 10) (by omega)).2]; omega
theorem val_str (u : Nat) : valD (strD u) = u := by
  unfold strD
  split
  · rename_i h; subst h; rfl
  · exact val_dec u
def allDig (l : List UInt8) : Prop := ∀ c ∈ l, clsB c = 3
theorem dv_lt (c : UInt8) (h : clsB c = 3) : dv c < 10 ∧ c.toNat = 48 + dv c := by
  unfold clsB at h
  split at h
  · cases h
  · split at h
    · rename_i h2; unfold dv; omega
    · split at h <;> cases h
theorem val_lt : ∀ l : List UInt8, allDig l → valD l < 10 ^ l.length
  | [], _ => by show 0 < 1; decide
  | c :: r, h => by
    have h1 := (dv_lt c (h c (by simp))).1
    have h2 := val_lt r (fun d hd => h d (by simp [hd]))
    rw [val_cons, List.length_cons, Nat.pow_succ]
    have : dv c * 10 ^ r.length ≤ 9 * 10 ^ r.length := Nat.mul_le_mul_right _ (by omega)
    omega
theorem cb_val : ∀ a b : List UInt8, allDig a → allDig b → a.length = b.length → Lib.compareBytes a b = Lib.compareInt (valD a : Int) (valD b : Int)
  | [], [], _, _, _ => rfl
  | [], _ :: _, _, _, h => by simp at h
  | _ :: _, [], _, _, h => by simp at h
  | a :: r, b :: s, ha, hb, h => by
    have hl : r.length = s.length := by simpa using h
    have hr : allDig r := fun d hd => ha d (by simp [hd])
    have hs : allDig s := fun d hd => hb d (by simp [hd])
    have ih := cb_val r s hr hs hl
    obtain ⟨a1, a2⟩ := dv_lt a (ha a (by simp))
    obtain ⟨b1, b2⟩ := dv_lt b (hb b (by simp))
    have v1 := val_lt r hr
    have v2 := val_lt s hs
    rw [Lib.compareBytes, val_cons, val_cons, hl]
    simp only [u8_lt]
    rw [hl] at v1
    by_cases h1 : dv a < dv b
    · rw [if_pos (by omega)]
      have : (dv a + 1) * 10 ^ s.length ≤ dv b * 10 ^ s.length := Nat.mul_le_mul_right _ (by omega)
      rw [Nat.add_mul] at this
      exact (cI_lt.2 (by omega)).symm
    · rw [if_neg (by omega)]
      by_cases h2 : dv b < dv a
      · rw [if_pos (by omega)]
        have : (dv b + 1) * 10 ^ s.length ≤ dv a * 10 ^ s.length := Nat.mul_le_mul_right _ (by omega)
        rw [Nat.add_mul] at this
        exact (cI_gt.2 (by omega)).symm
      · rw [if_neg (by omega), ih, show dv a = dv b by omega]
        generalize dv b * 10 ^ s.length = m
        unfold Lib.compareInt
        repeat' split
        all_goals first | rfl | (exfalso; omega)
theorem str_all (u : Nat) : allDig (strD u) := by
  unfold strD
  split
  · intro c hc; cases hc
  · exact dec_all u
/-- Two numbers' tokens are held against each other as the numbers are. -/
theorem hold_num (u v : Nat) : holdB (3, strD u) (3, strD v) = Lib.compareInt (u : Int) (v : Int) := by
  rw [holdB, if_neg (by simp)]
  by_cases h : (strD u).length = (strD v).length
  · rw [if_neg (by simp [h]), cb_val _ _ (str_all u) (str_all v) h, val_str, val_str]
  · rw [if_pos ⟨rfl, h⟩]
    by_cases hlt : u < v
    · have := str_mono u v (by omega)
      rw [cI_lt.2 (show (u : Int) < v by omega), cI_lt]
      show ((strD u).length : Int) < ((strD v).length : Int)
      omega
    · have := str_mono v u (by omega)
      by_cases he : u = v
      · subst he; exact absurd rfl h
      · rw [cI_gt.2 (show (v : Int) < u by omega), cI_gt]
        show ((strD v).length : Int) < ((strD u).length : Int)
        omega
theorem toks_digits (l : List UInt8) (h : allDig l) (hn : l ≠ []) : toksB l = [(3, l.dropWhile (· == 48))] := by
  have := raw_run (k := 3) (Or.inr rfl) l [] hn h (by show (1 : Nat) ≠ 3; decide)
  rw [List.append_nil] at this
  rw [toksB, this]; rfl
theorem toks_num (n u : Nat) : toksB (List.replicate n 48 ++ Lib.decDigits u) = [(3, strD u)] := by
  rw [toks_digits, strip_zeros]
  · intro c hc
    rcases List.mem_append.1 hc with hc | hc
    · rw [(List.mem_replicate.1 hc).2]; decide
    · exact dec_all u c hc
  · simp [dec_ne u]
theorem toks_dec (u : Nat) : toksB (Lib.decDigits u) = [(3, strD u)] := toks_num 0 u
theorem cmpL_pre (p : List Tok) (x y : List Tok) : cmpL (p ++ x) (p ++ y) = cmpL x y := by
  induction p with
  | nil => rfl
  | cons t p ih => rw [List.cons_append, List.cons_append, cmpL, if_pos (hold_self t), ih]
theorem cmp_numbers (head : List UInt8) (n m u v : Nat) :
    cmpV (head ++ 46 :: (List.replicate n 48 ++ Lib.decDigits u)) (head ++ 46 :: (List.replicate m 48 ++ Lib.decDigits v)) = Lib.compareInt (u : Int) (v : Int) ∧
    cmpV ((head ++ 46 :: (List.replicate n 48 ++ Lib.decDigits u)) ++ [46, 49]) (head ++ 46 :: (List.replicate m 48 ++ Lib.decDigits v)) = if Lib.compareInt (u : Int) (v : Int) = 0 then 1 else Lib.compareInt (u : Int) (v : Int) := by
  have hs := toks_sep 46 (by decide)
  have e1 : toksB [49] = [(3, [49])] := by decide
  constructor
  · rw [cmpV, hs, hs, cmpL_pre, toks_num, toks_num, cmpL, hold_num]
    split
    · rename_i h; rw [h]; rfl
    · rfl
  · rw [show (head ++ 46 :: (List.replicate n 48 ++ Lib.decDigits u)) ++ [46, 49] = (head ++ 46 :: (List.replicate n 48 ++ Lib.decDigits u)) ++ 46 :: [49] from rfl, cmpV, hs, hs, hs, List.append_assoc, cmpL_pre, toks_num, toks_num, e1]
    show cmpL ((3, strD u) :: [(3, [49])]) [(3, strD v)] = _
    rw [cmpL, hold_num]
    split
    · rfl
    · rfl
end Go.Proofs.YtpminhgkacgplabDoor
