/- Numbers laid into rows of bytes, the lowest byte first, and read again. -/
import Derived.Test.YtopegpjkkicjhaaGreatDoorWrW
namespace Go.Proofs.YtopegpjkkicjhaaGreatDoor
open Go.RowKit
set_option maxRecDepth 100000

def byteK (n : Int) (k : Nat) : Int := n / 256 ^ k % 256
def putK (zs : List Int) (i : Nat) (n : Int) : Nat → List Int
  | 0 => zs
  | k + 1 => (putK zs i n k).set (8 * i + k) (byteK n k)
abbrev putL (zs : List Int) (i : Nat) (n : Int) : List Int := putK zs i n 8
def getK (zs : List Int) (i : Nat) : Nat → Int
  | 0 => 0
  | k + 1 => getK zs i k + zs.getD (8 * i + k) 0 * 256 ^ k
abbrev getL (zs : List Int) (i : Nat) : Int := getK zs i 8
theorem putK_len (zs : List Int) (i : Nat) (n : Int) : ∀ k, (putK zs i n k).length = zs.length
  | 0 => rfl
  | k + 1 => by rw [putK, List.length_set, putK_len]
theorem getD_set (zs : List Int) (a j : Nat) (x : Int) (ha : a < zs.length) : (zs.set a x).getD j 0 = if a = j then x else zs.getD j 0 := by
  simp only [List.getD, List.getElem?_set]
  by_cases h : a = j
  · subst h; simp [ha]
  · simp [h]
theorem putK_get (zs : List Int) (i : Nat) (n : Int) (hi : 8 * i + 8 ≤ zs.length) (j : Nat) : ∀ k, k ≤ 8 → (putK zs i n k).getD j 0 = if 8 * i ≤ j ∧ j < 8 * i + k then byteK n (j - 8 * i) else zs.getD j 0
  | 0, _ => by rw [if_neg (by omega)]; rfl
  | k + 1, hk => by
    rw [putK, getD_set _ _ _ _ (by rw [putK_len]; omega), putK_get zs i n hi j k (by omega)]
    by_cases h : 8 * i + k = j
    · rw [if_pos h, if_pos (by omega)]; congr 1; omega
    · rw [if_neg h]
      by_cases h2 : 8 * i ≤ j ∧ j < 8 * i + k
      · rw [if_pos h2, if_pos (by omega)]
      · rw [if_neg h2, if_neg (by omega)]
theorem getK_congr (zs ys : List Int) (i : Nat) : ∀ K, (∀ k, k < K → zs.getD (8 * i + k) 0 = ys.getD (8 * i + k) 0) → getK zs i K = getK ys i K
  | 0, _ => rfl
  | K + 1, h => by rw [getK, getK, getK_congr zs ys i K (fun k hk => h k (by omega)), h K (by omega)]
theorem getK_bytes (zs : List Int) (i N : Nat) (h : ∀ k, k < 8 → zs.getD (8 * i + k) 0 = byteK (N : Int) k) : ∀ K, K ≤ 8 → getK zs i K = ((N % 256 ^ K : Nat) : Int)
  | 0, _ => by simp [getK, Nat.mod_one]
  | K + 1, hK => by
    rw [getK, getK_bytes zs i N h K (by omega), h K (by omega), Nat.pow_succ, Nat.mod_mul]
    have hb : byteK (N : Int) K = ((N / 256 ^ K % 256 : Nat) : Int) := by unfold byteK; push_cast; rfl
    rw [hb]
    push_cast
    rw [Int.mul_comm]
theorem get_put_same (zs : List Int) (i : Nat) (n : Int) (hi : 8 * i + 8 ≤ zs.length) (h0 : 0 ≤ n) (h1 : n < 18446744073709551616) : getL (putL zs i n) i = n := by
  obtain ⟨N, rfl⟩ := Int.eq_ofNat_of_zero_le h0
  rw [getL, getK_bytes _ i N (fun k hk => by rw [putK_get zs i _ hi _ 8 (by omega), if_pos (by omega), Nat.add_sub_cancel_left]) 8 (by omega)]
  congr 1
  exact Nat.mod_eq_of_lt (by omega)
theorem get_put_other (zs : List Int) (i j : Nat) (n : Int) (hi : 8 * i + 8 ≤ zs.length) (hij : i ≠ j) : getL (putL zs i n) j = getL zs j :=
  getK_congr _ _ _ _ fun k hk => by rw [putK_get zs i n hi _ 8 (by omega), if_neg (by omega)]
theorem getL_append (zs ys : List Int) (i : Nat) (hi : 8 * i + 8 ≤ zs.length) : getL (zs ++ ys) i = getL zs i :=
  getK_congr _ _ _ _ fun k hk => by simp [List.getD, List.getElem?_append_left (show 8 * i + k < zs.length by omega)]
theorem getK_range (zs : List Int) (i : Nat) (hr : ∀ k, 0 ≤ zs.getD k 0 ∧ zs.getD k 0 ≤ 255) : ∀ K, 0 ≤ getK zs i K ∧ getK zs i K < 256 ^ K
  | 0 => by simp [getK]
  | K + 1 => by
    have h := getK_range zs i hr K
    have h2 := hr (8 * i + K)
    rw [getK, Int.pow_succ]
    have hp : (0 : Int) < 256 ^ K := Int.pow_pos (by omega)
    generalize zs.getD (8 * i + K) 0 = z at h2
    generalize (256 : Int) ^ K = p at h hp
    generalize getK zs i K = q at h
    refine ⟨by have := Int.mul_nonneg h2.1 (Int.le_of_lt hp); omega, ?_⟩
    have : z * p ≤ 255 * p := Int.mul_le_mul_of_nonneg_right h2.2 (Int.le_of_lt hp)
    omega
theorem putK_append (zs ys : List Int) (i : Nat) (n : Int) (hi : 8 * i + 8 ≤ zs.length) : ∀ k, k ≤ 8 → putK (zs ++ ys) i n k = putK zs i n k ++ ys
  | 0, _ => rfl
  | k + 1, hk => by rw [putK, putK, putK_append zs ys i n hi k (by omega), List.set_append_left _ _ (by rw [putK_len]; omega)]
theorem putK_range (zs : List Int) (i : Nat) (n : Int) (hr : ∀ z ∈ zs, 0 ≤ z ∧ z ≤ 255) : ∀ k, ∀ z ∈ putK zs i n k, 0 ≤ z ∧ z ≤ 255
  | 0 => hr
  | k + 1 => fun z hz => by
    rcases List.mem_or_eq_of_mem_set hz with h | rfl
    · exact putK_range zs i n hr k z h
    · unfold byteK; omega
/-- A block's worth of a row. -/
def chunk (zs : List Int) (i : Nat) : List Int := (zs.drop (i * 128)).take 128
theorem chunk_len (zs : List Int) (i : Nat) (h : i * 128 + 128 ≤ zs.length) : (chunk zs i).length = 128 := by simp [chunk]; omega
theorem chunk_range (zs : List Int) (i : Nat) (hr : ∀ z ∈ zs, 0 ≤ z ∧ z ≤ 255) : ∀ z ∈ chunk zs i, 0 ≤ z ∧ z ≤ 255 := fun z hz => hr z (List.mem_of_mem_drop (List.mem_of_mem_take hz))

/-- A group: blocks and what they are to hold. -/
abbrev Grp := List (Nat × List Int)
abbrev nob (l : Grp) (k : Nat) : Nat := (l.getD k (0, [])).1
abbrev dat (l : Grp) (k : Nat) : List Int := (l.getD k (0, [])).2
def rowsN (n : Nat) : Nat := n / 16 + min (n % 16) 1
def numK (l : Grp) : Nat → List Int
  | 0 => List.replicate (rowsN l.length * 128) 0
  | k + 1 => putL (numK l k) k (nob l k)
def datK (l : Grp) : Nat → List Int
  | 0 => []
  | k + 1 => datK l k ++ dat l k
def bodyK (l : Grp) (k : Nat) : List Int := numK l k ++ datK l k
abbrev bodyL (l : Grp) : List Int := bodyK l l.length
theorem rowsN_room (n k : Nat) (h : k < n) : 8 * k + 8 ≤ rowsN n * 128 := by unfold rowsN; omega
theorem numK_len (l : Grp) : ∀ k, (numK l k).length = rowsN l.length * 128
  | 0 => by simp [numK]
  | k + 1 => by rw [numK, putK_len, numK_len]
theorem datK_len (l : Grp) (hl : ∀ j, j < l.length → (dat l j).length = 128) : ∀ k, k ≤ l.length → (datK l k).length = k * 128
  | 0, _ => rfl
  | k + 1, hk => by rw [datK, List.length_append, datK_len l hl k (by omega), hl k (by omega)]; omega
theorem bodyK_len (l : Grp) (hl : ∀ j, j < l.length → (dat l j).length = 128) (k : Nat) (hk : k ≤ l.length) : (bodyK l k).length = (rowsN l.length + k) * 128 := by
  rw [bodyK, List.length_append, numK_len, datK_len l hl k hk]; omega
theorem bodyK_succ (l : Grp) (k : Nat) (hk : k < l.length) : bodyK l (k + 1) = putL (bodyK l k) k (nob l k) ++ dat l k := by
  rw [bodyK, bodyK, numK, datK, putL, putL, putK_append _ _ _ _ (by rw [numK_len]; exact rowsN_room _ _ hk) 8 (by omega), List.append_assoc]
theorem numK_range (l : Grp) : ∀ k, ∀ z ∈ numK l k, 0 ≤ z ∧ z ≤ 255
  | 0 => fun z hz => by obtain ⟨_, rfl⟩ := List.mem_replicate.1 hz; omega
  | k + 1 => putK_range _ _ _ (numK_range l k) 8
theorem datK_range (l : Grp) (hr : ∀ j, j < l.length → ∀ z ∈ dat l j, 0 ≤ z ∧ z ≤ 255) : ∀ k, k ≤ l.length → ∀ z ∈ datK l k, 0 ≤ z ∧ z ≤ 255
  | 0, _ => fun z hz => by cases hz
  | k + 1, hk => fun z hz => by
    rcases List.mem_append.1 hz with h | h
    · exact datK_range l hr k (by omega) z h
    · exact hr k (by omega) z h
theorem bodyK_range (l : Grp) (hr : ∀ j, j < l.length → ∀ z ∈ dat l j, 0 ≤ z ∧ z ≤ 255) (k : Nat) (hk : k ≤ l.length) : ∀ z ∈ bodyK l k, 0 ≤ z ∧ z ≤ 255 := fun z hz => by
  rcases List.mem_append.1 hz with h | h
  · exact numK_range l k z h
  · exact datK_range l hr k hk z h
theorem numK_get (l : Grp) (hn : ∀ j, j < l.length → nob l j < 1000000) (i : Nat) : ∀ k, k ≤ l.length → i < k → getL (numK l k) i = nob l i
  | 0, _, h => absurd h (by omega)
  | k + 1, hk, h => by
    rw [numK]
    by_cases e : i = k
    · subst e
      exact get_put_same _ _ _ (by rw [numK_len]; exact rowsN_room _ _ (by omega)) (by omega) (by have := hn i (by omega); omega)
    · rw [get_put_other _ _ _ _ (by rw [numK_len]; exact rowsN_room _ _ (by omega)) (fun x => e x.symm)]
      exact numK_get l hn i k (by omega) (by omega)
theorem body_get (l : Grp) (hn : ∀ j, j < l.length → nob l j < 1000000) (i : Nat) (hi : i < l.length) : getL (bodyL l) i = nob l i := by
  rw [bodyL, bodyK, getL_append _ _ _ (by rw [numK_len]; exact rowsN_room _ _ hi)]
  exact numK_get l hn i _ (Nat.le_refl _) hi
theorem datK_chunk (l : Grp) (hl : ∀ j, j < l.length → (dat l j).length = 128) (i : Nat) : ∀ k, k ≤ l.length → i < k → chunk (datK l k) i = dat l i
  | 0, _, h => absurd h (by omega)
  | k + 1, hk, h => by
    have hlen := datK_len l hl k (by omega)
    rw [chunk, datK]
    by_cases e : i = k
    · subst e
      rw [List.drop_append_of_le_length (by omega), List.drop_of_length_le (by omega), List.nil_append, List.take_of_length_le (by rw [hl i (by omega)]; omega)]
    · rw [List.drop_append_of_le_length (by omega), List.take_append_of_le_length (by simp; omega)]
      exact datK_chunk l hl i k (by omega) (by omega)
theorem body_chunk (l : Grp) (hl : ∀ j, j < l.length → (dat l j).length = 128) (i : Nat) (hi : i < l.length) : chunk (bodyL l) (rowsN l.length + i) = dat l i := by
  rw [← datK_chunk l hl i l.length (Nat.le_refl _) hi, chunk, chunk, bodyL, bodyK]
  have e : (rowsN l.length + i) * 128 = (numK l l.length).length + i * 128 := by rw [numK_len]; omega
  rw [e, List.drop_append, List.drop_of_length_le (by omega), List.nil_append, Nat.add_sub_cancel_left]
/-- What some blocks hold, one behind the other. -/
def spanL (mem : Nat → Int) (at_ : Nat) : Nat → List Int
  | 0 => []
  | k + 1 => spanL mem at_ k ++ blockL mem (at_ + k)
theorem spanL_len (mem : Nat → Int) (at_ : Nat) : ∀ k, (spanL mem at_ k).length = k * 128
  | 0 => rfl
  | k + 1 => by rw [spanL, List.length_append, spanL_len, blockL_len]; omega
theorem spanL_range (mem : Nat → Int) (hr : ∀ k, 0 ≤ mem k ∧ mem k ≤ 255) (at_ : Nat) : ∀ k, ∀ z ∈ spanL mem at_ k, 0 ≤ z ∧ z ≤ 255
  | 0 => fun z hz => by cases hz
  | k + 1 => fun z hz => by
    rcases List.mem_append.1 hz with h | h
    · exact spanL_range mem hr at_ k z h
    · obtain ⟨j, _, rfl⟩ := List.mem_map.1 h
      exact hr _
theorem spanL_is (mem : Nat → Int) (at_ m : Nat) (zs : List Int) (hz : zs.length = m * 128) (h : ∀ i, i < m → blockL mem (at_ + i) = chunk zs i) : spanL mem at_ m = zs := by
  have key : ∀ k, k ≤ m → spanL mem at_ k = zs.take (k * 128) := by
    intro k
    induction k with
    | zero => intro _; simp [spanL]
    | succ k ih => intro hk; rw [spanL, ih (by omega), h k (by omega), chunk, show (k + 1) * 128 = k * 128 + 128 by omega, List.take_add]
  rw [key m (Nat.le_refl _), ← hz, List.take_length]
end Go.Proofs.YtopegpjkkicjhaaGreatDoor
