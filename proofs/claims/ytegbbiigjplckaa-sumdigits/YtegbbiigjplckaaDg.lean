/- What is read was written: sixteen signs that are read as a number are its signs; a row of sevens with one sign turned. -/
import Derived.Test.YtegbbiigjplckaaRt
import Derived.Test.YtegbbiigjplckaaFv
namespace Go.Proofs.Ytegbbiigjplckaa
open Go.RowKit
set_option maxRecDepth 100000

theorem hexDig_dig {c d : Int} (h : dig c = some d) : hexDig d = c := by
  unfold dig at h
  unfold hexDig
  split at h
  · cases h; rw [if_neg (by omega)]; omega
  · split at h
    · cases h; rw [if_pos (by omega)]; omega
    · cases h
theorem unhex_some {cs : List Int} {k : Nat} {y : Int} (hk : k < cs.length) (h : unhexL (cs.take (k + 1)) = some y) : ∃ x d, unhexL (cs.take k) = some x ∧ dig cs[k] = some d ∧ y = x * 16 + d := by
  rw [unhex_take cs k cs[k] (List.getElem?_eq_getElem hk), unhexStep] at h
  cases hx : unhexL (cs.take k) with
  | none => rw [hx] at h; cases h
  | some x =>
    rw [hx] at h
    simp only [Option.bind_some] at h
    cases hd : dig cs[k] with
    | none => rw [hd] at h; cases h
    | some d =>
      rw [hd] at h
      simp only [Option.map_some, Option.some.injEq] at h
      exact ⟨x, d, rfl, rfl, h.symm⟩
theorem unhex_parts {cs : List Int} (hl : cs.length = 16) {m : Int} (h : unhexL cs = some m) : ∀ i, i ≤ 16 → unhexL (cs.take (16 - i)) = some (m / 16 ^ i)
  | 0, _ => by rw [List.take_of_length_le (by omega), h]; simp
  | i + 1, hi => by
    have h1 := unhex_parts hl h i (by omega)
    rw [show 16 - i = (16 - (i + 1)) + 1 by omega] at h1
    obtain ⟨x, d, hx, hd, e⟩ := unhex_some (by omega) h1
    have hb := dig_bound hd
    rw [hx, Int.pow_succ, ← Int.ediv_ediv_of_nonneg (Int.pow_nonneg (by decide)), e]
    congr 1
    omega
theorem hexL_unhex {cs : List Int} (hl : cs.length = 16) {m : Int} (h : unhexL cs = some m) : hexL m = cs := by
  apply List.ext_getElem?
  intro j
  by_cases hj : j < 16
  · have h1 := unhex_parts hl h (15 - j) (by omega)
    rw [show 16 - (15 - j) = j + 1 by omega] at h1
    obtain ⟨x, d, hx, hd, e⟩ := unhex_some (by omega) h1
    have hb := dig_bound hd
    rw [hexL_get m j hj, e, List.getElem?_eq_getElem (by omega)]
    have : (x * 16 + d) % 16 = d := by omega
    rw [this, hexDig_dig hd]
  · rw [List.getElem?_eq_none (by rw [hexL_len]; omega), List.getElem?_eq_none (by omega)]
theorem unhex_range {cs : List Int} : ∀ k, k ≤ cs.length → ∀ m, unhexL (cs.take k) = some m → 0 ≤ m ∧ m < 16 ^ k
  | 0, _, m, h => by
    have : (0 : Int) = m := by simpa [unhexL] using h
    subst this; simp
  | k + 1, hk, m, h => by
    obtain ⟨x, d, hx, hd, e⟩ := unhex_some (by omega) h
    have hb := dig_bound hd
    have := unhex_range k (by omega) x hx
    rw [Int.pow_succ]
    omega
theorem unhex_none_iff (cs : List Int) : ∀ n, cs.foldl unhexStep (some n) = none ↔ ∃ c ∈ cs, dig c = none := by
  induction cs with
  | nil => intro n; simp
  | cons c cs ih =>
    intro n
    rw [List.foldl_cons]
    cases hd : dig c with
    | none =>
      have : unhexStep (some n) c = none := by simp [unhexStep, hd]
      rw [this]
      exact ⟨fun _ => ⟨c, List.mem_cons_self, hd⟩, fun _ => unhex_none cs⟩
    | some d =>
      have : unhexStep (some n) c = some (n * 16 + d) := by simp [unhexStep, hd]
      rw [this, ih]
      constructor
      · rintro ⟨x, hx, h⟩; exact ⟨x, List.mem_cons_of_mem _ hx, h⟩
      · rintro ⟨x, hx, h⟩
        rcases List.mem_cons.1 hx with rfl | hx
        · rw [hd] at h; cases h
        · exact ⟨x, hx, h⟩
/-- A row of sevens, one sign turned. -/
def turned (n p : Nat) (c : Int) : List Int := (List.replicate n 55).set p c
theorem turned_len (n p : Nat) (c : Int) : (turned n p c).length = n := by simp [turned]
theorem turned_mem {n p : Nat} {c x : Int} (h : x ∈ turned n p c) : x = 55 ∨ x = c := by
  rcases List.mem_or_eq_of_mem_set h with h | h
  · exact Or.inl (List.eq_of_mem_replicate h)
  · exact Or.inr h
theorem turned_has {n p : Nat} {c : Int} (hp : p < n) : c ∈ turned n p c := List.mem_iff_getElem.2 ⟨p, by simpa [turned] using hp, by simp [turned]⟩
theorem turned_good {p : Nat} {c : Int} (h : (dig c).isSome = true) : ∃ m, unhexL (turned 16 p c) = some m ∧ hexL m = turned 16 p c ∧ 0 ≤ m ∧ m < 18446744073709551616 := by
  cases hu : unhexL (turned 16 p c) with
  | none =>
    obtain ⟨x, hx, hd⟩ := (unhex_none_iff (turned 16 p c) 0).1 hu
    rcases turned_mem hx with rfl | rfl
    · exact absurd hd (by decide)
    · rw [hd] at h; cases h
  | some m =>
    have hr := unhex_range (cs := turned 16 p c) 16 (by rw [turned_len]; omega) m (by rw [List.take_of_length_le (by rw [turned_len]; omega)]; exact hu)
    exact ⟨m, rfl, hexL_unhex (turned_len _ _ _) hu, hr.1, by simpa using hr.2⟩
theorem turned_bad {p : Nat} {c : Int} (hp : p < 16) (h : dig c = none) : unhexL (turned 16 p c) = none := (unhex_none_iff (turned 16 p c) 0).2 ⟨c, turned_has hp, h⟩

/-- The cells of a row of sevens behind k rounds. -/
def sevenC (n : Nat) : Nat → Array Value
  | 0 => Array.replicate n (.int .u8 0)
  | k + 1 => (sevenC n k).setIfInBounds k (.int .u8 55)
theorem sevenC_size (n : Nat) : ∀ k, (sevenC n k).size = n
  | 0 => by simp [sevenC]
  | k + 1 => by rw [sevenC, Array.size_setIfInBounds, sevenC_size]
theorem sevenC_get (n : Nat) : ∀ k, k ≤ n → ∀ j, j < n → (sevenC n k)[j]? = some (.int .u8 (if j < k then 55 else 0))
  | 0, _, j, hj => by rw [if_neg (by omega), sevenC, Array.getElem?_replicate, if_pos hj]
  | k + 1, hk, j, hj => by
    rw [sevenC, Array.getElem?_setIfInBounds]
    by_cases h : k = j
    · rw [if_pos h, if_pos (by rw [sevenC_size]; omega), if_pos (by omega)]
    · rw [if_neg h, sevenC_get n k (by omega) j hj]
      by_cases h2 : j < k
      · rw [if_pos h2, if_pos (by omega)]
      · rw [if_neg h2, if_neg (by omega)]
theorem seven_turned (n p : Nat) (c : Int) : (sevenC n n).setIfInBounds p (.int .u8 c) = ((turned n p c).map (Value.int .u8)).toArray := by
  apply Array.ext_getElem?
  intro j
  have e : (((turned n p c).map (Value.int .u8)).toArray)[j]? = ((turned n p c).map (Value.int .u8))[j]? := List.getElem?_toArray
  rw [Array.getElem?_setIfInBounds, e, List.getElem?_map, turned, List.getElem?_set]
  by_cases hj : j < n
  · by_cases h : p = j
    · subst h
      rw [if_pos rfl, if_pos (by rw [sevenC_size]; exact hj), if_pos rfl, if_pos (by simpa using hj)]; rfl
    · rw [if_neg h, if_neg h, sevenC_get n n (Nat.le_refl _) j hj, if_pos hj, List.getElem?_replicate, if_pos hj]; rfl
  · by_cases h : p = j
    · subst h
      rw [if_pos rfl, if_neg (by rw [sevenC_size]; exact hj), if_pos rfl, if_neg (by simpa using hj)]; rfl
    · rw [if_neg h, if_neg h, Array.getElem?_eq_none (by rw [sevenC_size]; omega), List.getElem?_eq_none (by simpa using hj)]; rfl
end Go.Proofs.Ytegbbiigjplckaa
