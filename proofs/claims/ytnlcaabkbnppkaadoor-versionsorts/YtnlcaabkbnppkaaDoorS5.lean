/- Two rows in order, merged: what the search finds. -/
import Derived.Test.YtnlcaabkbnppkaaDoorS4
import Derived.Laws.Shifts
namespace Go.Proofs.YtnlcaabkbnppkaaDoor
open Go Go.RowKit
set_option maxRecDepth 100000

theorem srt_get {l : List TT} (h : Srt l) {i j : Nat} (hij : i < j) {x y : TT} (hx : l[i]? = some x) (hy : l[j]? = some y) : ltT x y := by
  obtain ⟨h1, rfl⟩ := List.getElem?_eq_some_iff.1 hx
  obtain ⟨h2, rfl⟩ := List.getElem?_eq_some_iff.1 hy
  exact List.pairwise_iff_getElem.1 h i j h1 h2 hij
theorem ltT_less {x y : TT} (h : ltT x y) (ht : y.2 < x.2) : cmpV x.1 y.1 < 0 := by
  rcases h with h | ⟨h, h'⟩
  · exact h
  · omega
/-- Of x and y, y from behind: what the comparison of y with x says. -/
theorem cmp_second {x y : TT} (ht : x.2 < y.2) : (cmpV y.1 x.1 < 0 ↔ ltT y x) ∧ (¬ cmpV y.1 x.1 < 0 ↔ ltT x y) := by
  constructor
  · exact ⟨ltT_of_less, fun h => ltT_less h ht⟩
  · constructor
    · intro h; exact ltT_of_not h ht
    · intro h k; exact ltT_asymm h (ltT_of_less k)
/-- What the search between two parts has found: the first s of A and the first h - s of B are below all others. -/
theorem parts_below {A B : List TT} {s h s0 r0 : Nat} (hA : Srt A) (hB : Srt B) (hs0 : s0 ≤ s) (hr0 : s ≤ r0) (hrA : r0 ≤ A.length) (hrh : r0 ≤ h) (hsB : h ≤ s0 + B.length)
    (h0 : s0 = 0 ∨ h = s0 + B.length) (h1 : r0 = h ∨ r0 = A.length)
    (lo : ∀ t x y, s0 ≤ t → t < s → A[t]? = some x → B[h - 1 - t]? = some y → ltT x y) (hi : ∀ t x y, s ≤ t → t < r0 → A[t]? = some x → B[h - 1 - t]? = some y → ltT y x) :
    ∀ x ∈ A.take s ++ B.take (h - s), ∀ y ∈ A.drop s ++ B.drop (h - s), ltT x y := by
  have eqOr : ∀ (l : List TT), Srt l → ∀ (i j : Nat) (x y : TT), l[i]? = some x → l[j]? = some y → i ≤ j → x = y ∨ ltT x y := by
    intro l hl i j x y hx hy hij
    rcases Nat.lt_or_eq_of_le hij with h | h
    · exact Or.inr (srt_get hl h hx hy)
    · subst h; rw [hx] at hy; exact Or.inl (Option.some.inj hy)
  have le_lt : ∀ x y z : TT, (x = y ∨ ltT x y) → ltT y z → ltT x z := fun x y z h k => by
    rcases h with rfl | h
    · exact k
    · exact ltT_trans h k
  have lt_le : ∀ x y z : TT, ltT x y → (y = z ∨ ltT y z) → ltT x z := fun x y z h k => by
    rcases k with rfl | k
    · exact h
    · exact ltT_trans h k
  intro x hx y hy
  have getT : ∀ (l : List TT) (n : Nat) (z : TT), z ∈ l.take n → ∃ i, i < n ∧ l[i]? = some z := by
    intro l n z hz
    obtain ⟨i, hi⟩ := List.getElem?_of_mem hz
    rw [List.getElem?_take] at hi
    split at hi
    · exact ⟨i, by assumption, hi⟩
    · cases hi
  have getD : ∀ (l : List TT) (n : Nat) (z : TT), z ∈ l.drop n → ∃ i, n ≤ i ∧ l[i]? = some z := by
    intro l n z hz
    obtain ⟨i, hi⟩ := List.getElem?_of_mem hz
    rw [List.getElem?_drop] at hi
    exact ⟨n + i, by omega, hi⟩
  rcases List.mem_append.1 hx with hx | hx <;> rcases List.mem_append.1 hy with hy | hy
  · obtain ⟨i, i1, i2⟩ := getT A s x hx
    obtain ⟨j, j1, j2⟩ := getD A s y hy
    exact srt_get hA (by omega) i2 j2
  · obtain ⟨i, i1, i2⟩ := getT A s x hx
    obtain ⟨j, j1, j2⟩ := getD B (h - s) y hy
    have jl := (List.getElem?_eq_some_iff.1 j2).1
    by_cases hs : s0 < s
    · obtain ⟨u, hu⟩ : ∃ u, A[s - 1]? = some u := ⟨_, List.getElem?_eq_getElem (by omega)⟩
      obtain ⟨v, hv⟩ : ∃ v, B[h - 1 - (s - 1)]? = some v := ⟨_, List.getElem?_eq_getElem (by omega)⟩
      have huv := lo (s - 1) u v (by omega) (by omega) hu hv
      exact lt_le _ _ _ (le_lt _ _ _ (eqOr A hA i (s - 1) x u i2 hu (by omega)) huv) (eqOr B hB _ j v y hv j2 (by omega))
    · exfalso; omega
  · obtain ⟨i, i1, i2⟩ := getT B (h - s) x hx
    obtain ⟨j, j1, j2⟩ := getD A s y hy
    have jl := (List.getElem?_eq_some_iff.1 j2).1
    by_cases hs : s < r0
    · obtain ⟨u, hu⟩ : ∃ u, A[s]? = some u := ⟨_, List.getElem?_eq_getElem (by omega)⟩
      obtain ⟨v, hv⟩ : ∃ v, B[h - 1 - s]? = some v := ⟨_, List.getElem?_eq_getElem (by omega)⟩
      have huv := hi s u v (by omega) hs hu hv
      exact lt_le _ _ _ (le_lt _ _ _ (eqOr B hB i (h - 1 - s) x v i2 hv (by omega)) huv) (eqOr A hA s j u y hu j2 (by omega))
    · exfalso; omega
  · obtain ⟨i, i1, i2⟩ := getT B (h - s) x hx
    obtain ⟨j, j1, j2⟩ := getD B (h - s) y hy
    exact srt_get hB (by omega) i2 j2
/-- One step of that search, either way. -/
theorem search_up {A B : List TT} {h s0 c : Nat} (hA : Srt A) (hB : Srt B) {u v : TT} (hu : A[c]? = some u) (hv : B[h - 1 - c]? = some v) (hc : c < h) (huv : ltT u v) : ∀ t x y, s0 ≤ t → t < c + 1 → A[t]? = some x → B[h - 1 - t]? = some y → ltT x y := by
  intro t x y _ ht hx hy
  rcases Nat.lt_or_eq_of_le (show t ≤ c by omega) with h1 | h1
  · have p1 := srt_get hA h1 hx hu
    have p2 := srt_get hB (show h - 1 - c < h - 1 - t by omega) hv hy
    exact ltT_trans (ltT_trans p1 huv) p2
  · subst h1
    rw [hu] at hx; rw [hv] at hy
    obtain rfl := Option.some.inj hx
    obtain rfl := Option.some.inj hy
    exact huv
theorem search_down {A B : List TT} {h r0 c : Nat} (hA : Srt A) (hB : Srt B) {u v : TT} (hu : A[c]? = some u) (hv : B[h - 1 - c]? = some v) (hr : r0 ≤ h) (huv : ltT v u) : ∀ t x y, c ≤ t → t < r0 → A[t]? = some x → B[h - 1 - t]? = some y → ltT y x := by
  intro t x y ht htr hx hy
  rcases Nat.lt_or_eq_of_le ht with h1 | h1
  · have p1 := srt_get hA h1 hu hx
    have p2 := srt_get hB (show h - 1 - t < h - 1 - c by omega) hy hv
    exact ltT_trans (ltT_trans p2 huv) p1
  · subst h1
    rw [hu] at hx; rw [hv] at hy
    obtain rfl := Option.some.inj hx
    obtain rfl := Option.some.inj hy
    exact huv
theorem merge_two {A1 B1 A2 B2 M1 M2 : List TT} (h1 : M1.Perm (A1 ++ B1)) (h2 : M2.Perm (A2 ++ B2)) (s1 : Srt M1) (s2 : Srt M2) (hlt : ∀ x ∈ A1 ++ B1, ∀ y ∈ A2 ++ B2, ltT x y) : (M1 ++ M2).Perm ((A1 ++ A2) ++ (B1 ++ B2)) ∧ Srt (M1 ++ M2) := by
  constructor
  · refine (h1.append h2).trans ?_
    rw [List.append_assoc, List.append_assoc]
    refine List.Perm.append_left A1 ?_
    rw [← List.append_assoc, ← List.append_assoc]
    exact List.Perm.append_right B2 List.perm_append_comm
  · rw [Srt, List.pairwise_append]
    exact ⟨s1, s2, fun x hx y hy => hlt x (h1.subset hx) y (h2.subset hy)⟩
theorem half_of (x : Int) (h0 : 0 ≤ x) (h1 : x < 4611686018427387904) : ∃ k : Nat, x / 2 = (k : Int) ∧ 2 * (k : Int) ≤ x ∧ x < 2 * (k : Int) + 2 := ⟨(x / 2).toNat, by omega, by omega, by omega⟩
theorem shr_u64 (g : Int) : Op.shift .shr .u64 g .u64 1 = pure (.int .u64 (g / 2)) := by
  have := shift_shr_any .u64 .u64 g 1 (by decide)
  exact this
end Go.Proofs.YtnlcaabkbnppkaaDoor
