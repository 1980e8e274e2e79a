/- What the statements of layer 18 ask, of lists. -/
import Derived.Test.YtfnfhabepadikaaKD
namespace Go.Proofs.Ytfnfhabepadikaa
open Go Go.RowKit
set_option maxRecDepth 100000

/-- All of a piece's bytes lie in the list. -/
def Good (C : List Rg) (s q : Int) : Prop := ∀ k, q ≤ k → k < q + s → inR C k
theorem good_found {C : List Rg} {s q : Int} (h : findL C s = some q) (hs : 1 ≤ s) : Good C s q := by
  obtain ⟨-, -, a, ha, h1, h2⟩ := find_some h
  exact fun k hk1 hk2 => ⟨a, ha, by omega, by omega⟩
theorem found_of_good {C : List Rg} {s p : Int} (hC : Cln C) (hs : 1 ≤ s) (hp : p % 16 = 0) (h : Good C s p) : ∃ q, findL C s = some q ∧ q ≤ p := by
  obtain ⟨n, hn⟩ := Int.eq_ofNat_of_zero_le (show 0 ≤ s - 1 by omega)
  obtain ⟨a, ha, h1, h2⟩ := run_in n hC p fun k hk1 hk2 => h k hk1 (by omega)
  exact find_first hC (by omega) hp ⟨a, ha, h1, by omega⟩
theorem first_is {C : List Rg} {s p : Int} (hC : Cln C) (hs : 1 ≤ s) (hp : p % 16 = 0) (h : Good C s p) (hno : ∀ q, 0 ≤ q → q < p → q % 16 = 0 → ¬ Good C s q) (h0 : ∀ k, inR C k → 0 ≤ k) : findL C s = some p := by
  obtain ⟨q, hq, hle⟩ := found_of_good hC hs hp h
  have hg := good_found hq hs
  have hq0 := h0 q (hg q (Int.le_refl _) (by omega))
  rcases Int.lt_or_eq_of_le hle with h1 | rfl
  · exact absurd hg (hno q hq0 h1 (find_some hq).2.1)
  · exact hq
theorem first_none {C : List Rg} {s e : Int} (hs : 1 ≤ s) (hno : ∀ q, 0 ≤ q → q < e → q % 16 = 0 → ¬ Good C s q) (h0 : ∀ k, inR C k → 0 ≤ k ∧ k < e) : findL C s = none := by
  cases hq : findL C s with
  | none => rfl
  | some q =>
    have hg := good_found hq hs
    obtain ⟨h1, h2⟩ := h0 q (hg q (Int.le_refl _) (by omega))
    exact absurd hg (hno q h1 h2 (find_some hq).2.1)
theorem less_found {C : List Rg} {s t p : Int} (hC : Cln C) (h : findL C s = some p) (ht : 1 ≤ t) (hts : t ≤ s) : ∃ b, findL C t = some b ∧ b ≤ p := by
  have hg := good_found h (by omega)
  exact found_of_good hC ht (find_some h).2.1 fun k hk1 hk2 => hg k hk1 (by omega)
/-- Small ranges of a statement. -/
def Small (L : List Rg) (e : Int) : Prop := ∀ a ∈ L, 0 ≤ a.1 ∧ a.1 ≤ a.2 ∧ a.2 ≤ e
theorem Small.push {L : List Rg} {e : Int} (h : Small L e) {x y : Int} (h1 : 0 ≤ x) (h2 : x ≤ y) (h3 : y ≤ e) : Small (L ++ [(x, y)]) e := fun a ha => by
  rcases List.mem_append.1 ha with ha | ha
  · exact h a ha
  · rw [List.mem_singleton] at ha; subst ha; exact ⟨h1, h2, h3⟩
theorem Small.ok {L : List Rg} {e : Int} (h : Small L e) (he : e ≤ 1073741824) (hl : L.length ≤ 32) : OkL L := ⟨hl, fun a ha => by obtain ⟨h1, h2, h3⟩ := h a ha; exact ⟨h1, h2, by omega⟩⟩
theorem Small.inR {L : List Rg} {e : Int} (h : Small L e) {k : Int} (hk : inR L k) : 0 ≤ k ∧ k < e := by
  obtain ⟨a, ha, h1, h2⟩ := hk
  obtain ⟨h3, h4, h5⟩ := h a ha
  omega
theorem Small.clean {L : List Rg} {e : Int} (h : Small L e) (he : e ≤ 1073741824) (hl : L.length ≤ 32) : Cln (cleanL L) ∧ (∀ k, Go.Proofs.Ytfnfhabepadikaa.inR (cleanL L) k ↔ Go.Proofs.Ytfnfhabepadikaa.inR L k) := cleanL_is (h.ok he hl)
/-- A prefix of what is placed. -/
theorem allA_prefix : ∀ (Z : List Int) {M : List Rg} {acc P : List Int}, allA M acc Z = some P → ∃ t, P = acc ++ t ∧ t.length = Z.length
  | [], M, acc, P, h => ⟨[], by rw [allA] at h; simp at h; simp [h], rfl⟩
  | s :: ss, M, acc, P, h => by
    rw [allA] at h
    cases hf : findL M s with
    | none => rw [hf] at h; simp at h
    | some p =>
      rw [hf] at h
      obtain ⟨t, ht, hl⟩ := allA_prefix ss h
      exact ⟨p :: t, by rw [ht]; simp, by simp [hl]⟩
theorem allR_len {C : List Rg} {Z P : List Int} (h : allR C Z = some P) : P.length = Z.length := by
  unfold allR at h
  split at h
  · obtain ⟨t, rfl, hl⟩ := allA_prefix Z h
    simpa using hl
  · cases h
/-- What is placed, step by step: M is what is left ahead of piece i. -/
def StepA (Z P : List Int) (i : Nat) (M : List Rg) : Prop := Held M ∧ ∃ acc : List Int, acc.length = i ∧ allA M acc (Z.drop i) = some P
theorem stepA_begin {L : List Rg} {Z P : List Int} (h : allR (cleanL L) Z = some P) : StepA Z P 0 (cleanL L) := by
  unfold allR at h
  split at h
  · exact ⟨held_clean L, [], rfl, h⟩
  · cases h
theorem stepA_step {Z P : List Int} {i : Nat} {M : List Rg} (h : StepA Z P i M) {z : Int} (hz : Z[i]? = some z) :
    ∃ p, P[i]? = some p ∧ 0 ≤ z ∧ 0 ≤ p ∧ p % 16 = 0 ∧ (∀ k, p ≤ k → k < p + max z 1 → inR M k) ∧ StepA Z P (i + 1) (takeL M (p, upZ (p + max z 1))) := by
  obtain ⟨hH, acc, hl, ha⟩ := h
  cases hf : findL M z with
  | none => rw [allA_none hz hf] at ha; cases ha
  | some p =>
    rw [allA_some hz hf] at ha
    obtain ⟨h1, h2, h3⟩ := findL_bounds hH hf
    refine ⟨p, ?_, h1, h2, (find_some hf).2.1, ?_, hH.takes _, acc ++ [p], by simp [hl], ha⟩
    · obtain ⟨t, ht, -⟩ := allA_prefix _ ha
      rw [ht, ← hl]
      simp
    · obtain ⟨-, -, a, h4, h5, h6⟩ := find_some hf
      exact fun k hk1 hk2 => ⟨a, h4, by omega, by omega⟩
theorem clean_perm {L K : List Rg} (h : ∀ a, a ∈ K ↔ a ∈ L) (hL : OkL L) (hK : OkL K) : cleanL K = cleanL L :=
  IsCl.unique (l := L) ⟨(cleanL_is hK).1, fun k => ((cleanL_is hK).2 k).trans (inR_perm h k)⟩ (cleanL_is hL)
theorem clean_clean (L : List Rg) : cleanL (cleanL L) = cleanL L :=
  cleanL_self ⟨cleanL_len L, fun a ha => by obtain ⟨h1, h2, h3⟩ := cleanL_tame L a ha; exact ⟨h1, Int.le_of_lt h2, h3⟩⟩ (cleanL_cln L)
theorem take_take {C : List Rg} (h : Cln C) (r : Rg) : takeL (takeL C r) r = takeL C r :=
  cln_unique (take_cln (take_cln h r) r) (take_cln h r) fun k => by
    rw [take_in, take_in]
    exact ⟨fun h => h.1, fun h => ⟨h, h.2⟩⟩
theorem clean_take {L : List Rg} (r : Rg) (hl : (takeL (cleanL L) r).length ≤ 32) : cleanL (takeL (cleanL L) r) = takeL (cleanL L) r :=
  cleanL_self ⟨hl, fun a ha => by
    have h := (held_clean L).takes r
    have h1 := h.1.ne a ha
    obtain ⟨h2, h3⟩ := h.2 a ha
    exact ⟨h2, by omega, h3⟩⟩ (take_cln (cleanL_cln L) r)
theorem drop_in {C : List Rg} (hC : Cln C) {i : Nat} {p q : Int} (h : C[i]? = some (p, q)) (k : Int) : inR (C.drop (i + 1)) k ↔ inR (C.drop i) k ∧ ¬ (p ≤ k ∧ k < q) := by
  obtain ⟨h1, h2⟩ := List.getElem?_eq_some_iff.1 h
  have hd : C.drop i = (p, q) :: C.drop (i + 1) := by rw [List.drop_eq_getElem_cons h1, h2]
  have hc : Cln (C.drop i) := (cln_append.1 (show Cln (C.take i ++ C.drop i) by rw [List.take_append_drop]; exact hC)).2.1
  rw [hd] at hc ⊢
  rw [inR_cons]
  dsimp only
  constructor
  · intro hk
    refine ⟨Or.inr hk, ?_⟩
    obtain ⟨b, hb, h3, h4⟩ := hk
    have h5 := hc.2.1 b hb
    dsimp only at h5
    omega
  · rintro ⟨h3 | h3, h4⟩
    · exact absurd h3 h4
    · exact h3
theorem cln_pair {C : List Rg} (hC : Cln C) {i : Nat} {a b : Rg} (ha : C[i]? = some a) (hb : C[i + 1]? = some b) : a.2 < b.1 := by
  obtain ⟨h1, h2⟩ := List.getElem?_eq_some_iff.1 ha
  have hd : C.drop i = a :: C.drop (i + 1) := by rw [List.drop_eq_getElem_cons h1, h2]
  have hc : Cln (C.drop i) := (cln_append.1 (show Cln (C.take i ++ C.drop i) by rw [List.take_append_drop]; exact hC)).2.1
  rw [hd] at hc
  refine hc.2.1 b (List.mem_iff_getElem?.2 ⟨0, ?_⟩)
  rw [List.getElem?_drop]; exact hb
/-- A list turned. -/
theorem turn_mem {n t : Nat} (hn : 0 < n) {L K : List Rg} (hL : L.length = n) (hK : K.length = n) (h : ∀ i, i < n → K[i]? = L[(i + t) % n]?) (a : Rg) : a ∈ K ↔ a ∈ L := by
  constructor
  · intro ha
    obtain ⟨i, hi⟩ := List.mem_iff_getElem?.1 ha
    have hlt := (List.getElem?_eq_some_iff.1 hi).1
    rw [h i (by omega)] at hi
    exact List.mem_iff_getElem?.2 ⟨_, hi⟩
  · intro ha
    obtain ⟨j, hj⟩ := List.mem_iff_getElem?.1 ha
    have hlt : j < n := by have := (List.getElem?_eq_some_iff.1 hj).1; omega
    refine List.mem_iff_getElem?.2 ⟨(j + (n - t % n)) % n, ?_⟩
    rw [h _ (Nat.mod_lt _ hn), ← hj]
    congr 1
    have h1 := Nat.mod_lt t hn
    rw [Nat.add_mod, Nat.mod_mod, ← Nat.add_mod, Nat.add_assoc, Nat.add_mod, show (n - t % n + t) % n = 0 by
      have h2 := Nat.div_add_mod t n
      rw [show n - t % n + t = n + n * (t / n) by omega]
      simp]
    rw [Nat.add_zero, Nat.mod_mod, Nat.mod_eq_of_lt hlt]
theorem nat_of {f : Int} (h : 0 ≤ f) : ∃ n : Nat, f = (n : Int) := Int.eq_ofNat_of_zero_le h
theorem Box.set1 {w : World} {b : Nat} {x y : Int} (h : Box w b x y) (z : Int) : Box (w.setCell ⟨b, 1, none⟩ (.int .i64 z)).drew b x z := by
  have h2 : Box (w.setCell ⟨b, 1, none⟩ (.int .i64 z)) b x z := by
    refine ⟨?_, World.cell?_setCell_same _ _ _ h.c1, fun j => by have := h.fz j; simpa using this⟩
    rw [World.cell?_setCell_other w ⟨b, 1, none⟩ ⟨b, 0, none⟩ (.int .i64 z) (fun he => by injection he with _ h2 _; exact absurd h2 (by decide))]
    exact h.c0
  exact h2.below ((Below.refl _ _).drew)
theorem RgOwn.cells {base : Nat} {w : World} {v : Value} {L : List Rg} (h : RgOwn base w v L) : ∃ b, (L ≠ [] → ∃ cap, v = .slice (some ⟨b, 0, none⟩) L.length cap ∧ base ≤ b ∧ b < w.heap.size) ∧ ∀ k x, L[k]? = some x → w.cell? ⟨b, k * 2, none⟩ = some (.int .i64 x.1) ∧ w.cell? ⟨b, k * 2 + 1, none⟩ = some (.int .i64 x.2) := by
  by_cases hn : L = []
  · subst hn; exact ⟨0, fun h => absurd rfl h, fun k x hk => by simp at hk⟩
  · obtain ⟨g, cap, h1, -, h3, h4, -, h6⟩ := h.lt hn
    exact ⟨g, fun _ => ⟨cap, h1, h3, h4⟩, h6⟩
theorem turn_any {n t : Nat} {L K : List Rg} (hL : L.length = n) (hK : K.length = n) (h : ∀ i, i < n → K[i]? = L[(i + t) % n]?) (a : Rg) : a ∈ K ↔ a ∈ L := by
  rcases Nat.eq_zero_or_pos n with h0 | h0
  · subst h0
    rw [List.length_eq_zero_iff.1 hL, List.length_eq_zero_iff.1 hK]
  · exact turn_mem h0 hL hK h a
theorem clean_turn {n t : Nat} {L K : List Rg} (hL : L.length = n) (hK : K.length = n) (h : ∀ i, i < n → K[i]? = L[(i + t) % n]?) (ho : OkL L) : cleanL K = cleanL L :=
  have hm := turn_any hL hK h
  clean_perm hm ho ⟨by rw [hK, ← hL]; exact ho.1, fun a ha => ho.2 a ((hm a).1 ha)⟩
theorem Small.cleanB {L : List Rg} {e : Int} (h : Small L e) (he : e ≤ 1073741824) (hl : L.length ≤ 32) : ∀ a ∈ cleanL L, 0 ≤ a.1 ∧ a.1 < a.2 ∧ a.2 ≤ e := fun a ha => by
  obtain ⟨h1, h2, -⟩ := cleanL_tame L a ha
  have h3 := (h.inR (((h.clean he hl).2 (a.2 - 1)).1 ⟨a, ha, by omega, by omega⟩)).2
  exact ⟨h1, h2, by omega⟩
end Go.Proofs.Ytfnfhabepadikaa
