/- The document's own way to clean a list: each range in its place, merged with what it meets. It is the same list. -/
import Derived.Test.YtfnfhabepadikaaK9
namespace Go.Proofs.Ytfnfhabepadikaa
open Go Go.RowKit
set_option maxRecDepth 100000

def insF (s : List Rg × Rg) (y : Rg) : List Rg × Rg := if y.2 < s.2.1 ∨ s.2.2 < y.1 then (s.1 ++ [y], s.2) else (s.1, (min s.2.1 y.1, max s.2.2 y.2))
def ahd (x : Rg) (b : Rg) : Bool := decide (b.1 < x.1)
def placeL (rest : List Rg) (x : Rg) : List Rg := (rest.takeWhile (ahd x) ++ [x]) ++ rest.dropWhile (ahd x)
def insL (out : List Rg) (x : Rg) : List Rg := if x.1 = x.2 then out else placeL (out.foldl insF ([], x)).1 (out.foldl insF ([], x)).2
def rcl (L : List Rg) : List Rg := L.foldl insL []
def rcleanL (L : List Rg) : List Rg := if okB L then rcl L else []
theorem insF_is : ∀ (post : List Rg) (s : List Rg × Rg), Cln s.1 → s.2.1 < s.2.2 → (∀ b ∈ s.1, b.2 < s.2.1 ∨ s.2.2 < b.1) → (∀ b ∈ s.1, ∀ c ∈ post, b.2 < c.1) → Cln post →
    Cln (post.foldl insF s).1 ∧ (post.foldl insF s).2.1 < (post.foldl insF s).2.2 ∧ (∀ b ∈ (post.foldl insF s).1, b.2 < (post.foldl insF s).2.1 ∨ (post.foldl insF s).2.2 < b.1) ∧
    ∀ k, (inR (post.foldl insF s).1 k ∨ ((post.foldl insF s).2.1 ≤ k ∧ k < (post.foldl insF s).2.2)) ↔ (inR s.1 k ∨ (s.2.1 ≤ k ∧ k < s.2.2)) ∨ inR post k
  | [], s, h1, h2, h3, _, _ => ⟨h1, h2, h3, fun k => by simp [inR_nil]⟩
  | y :: post, (r, x), h1, h2, h3, h4, h5 => by
    obtain ⟨hy, hyp, hcp⟩ := h5
    dsimp only at h1 h2 h3 h4 ⊢
    rw [List.foldl_cons]
    by_cases hs : y.2 < x.1 ∨ x.2 < y.1
    · have e : insF (r, x) y = (r ++ [y], x) := by unfold insF; rw [if_pos hs]
      rw [e]
      obtain ⟨g1, g2, g3, g4⟩ := insF_is post (r ++ [y], x) (cln_append.2 ⟨h1, (cln_one _).2 hy, fun a ha b hb => by rw [List.mem_singleton] at hb; subst hb; exact h4 a ha _ List.mem_cons_self⟩) h2
        (fun b hb => by
          rcases List.mem_append.1 hb with hb | hb
          · exact h3 b hb
          · rw [List.mem_singleton] at hb; subst hb; exact hs)
        (fun b hb c hc => by
          rcases List.mem_append.1 hb with hb | hb
          · exact h4 b hb c (List.mem_cons_of_mem _ hc)
          · rw [List.mem_singleton] at hb; subst hb; exact hyp c hc) hcp
      refine ⟨g1, g2, g3, fun k => ?_⟩
      rw [g4, inR_append, inR_one, inR_cons]
      dsimp only
      constructor
      · rintro (((h | h) | h) | h)
        · exact Or.inl (Or.inl h)
        · exact Or.inr (Or.inl h)
        · exact Or.inl (Or.inr h)
        · exact Or.inr (Or.inr h)
      · rintro ((h | h) | h | h)
        · exact Or.inl (Or.inl (Or.inl h))
        · exact Or.inl (Or.inr h)
        · exact Or.inl (Or.inl (Or.inr h))
        · exact Or.inr h
    · have e : insF (r, x) y = (r, (min x.1 y.1, max x.2 y.2)) := by unfold insF; rw [if_neg hs]
      rw [e]
      have m1 : min x.1 y.1 ≤ x.1 ∧ min x.1 y.1 ≤ y.1 ∧ (min x.1 y.1 = x.1 ∨ min x.1 y.1 = y.1) := by omega
      have m2 : x.2 ≤ max x.2 y.2 ∧ y.2 ≤ max x.2 y.2 ∧ (max x.2 y.2 = x.2 ∨ max x.2 y.2 = y.2) := by omega
      generalize min x.1 y.1 = p at *
      generalize max x.2 y.2 = q at *
      obtain ⟨g1, g2, g3, g4⟩ := insF_is post (r, (p, q)) h1 (by dsimp only; omega)
        (fun b hb => by
          dsimp only
          have k1 := h3 b hb
          have k2 := h4 b hb y List.mem_cons_self
          have k3 := h1.ne b hb
          omega)
        (fun b hb c hc => h4 b hb c (List.mem_cons_of_mem _ hc)) hcp
      refine ⟨g1, g2, g3, fun k => ?_⟩
      rw [g4, inR_cons]
      dsimp only
      have hm : (p ≤ k ∧ k < q) ↔ (x.1 ≤ k ∧ k < x.2) ∨ (y.1 ≤ k ∧ k < y.2) := by omega
      rw [hm]
      constructor
      · rintro ((h | h | h) | h)
        · exact Or.inl (Or.inl h)
        · exact Or.inl (Or.inr h)
        · exact Or.inr (Or.inl h)
        · exact Or.inr (Or.inr h)
      · rintro ((h | h) | h | h)
        · exact Or.inl (Or.inl h)
        · exact Or.inl (Or.inr (Or.inl h))
        · exact Or.inl (Or.inr (Or.inr h))
        · exact Or.inr h
theorem ahd_drop : ∀ (l : List Rg) (x : Rg), Cln l → (∀ b ∈ l, b.2 < x.1 ∨ x.2 < b.1) → x.1 < x.2 → (∀ b ∈ l.takeWhile (ahd x), b.2 < x.1) ∧ ∀ b ∈ l.dropWhile (ahd x), x.2 < b.1
  | [], _, _, _, _ => ⟨fun _ h => by simp at h, fun _ h => by simp at h⟩
  | a :: l, x, hl, h, hx => by
    obtain ⟨hl1, hl2, hl3⟩ := hl
    by_cases ha : a.1 < x.1
    · have e : ahd x a = true := decide_eq_true ha
      rw [List.takeWhile_cons_of_pos e, List.dropWhile_cons_of_pos e]
      obtain ⟨i1, i2⟩ := ahd_drop l x hl3 (fun b hb => h b (List.mem_cons_of_mem _ hb)) hx
      refine ⟨fun b hb => ?_, i2⟩
      rcases List.mem_cons.1 hb with rfl | hb
      · have := h b List.mem_cons_self; omega
      · exact i1 b hb
    · have e : ¬ ahd x a = true := by unfold ahd; simpa using ha
      rw [List.takeWhile_cons_of_neg e, List.dropWhile_cons_of_neg e]
      refine ⟨fun _ h => by simp at h, fun b hb => ?_⟩
      have h0 := h a List.mem_cons_self
      rcases List.mem_cons.1 hb with rfl | hb
      · omega
      · have := hl2 b hb; omega
theorem insL_is {out : List Rg} {x : Rg} (ho : Cln out) (hx : x.1 ≤ x.2) : Cln (insL out x) ∧ ∀ k, inR (insL out x) k ↔ inR out k ∨ (x.1 ≤ k ∧ k < x.2) := by
  unfold insL
  split
  · exact ⟨ho, fun k => ⟨Or.inl, fun h => h.elim id (fun h => by omega)⟩⟩
  · obtain ⟨g1, g2, g3, g4⟩ := insF_is out ([], x) trivial (by dsimp only; omega) (fun _ h => by cases h) (fun _ h => by cases h) ho
    generalize out.foldl insF ([], x) = s at *
    obtain ⟨r, z⟩ := s
    dsimp only at *
    obtain ⟨d1, d2⟩ := ahd_drop r z g1 g3 g2
    have hsp := List.takeWhile_append_dropWhile (p := ahd z) (l := r)
    unfold placeL
    generalize r.takeWhile (ahd z) = t at *
    generalize r.dropWhile (ahd z) = d at *
    subst hsp
    obtain ⟨c1, c2, c3⟩ := cln_append.1 g1
    refine ⟨cln_append.2 ⟨cln_append.2 ⟨c1, (cln_one _).2 g2, fun a ha b hb => by rw [List.mem_singleton] at hb; subst hb; exact d1 a ha⟩, c2, fun a ha b hb => ?_⟩, fun k => ?_⟩
    · rcases List.mem_append.1 ha with ha | ha
      · exact c3 a ha b hb
      · rw [List.mem_singleton] at ha; subst ha; exact d2 b hb
    · have e : (inR [] k ∨ (x.1 ≤ k ∧ k < x.2)) ∨ inR out k ↔ inR out k ∨ (x.1 ≤ k ∧ k < x.2) := by
        rw [or_comm]; exact or_congr Iff.rfl ⟨fun h => h.elim (fun h => absurd h (inR_nil _)) id, Or.inr⟩
      rw [← e, ← g4, inR_append, inR_append, inR_append, inR_one]
      constructor
      · rintro ((h | h) | h)
        · exact Or.inl (Or.inl h)
        · exact Or.inr h
        · exact Or.inl (Or.inr h)
      · rintro ((h | h) | h)
        · exact Or.inl (Or.inl h)
        · exact Or.inr h
        · exact Or.inl (Or.inr h)
theorem rcl_is : ∀ (L out : List Rg), Cln out → (∀ a ∈ L, a.1 ≤ a.2) → Cln (L.foldl insL out) ∧ ∀ k, inR (L.foldl insL out) k ↔ inR out k ∨ inR L k
  | [], out, h, _ => ⟨h, fun k => by simp [inR_nil]⟩
  | a :: L, out, h, hL => by
    obtain ⟨i1, i2⟩ := insL_is h (hL a List.mem_cons_self)
    obtain ⟨r1, r2⟩ := rcl_is L (insL out a) i1 fun b hb => hL b (List.mem_cons_of_mem _ hb)
    refine ⟨r1, fun k => ?_⟩
    rw [List.foldl_cons, r2, i2, inR_cons, or_assoc]
theorem rcleanL_eq (L : List Rg) : rcleanL L = cleanL L := by
  unfold rcleanL
  cases h : okB L
  · rw [cleanL_bad (fun h' => by rw [(okB_iff L).2 h'] at h; cases h)]; rfl
  · have ho := (okB_iff L).1 h
    obtain ⟨r1, r2⟩ := rcl_is L [] trivial fun a ha => (ho.2 a ha).2.1
    exact IsCl.unique (l := L) ⟨r1, fun k => (r2 k).trans ⟨fun h => h.elim (fun h => absurd h (inR_nil _)) id, Or.inr⟩⟩ (cleanL_is ho)
theorem insF_len : ∀ (post : List Rg) (s : List Rg × Rg), (post.foldl insF s).1.length ≤ s.1.length + post.length
  | [], s => Nat.le_refl _
  | y :: post, s => by
    rw [List.foldl_cons]
    have := insF_len post (insF s y)
    have h2 : (insF s y).1.length ≤ s.1.length + 1 := by
      unfold insF; split
      · simp
      · exact Nat.le_succ _
    simp only [List.length_cons]; omega
theorem placeL_len (r : List Rg) (x : Rg) : (placeL r x).length = r.length + 1 := by
  have h := congrArg List.length (List.takeWhile_append_dropWhile (p := ahd x) (l := r))
  unfold placeL
  simp only [List.length_append, List.length_singleton] at h ⊢
  omega
theorem insL_len (out : List Rg) (x : Rg) : (insL out x).length ≤ out.length + 1 := by
  unfold insL
  split
  · exact Nat.le_succ _
  · rw [placeL_len]; have := insF_len out ([], x); simp only [List.length_nil] at this; omega
theorem rcl_len : ∀ (L out : List Rg), (L.foldl insL out).length ≤ out.length + L.length
  | [], out => Nat.le_refl _
  | a :: L, out => by
    rw [List.foldl_cons]
    have := rcl_len L (insL out a); have := insL_len out a
    simp only [List.length_cons]; omega
theorem insF_snoc (l : List Rg) (y : Rg) (s : List Rg × Rg) : (l ++ [y]).foldl insF s = insF (l.foldl insF s) y := by rw [List.foldl_append]; rfl
theorem rcl_snoc (l : List Rg) (y : Rg) (o : List Rg) : (l ++ [y]).foldl insL o = insL (l.foldl insL o) y := by rw [List.foldl_append]; rfl
end Go.Proofs.Ytfnfhabepadikaa
