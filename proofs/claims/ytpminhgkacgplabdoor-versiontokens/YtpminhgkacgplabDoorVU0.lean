/- Tokens put together, parted by points, are the same tokens. -/
import Derived.Test.YtpminhgkacgplabDoorVT0
namespace Go.Proofs.YtpminhgkacgplabDoor
open Go Go.RowKit
set_option maxRecDepth 100000

/-- A token's text, as the statement lays it. -/
def tokT (t : Tok) : List UInt8 := if t.1 = 3 ∧ t.2 = [] then [48] else t.2
def joinT : List Tok → List UInt8
  | [] => []
  | t :: l => tokT t ++ 46 :: joinT l
theorem joinT_app (l : List Tok) (t : Tok) : joinT (l ++ [t]) = joinT l ++ tokT t ++ [46] := by
  induction l with
  | nil => simp [joinT]
  | cons u l ih => rw [List.cons_append, joinT, ih, joinT]; simp
/-- What a token may be. -/
def okT (t : Tok) : Prop := (t = (0, [126])) ∨ (t.1 = 2 ∧ t.2 ≠ [] ∧ ∀ c ∈ t.2, clsB c = 2) ∨ (t.1 = 3 ∧ (∀ c ∈ t.2, clsB c = 3) ∧ (∀ c r, t.2 = c :: r → ¬ c = 48))
theorem drop_mem (p : UInt8 → Bool) : ∀ (s : List UInt8) (c : UInt8), c ∈ s.dropWhile p → c ∈ s
  | [], _, h => h
  | a :: s, c, h => by
    rw [List.dropWhile_cons] at h
    split at h
    · exact List.mem_cons_of_mem _ (drop_mem p s c h)
    · exact h
theorem raw_ok : ∀ (s : List UInt8) (t : Tok), t ∈ rawT s → t = (0, [126]) ∨ ((t.1 = 2 ∨ t.1 = 3) ∧ t.2 ≠ [] ∧ ∀ c ∈ t.2, clsB c = t.1)
  | [], _, h => by cases h
  | c :: r, t, h => by
    rw [rawT] at h
    split at h
    · exact raw_ok r t h
    · rename_i h1
      split at h
      · rename_i h2
        have hk : clsB c = 2 ∨ clsB c = 3 := by have := cls_cases c; omega
        split at h
        · simp only [List.mem_singleton] at h
          subst h
          exact Or.inr ⟨hk, by simp, fun d hd => by simp only [List.mem_singleton] at hd; rw [hd]⟩
        · rename_i t' l e
          rcases List.mem_cons.1 h with rfl | h
          · right
            have ih := raw_ok r t' (by rw [e]; simp)
            have hh : hdC r = clsB c := h2.2
            have hkind : t'.1 = clsB c := by
              cases r with
              | nil => exact absurd e (by simp [rawT])
              | cons d r =>
                have hd : clsB d = clsB c := hh
                rw [rawT, if_neg (by omega)] at e
                split at e
                · rename_i hh2
                  split at e
                  · cases e; exact hd
                  · rename_i t2 l2 e2
                    have : t' = (t2.1, d :: t2.2) := (List.cons.inj e).1.symm
                    -- the kind of the first run is its first byte's
                    have key : ∀ (r : List UInt8) (t2 : Tok) (l2 : List Tok), rawT r = t2 :: l2 → hdC r ≠ 1 → t2.1 = hdC r := by
                      intro r
                      induction r with
                      | nil => intro t2 l2 h _; cases h
                      | cons x r ihr =>
                        intro t2 l2 h hx
                        have hx' : ¬ clsB x = 1 := hx
                        rw [rawT, if_neg hx'] at h
                        split at h
                        · rename_i hz
                          split at h
                          · cases h; rfl
                          · rename_i t3 l3 e3
                            have h3 : t2 = (t3.1, x :: t3.2) := (List.cons.inj h).1.symm
                            have h4 := ihr t3 l3 e3 (by rw [hz.2]; exact hx')
                            rw [h3]
                            show t3.1 = clsB x
                            rw [h4, hz.2]
                        · cases h; rfl
                    have h5 := key r t2 l2 e2 (by rw [hh2.2]; omega)
                    rw [this]
                    show t2.1 = clsB c
                    rw [h5, hh2.2, hd]
                · cases e; exact hd
            refine ⟨by show t'.1 = 2 ∨ t'.1 = 3; omega, by simp, fun d hd => ?_⟩
            show clsB d = t'.1
            rcases List.mem_cons.1 hd with rfl | hd
            · exact hkind.symm
            · rcases ih with rfl | ⟨_, _, ih⟩
              · exfalso
                have : (0 : Nat) = clsB c := hkind
                omega
              · exact ih d hd
          · exact raw_ok r t (by rw [e]; simp [h])
      · rename_i h2
        rcases List.mem_cons.1 h with rfl | h
        · by_cases h0 : clsB c = 0
          · left; rw [h0, cls_tilde h0]
          · right
            exact ⟨by show clsB c = 2 ∨ clsB c = 3; have := cls_cases c; omega, by simp, fun d hd => by simp only [List.mem_singleton] at hd; rw [hd]⟩
        · exact raw_ok r t h
theorem toks_ok (s : List UInt8) (t : Tok) (h : t ∈ toksB s) : okT t := by
  rw [toksB, List.mem_map] at h
  obtain ⟨t', h1, rfl⟩ := h
  rcases raw_ok s t' h1 with rfl | ⟨hk, hne, hall⟩
  · exact Or.inl rfl
  · right
    rcases hk with hk | hk
    · left
      have e : stripT t' = t' := by unfold stripT; rw [if_neg (by omega)]
      rw [e]
      exact ⟨hk, hne, fun c hc => by rw [hall c hc, hk]⟩
    · right
      have e : stripT t' = (3, t'.2.dropWhile (· == 48)) := by unfold stripT; rw [if_pos hk]
      rw [e]
      refine ⟨rfl, fun c hc => by rw [hall c (drop_mem _ _ _ hc), hk], fun c r hcr => ?_⟩
      have := drop_head _ t'.2 c r hcr
      simpa using this
theorem tokT_toks (t : Tok) (h : okT t) : toksB (tokT t) = [t] := by
  obtain ⟨k, s⟩ := t
  rcases h with h | ⟨h1, h2, h3⟩ | ⟨h1, h2, h3⟩
  · cases h; decide
  · have hk : k = 2 := h1
    subst hk
    have hs : s ≠ [] := h2
    have := raw_run (k := 2) (Or.inl rfl) s [] hs h3 (by show (1 : Nat) ≠ 2; decide)
    rw [List.append_nil] at this
    rw [tokT, if_neg (by simp), toksB, this]; rfl
  · have hk : k = 3 := h1
    subst hk
    cases s with
    | nil => decide
    | cons c r =>
      rw [tokT, if_neg (by simp), toks_digits _ h2 (by simp), List.dropWhile_cons, if_neg (by simpa using h3 c r rfl)]
theorem joinT_toks (l : List Tok) (h : ∀ t ∈ l, okT t) : toksB (joinT l) = l := by
  induction l with
  | nil => rfl
  | cons t l ih => rw [joinT, toks_sep 46 (by decide), tokT_toks t (h t (by simp)), ih (fun u hu => h u (by simp [hu]))]; rfl
theorem raw_bytes : ∀ s : List UInt8, ((rawT s).map (fun t => t.2.length)).sum ≤ s.length
  | [] => Nat.le_refl _
  | c :: r => by
    have ih := raw_bytes r
    rw [rawT]
    split
    · simp only [List.length_cons]; omega
    · split
      · split
        · simp
        · rename_i t l e
          rw [e] at ih
          simp only [List.map_cons, List.sum_cons, List.length_cons] at ih ⊢; omega
      · simp only [List.map_cons, List.sum_cons, List.length_cons, List.length_nil]; omega
theorem join_len (l : List Tok) : (joinT l).length ≤ (l.map (fun t => t.2.length)).sum + 2 * l.length := by
  induction l with
  | nil => exact Nat.le_refl _
  | cons t l ih =>
    have h1 : (tokT t).length ≤ t.2.length + 1 := by
      unfold tokT; split
      · simp
      · omega
    simp only [joinT, List.length_append, List.length_cons, List.map_cons, List.sum_cons]; omega
theorem strip_len (t : Tok) : (stripT t).2.length ≤ t.2.length := by
  unfold stripT; split
  · exact drop_len _ _
  · exact Nat.le_refl _
theorem toks_bytes (s : List UInt8) : ((toksB s).map (fun t => t.2.length)).sum ≤ s.length := by
  refine Nat.le_trans ?_ (raw_bytes s)
  rw [toksB]
  generalize rawT s = l
  induction l with
  | nil => exact Nat.le_refl _
  | cons t l ih =>
    have := strip_len t
    simp only [List.map_cons, List.sum_cons]; omega
theorem take_bytes (l : List Tok) (i : Nat) : ((l.take i).map (fun t => t.2.length)).sum ≤ (l.map (fun t => t.2.length)).sum := by
  have h := congrArg (fun m : List Tok => (m.map (fun t => t.2.length)).sum) (List.take_append_drop i l)
  simp only [List.map_append, List.sum_append] at h
  omega
theorem part_len (s : List UInt8) (i : Nat) : (joinT ((toksB s).take i)).length ≤ 3 * s.length := by
  have h1 := join_len ((toksB s).take i)
  have h2 := take_bytes (toksB s) i
  have h3 := toks_bytes s
  have h4 := toks_len s.length s (Nat.le_refl _)
  have h5 : ((toksB s).take i).length ≤ (toksB s).length := by rw [List.length_take]; omega
  omega
end Go.Proofs.YtpminhgkacgplabDoor
