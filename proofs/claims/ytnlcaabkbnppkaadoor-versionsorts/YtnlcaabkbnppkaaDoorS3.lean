/- The strict order of texts with their first places; what is put in order. -/
import Derived.Test.YtnlcaabkbnppkaaDoorS2
import Derived.Test.YtnlcaabkbnppkaaDoorV6
import Derived.Lib.QuietBelow
import Derived.BigQuiet
namespace Go.Proofs.YtnlcaabkbnppkaaDoor
open Go Go.RowKit
set_option maxRecDepth 100000

abbrev TT := List UInt8 × Nat
def ltT (x y : TT) : Prop := cmpV x.1 y.1 < 0 ∨ (cmpV x.1 y.1 = 0 ∧ x.2 < y.2)
theorem ltT_trans {x y z : TT} (h : ltT x y) (k : ltT y z) : ltT x z := by
  obtain ⟨o1, o2, o3, o4⟩ := order3 x.1 y.1 z.1
  have r1 := cmpV_rng x.1 y.1
  have r2 := cmpV_rng y.1 z.1
  rcases h with h | ⟨h, h'⟩ <;> rcases k with k | ⟨k, k'⟩
  · exact Or.inl (by have := cmpV_trans x.1 y.1 z.1 (by omega) (by omega); omega)
  · exact Or.inl (by rw [o4 k]; exact h)
  · exact Or.inl (by rw [o3 h]; exact k)
  · exact Or.inr ⟨by rw [o3 h]; exact k, by omega⟩
theorem ltT_asymm {x y : TT} (h : ltT x y) (k : ltT y x) : False := by
  have := cmpV_anti x.1 y.1
  rcases h with h | ⟨h, h'⟩ <;> rcases k with k | ⟨k, k'⟩ <;> omega
theorem ltT_of_less {x y : TT} (h : cmpV x.1 y.1 < 0) : ltT x y := Or.inl h
theorem ltT_of_not {x y : TT} (h : ¬ cmpV x.1 y.1 < 0) (ht : y.2 < x.2) : ltT y x := by
  have := cmpV_anti x.1 y.1
  by_cases e : cmpV x.1 y.1 = 0
  · exact Or.inr ⟨by omega, ht⟩
  · exact Or.inl (by omega)
abbrev Srt (l : List TT) : Prop := l.Pairwise ltT
def txt (l : List TT) : List (List UInt8) := l.map Prod.fst
abbrev cmpF : Value := .func (.func 10) #[] #[]
/-- Two texts of a row against each other, wherever the memory has grown. -/
theorem cmp_grown (x y : List UInt8) (w : World) (hx : x.length ≤ 1000000) (hy : y.length ≤ 1000000) : ∀ d os, Calls Tryd.prog 10 #[.string (mkB x), .string (mkB y)] (Go.Sort.grow (redrawn w d) os) fun e w'' => e = .returned (.int .i64 (cmpV x y)) ∧ ∃ p : Regrown, w'' = Go.Sort.grow (redrawn w p.d) p.os :=
  fun _ _ => Calls.regrown_of (compare_calls x y _ hx hy)
/-- One more of the row put where it belongs: what holds within. -/
structure InsI (A : List TT) (k : Nat) (x : TT) (M1 M2 : List TT) : Prop where
  perm : (M1 ++ M2).Perm (A.take k)
  srt : Srt (M1 ++ M2)
  up : ∀ y ∈ M2, ltT x y
theorem InsI.start {A : List TT} {k : Nat} {x : TT} {M : List TT} (hp : M.Perm (A.take k)) (hs : Srt M) : InsI A k x M [] := ⟨by simpa using hp, by simpa using hs, fun y hy => by cases hy⟩
theorem InsI.down {A : List TT} {k : Nat} {x y : TT} {M1 M2 : List TT} (h : InsI A k x (M1 ++ [y]) M2) (hl : cmpV x.1 y.1 < 0) : InsI A k x M1 (y :: M2) :=
  ⟨by have := h.perm; rwa [List.append_assoc] at this, by have := h.srt; rwa [List.append_assoc] at this, fun z hz => by
    rcases List.mem_cons.1 hz with rfl | hz
    · exact ltT_of_less hl
    · exact h.up z hz⟩
theorem InsI.end_ {A : List TT} {k : Nat} {x : TT} {M1 M2 : List TT} (h : InsI A k x M1 M2) (hx : A[k]? = some x) (hlow : ∀ y ∈ M1, ltT y x) : (M1 ++ x :: M2).Perm (A.take (k + 1)) ∧ Srt (M1 ++ x :: M2) := by
  have ht : A.take (k + 1) = A.take k ++ [x] := by rw [List.take_add_one, hx]; rfl
  constructor
  · rw [ht]
    refine List.Perm.trans ?_ (h.perm.append_right [x])
    rw [List.append_assoc]
    exact List.Perm.append_left M1 (List.perm_append_comm (l₁ := [x]) (l₂ := M2))
  · have hs := h.srt
    rw [Srt, List.pairwise_append] at hs ⊢
    refine ⟨hs.1, List.pairwise_cons.2 ⟨h.up, hs.2.1⟩, fun a ha b hb => ?_⟩
    rcases List.mem_cons.1 hb with rfl | hb
    · exact hlow a ha
    · exact hs.2.2 a ha b hb
theorem InsI.low {A : List TT} {k : Nat} {x y : TT} {M1 M2 : List TT} (h : InsI A k x (M1 ++ [y]) M2) (hn : ¬ cmpV x.1 y.1 < 0) (ht : ∀ z ∈ A.take k, z.2 < x.2) : ∀ z ∈ M1 ++ [y], ltT z x := by
  have hy : ltT y x := ltT_of_not hn (ht y (h.perm.subset (by simp)))
  intro z hz
  rcases List.mem_append.1 hz with hz | hz
  · have hs := h.srt
    rw [Srt, List.pairwise_append] at hs
    have h2 := hs.1
    rw [List.pairwise_append] at h2
    exact ltT_trans (h2.2.2 z hz y (by simp)) hy
  · simp only [List.mem_singleton] at hz; rw [hz]; exact hy
end Go.Proofs.YtnlcaabkbnppkaaDoor
