/- Several pieces, one behind the other, as lists. -/
import Derived.Test.YtfnfhabepadikaaK9
namespace Go.Proofs.Ytfnfhabepadikaa
open Go Go.RowKit
set_option maxRecDepth 100000

theorem rest_one {b r : Rg} (hb : b.1 < b.2) (hr : r.1 < r.2) (h : r.2 ≤ b.1) : restP b r = [b] := by
  unfold restP
  rw [if_neg (by omega), if_pos (by omega), show max b.1 r.2 = b.1 by omega]; rfl
theorem flat_after (r : Rg) (hr : r.1 < r.2) : ∀ l : List Rg, (∀ b ∈ l, b.1 < b.2) → (∀ b ∈ l, r.2 ≤ b.1) → (l.flatMap fun a => restP a r) = l
  | [], _, _ => rfl
  | a :: l, h1, h2 => by
    rw [List.flatMap_cons, rest_one (h1 a List.mem_cons_self) hr (h2 a List.mem_cons_self), flat_after r hr l (fun b hb => h1 b (List.mem_cons_of_mem _ hb)) (fun b hb => h2 b (List.mem_cons_of_mem _ hb))]; rfl
theorem flat_len1 (r : Rg) (hr : r.1 < r.2) : ∀ l : List Rg, Cln l → (l.flatMap fun a => restP a r).length ≤ l.length + 1
  | [], _ => by simp
  | a :: l, hc => by
    rw [List.flatMap_cons, List.length_append, List.length_cons]
    have ih := flat_len1 r hr l hc.2.2
    have h2 := rest_len a r
    by_cases h : (restP a r).length ≤ 1
    · omega
    · have h3 : r.2 < a.2 := by
        rcases Int.lt_or_le r.2 a.2 with h3 | h3
        · exact h3
        · exfalso; apply h; unfold restP; rw [if_neg (show ¬ max a.1 r.2 < a.2 by omega)]; split <;> simp
      rw [flat_after r hr l (fun b hb => hc.2.2.ne b hb) (fun b hb => by have := hc.2.1 b hb; omega)]
      omega
theorem take_len1 (r : Rg) {l : List Rg} (h : Cln l) : (takeL l r).length ≤ l.length + 1 := by
  unfold takeL; split
  · omega
  · exact flat_len1 r (by omega) l h
/-- Ranges of memory, clean. -/
def Held (l : List Rg) : Prop := Cln l ∧ ∀ a ∈ l, 0 ≤ a.1 ∧ a.2 ≤ 1073741824
theorem held_clean (L : List Rg) : Held (cleanL L) := ⟨cleanL_cln L, fun a ha => by obtain ⟨h1, h2, h3⟩ := cleanL_tame L a ha; exact ⟨h1, h3⟩⟩
theorem Held.tame {l : List Rg} (h : Held l) : ∀ a ∈ l, 0 ≤ a.1 ∧ a.1 ≤ 1099511627 ∧ 0 ≤ a.2 ∧ a.2 ≤ 1099511627 := fun a ha => by
  have h1 := h.1.ne a ha; obtain ⟨h2, h3⟩ := h.2 a ha; omega
theorem Held.takes {l : List Rg} (h : Held l) (r : Rg) : Held (takeL l r) := ⟨take_cln h.1 r, fun b hb => by
  unfold takeL at hb
  split at hb
  · exact h.2 b hb
  · obtain ⟨a, ha, h1, h2⟩ := flat_bounds l r b hb
    obtain ⟨h3, h4⟩ := h.2 a ha
    omega⟩
/-- A place for each size, in what those ahead leave. -/
def allA (left : List Rg) (acc : List Int) : List Int → Option (List Int)
  | [] => some acc
  | s :: ss => match findL left s with
    | none => none
    | some p => allA (takeL left (p, upZ (p + max s 1))) (acc ++ [p]) ss
def allR (C : List Rg) (Z : List Int) : Option (List Int) := if Z.length ≤ 16 then allA C [] Z else none
theorem allA_none {left : List Rg} {acc : List Int} {Z : List Int} {k : Nat} {z : Int} (hk : Z[k]? = some z) (hf : findL left z = none) : allA left acc (Z.drop k) = none := by
  obtain ⟨h1, h2⟩ := List.getElem?_eq_some_iff.1 hk
  rw [List.drop_eq_getElem_cons h1, h2, allA, hf]
theorem allA_some {left : List Rg} {acc : List Int} {Z : List Int} {k : Nat} {z p : Int} (hk : Z[k]? = some z) (hf : findL left z = some p) : allA left acc (Z.drop k) = allA (takeL left (p, upZ (p + max z 1))) (acc ++ [p]) (Z.drop (k + 1)) := by
  obtain ⟨h1, h2⟩ := List.getElem?_eq_some_iff.1 hk
  rw [List.drop_eq_getElem_cons h1, h2, allA, hf]
theorem findL_bounds {l : List Rg} (h : Held l) {z p : Int} (hf : findL l z = some p) : 0 ≤ z ∧ 0 ≤ p ∧ p + max z 1 ≤ 1073741824 := by
  obtain ⟨h1, _, a, ha, h2, h3⟩ := find_some hf
  obtain ⟨h4, h5⟩ := h.2 a ha
  omega
end Go.Proofs.Ytfnfhabepadikaa
