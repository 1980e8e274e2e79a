/- For CacheDies: which blocks are changed, and what stands in them. -/
import Derived.Test.YtlomogicfhpljaaGreatDoorCb1
namespace Go.Proofs.YtlomogicfhpljaaGreatDoor
open Go.RowKit Go.Extern.Stop Go.Stop Go.Extern Go.Maps
set_option maxRecDepth 100000

abbrev bitOf (bl : Int) (k : Nat) : Prop := bits .and .i64 (bl / 2 ^ k) 1 = 1
/-- The first eight blocks whose bit is set, below k. -/
def sel (bl : Int) : Nat → List Nat
  | 0 => []
  | k + 1 => if bitOf bl k ∧ (sel bl k).length < 8 then sel bl k ++ [k] else sel bl k
theorem sel_lt (bl : Int) : ∀ k, ∀ j ∈ sel bl k, j < k
  | 0, j, h => by cases h
  | k + 1, j, h => by
    unfold sel at h
    split at h
    · rcases List.mem_append.1 h with h | h
      · have := sel_lt bl k j h; omega
      · have := List.mem_singleton.1 h; omega
    · have := sel_lt bl k j h; omega
theorem sel_few (bl : Int) : ∀ k, (sel bl k).length ≤ 8
  | 0 => by simp [sel]
  | k + 1 => by
    unfold sel
    split
    · rw [List.length_append, List.length_singleton]; omega
    · exact sel_few bl k
theorem sel_yes {bl : Int} {k : Nat} (h : bitOf bl k) (h8 : (sel bl k).length < 8) : sel bl (k + 1) = sel bl k ++ [k] := by rw [sel, if_pos ⟨h, h8⟩]
theorem sel_no {bl : Int} {k : Nat} (h : ¬ bitOf bl k) : sel bl (k + 1) = sel bl k := by rw [sel, if_neg (fun e => h e.1)]
theorem sel_full {bl : Int} {k : Nat} (h8 : ¬ (sel bl k).length < 8) : sel bl (k + 1) = sel bl k := by rw [sel, if_neg (fun e => h8 e.2)]
theorem sel_stays {bl : Int} {k : Nat} (h8 : ¬ (sel bl k).length < 8) : ∀ m, sel bl (k + m) = sel bl k
  | 0 => rfl
  | m + 1 => by
    have := sel_stays h8 m
    rw [← Nat.add_assoc, sel_full (by rw [this]; exact h8), this]
/-- Where a loop over the blocks stops, all are met. -/
theorem sel_end {bl : Int} {k : Nat} (hk : k ≤ 12) (h : ¬ (k < 12 ∧ (sel bl k).length < 8)) : sel bl k = sel bl 12 := by
  by_cases e : k = 12
  · rw [e]
  · have := sel_stays (bl := bl) (k := k) (fun e2 => h ⟨by omega, e2⟩) (12 - k)
    rw [show k + (12 - k) = 12 by omega] at this
    exact this.symm
/-- The changes: the same row in each. -/
def allM (R : List Int) (s : List Nat) : Chg := s.map fun (j : Nat) => ((j : Int), R)
theorem allM_len (R : List Int) (s : List Nat) : (allM R s).length = s.length := by simp [allM]
theorem allM_mem {R : List Int} {s : List Nat} {p : Int × List Int} : p ∈ allM R s ↔ ∃ j ∈ s, p = ((j : Int), R) := by
  simp only [allM, List.mem_map]
  exact ⟨fun ⟨j, h1, h2⟩ => ⟨j, h1, h2.symm⟩, fun ⟨j, h1, h2⟩ => ⟨j, h1, h2.symm⟩⟩
theorem ins_last (x : Int × List Int) : ∀ M : Chg, (∀ p ∈ M, p.1 < x.1) → insM x M = M ++ [x]
  | [], _ => rfl
  | y :: r, h => by
    unfold insM
    rw [if_neg (by have := h y (by simp); omega), ins_last x r (fun p hp => h p (by simp [hp]))]
    rfl
theorem allM_put (R : List Int) (s : List Nat) (k : Nat) (h : ∀ j ∈ s, j < k) : putM k R (allM R s) = allM R (s ++ [k]) := by
  have hlt : ∀ p ∈ allM R s, p.1 < (k : Int) := fun p hp => by
    obtain ⟨j, hj, rfl⟩ := allM_mem.1 hp
    have := h j hj
    show (j : Int) < _
    omega
  unfold putM
  rw [List.filter_eq_self.2 (fun p hp => by have := hlt p hp; simp; omega), ins_last _ _ hlt]
  simp [allM]
theorem allM_none (R : List Int) (s : List Nat) (k : Nat) (h : ∀ j ∈ s, j < k) : hasM k (allM R s) = false := by
  cases hh : hasM k (allM R s) with
  | false => rfl
  | true =>
    obtain ⟨p, hp, e⟩ := hasM_iff.1 hh
    obtain ⟨j, hj, rfl⟩ := allM_mem.1 hp
    have := h j hj
    simp at e
    omega
abbrev fill7 : List Int := fillL 7
/-- What stands in a block ahead of the last step, and behind it. -/
def rowA : List Int := layL zeroRow 0 (fill7.take 5)
def rowB (x y : Int) : List Int := layL rowA 3 [x, y]
theorem fill7_row : Row fill7 := ⟨fillL_len 7, fillL_range 7⟩
theorem rowA_row : Row rowA := layL_row zeroRow_row (fun z hz => fill7_row.2 z (List.mem_of_mem_take hz)) (by simp [fill7_row.1])
theorem rowB_row {x y : Int} (hx : 0 ≤ x ∧ x ≤ 255) (hy : 0 ≤ y ∧ y ≤ 255) : Row (rowB x y) := layL_row rowA_row (by simp; exact ⟨hx, hy⟩) (by simp)
theorem rowA_get (k : Nat) (hk : k < 5) : rowA.getD k 0 = fill7.getD k 0 := by
  have h5 : (fill7.take 5).length = 5 := by simp [fill7_row.1]
  unfold rowA
  rw [layL_get zeroRow_row (by omega), if_pos (by omega)]
  simp only [List.getD_eq_getElem?_getD, Nat.sub_zero, List.getElem?_take, if_pos hk]
theorem rowB_get (x y : Int) (k : Nat) (hk : k < 5) : (rowB x y).getD k 0 = if k = 3 then x else if k = 4 then y else fill7.getD k 0 := by
  unfold rowB
  rw [layL_get rowA_row (by simp)]
  match k, hk with
  | 0, _ => have := rowA_get 0 (by omega); simpa using this
  | 1, _ => have := rowA_get 1 (by omega); simpa using this
  | 2, _ => have := rowA_get 2 (by omega); simpa using this
  | 3, _ => simp
  | 4, _ => simp
theorem row_take3 {zs : List Int} (hz : Row zs) (h : ∀ k, k < 3 → zs.getD k 0 = fill7.getD k 0) : zs.take 3 = fill7.take 3 := by
  apply List.ext_getElem?
  intro k
  rw [List.getElem?_take, List.getElem?_take]
  by_cases hk : k < 3
  · rw [if_pos hk, if_pos hk]
    have := h k hk
    simp only [List.getD_eq_getElem?_getD] at this
    have h1 : k < zs.length := by rw [hz.1]; omega
    have h2 : k < fill7.length := by rw [fill7_row.1]; omega
    rw [List.getElem?_eq_getElem h1, List.getElem?_eq_getElem h2] at this ⊢
    simpa using this
  · rw [if_neg hk, if_neg hk]
/-- The beginning of a row. -/
theorem bytes_take {w : World} {b n : Nat} {zs : List Int} (hz : zs.length = 128) (h : BytesAt w (.slice (some ⟨b, 0, none⟩) 128 128) zs) (hn : n ≤ 128) (h0 : 0 < n) : BytesAt w (.slice (some ⟨b, 0, none⟩) n 128) (zs.take n) := by
  obtain ⟨a, cap, hv, hr, hm, -, hc⟩ := h
  obtain ⟨b', off, ha, hlt, hcell⟩ := hc (by intro e; rw [e] at hz; simp at hz)
  have he := (Value.slice.inj hv).1
  rw [ha] at he
  simp only [Option.some.injEq, Addr.mk.injEq] at he
  obtain ⟨rfl, rfl, -⟩ := he
  have hl : (zs.take n).length = n := by rw [List.length_take, hz]; omega
  refine ⟨_, 128, by rw [hl], fun z hz => hr z (List.mem_of_mem_take hz), by rw [hl]; unfold maxLen; omega, fun e => (by cases e), fun _ => ⟨b, 0, rfl, hlt, fun k hk => ?_⟩⟩
  rw [hl] at hk
  rw [hcell k (by omega)]
  simp only [List.getD_eq_getElem?_getD, List.getElem?_take, if_pos hk]
end Go.Proofs.YtlomogicfhpljaaGreatDoor
