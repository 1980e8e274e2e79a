/- Names and paths as rows of bytes: which may be, how a path is parted and joined. -/
import Derived.Test.YthibelgeejgmeaaRows
import Derived.WalkKit
import Derived.WalkSpells
import Derived.ProofKit
import Derived.OpenShut
import Derived.RowKitTokens
import Derived.Deep.LoopGhost
import Derived.Deep.RegionWith
import Derived.Lib.IndexMore
import Derived.Lib.IndexBytes
import Derived.Lib.Join
import Derived.Lib.Bytealg
namespace Go.Proofs.Ythibelgeejgmeaa
open Go Go.RowKit
set_option maxRecDepth 100000

theorem hidden {p : Prop} (h : p) : Hid p := h

def signB (c : UInt8) : Bool := (decide (97 ≤ c.toNat) && decide (c.toNat ≤ 122)) || (decide (65 ≤ c.toNat) && decide (c.toNat ≤ 90)) || (decide (48 ≤ c.toNat) && decide (c.toNat ≤ 57)) || c == 46 || c == 43 || c == 45 || c == 95 || c == 126
def okB (s : List UInt8) : Bool := decide (1 ≤ s.length) && decide (s.length ≤ 27) && !(s == [46]) && !(s == [46, 46]) && s.all signB
def strokes : List UInt8 → List (List UInt8)
  | [] => [[]]
  | c :: r => if c = 47 then [] :: strokes r else match strokes r with | [] => [[c]] | x :: l => (c :: x) :: l
def mayB (l : List (List UInt8)) : Bool := decide (l.length ≤ 6) && l.all okB
def splitB (p : List UInt8) : Option (List (List UInt8)) :=
  if p = [47] then some [] else match p with | [] => none | c :: r => if c = 47 then (if mayB (strokes r) = true then some (strokes r) else none) else none
def flatB (l : List (List UInt8)) : List UInt8 := (l.map (fun x => (47 : UInt8) :: x)).flatten
def joinB (l : List (List UInt8)) : List UInt8 := if l = [] then [47] else flatB l

theorem strokes_ne (s : List UInt8) : strokes s ≠ [] := by
  cases s with
  | nil => simp [strokes]
  | cons c r => unfold strokes; split; · simp
                · split <;> simp
theorem flat_strokes (s : List UInt8) : flatB (strokes s) = 47 :: s := by
  induction s with
  | nil => simp [strokes, flatB]
  | cons c r ih =>
    unfold strokes
    split
    · rename_i h; subst h; rw [flatB, List.map_cons, List.flatten_cons]; rw [flatB] at ih; rw [ih]; rfl
    · split
      · rename_i h; exact absurd h (strokes_ne r)
      · rename_i x l h
        rw [h] at ih
        simp only [flatB, List.map_cons, List.flatten_cons, List.cons_append, List.cons.injEq, true_and] at ih ⊢
        exact ih
theorem strokes_flat (x : List UInt8) (l : List (List UInt8)) (hx : (47 : UInt8) ∉ x) (hl : ∀ y ∈ l, (47 : UInt8) ∉ y) : strokes (x ++ flatB l) = x :: l := by
  induction l generalizing x with
  | nil =>
    simp only [flatB, List.map_nil, List.flatten_nil, List.append_nil]
    induction x with
    | nil => rfl
    | cons c r ih =>
      have hc : c ≠ 47 := fun e => hx (by simp [e])
      rw [strokes, if_neg hc, ih (fun h => hx (by simp [h]))]
  | cons y l ih =>
    have e : x ++ flatB (y :: l) = x ++ (47 :: (y ++ flatB l)) := by simp [flatB]
    rw [e]
    have h2 := ih y (hl y (by simp)) (fun z hz => hl z (by simp [hz]))
    clear e ih
    induction x with
    | nil => rw [List.nil_append, strokes, if_pos rfl, h2]
    | cons c r ih =>
      have hc : c ≠ 47 := fun e => hx (by simp [e])
      rw [List.cons_append, strokes, if_neg hc, ih (fun h => hx (by simp [h]))]
theorem strokes_count (s : List UInt8) : (strokes s).length = s.count 47 + 1 := by
  induction s with
  | nil => rfl
  | cons c r ih =>
    unfold strokes
    split
    · rename_i h; subst h; simp [ih]
    · rename_i h
      have hc : (c :: r).count 47 = r.count 47 := by rw [List.count_cons]; simp [h]
      split
      · rename_i h2; exact absurd h2 (strokes_ne r)
      · rename_i x l h2; rw [h2] at ih; rw [hc]; simpa using ih
theorem sign_stroke : signB 47 = false := by decide
theorem ok_stroke {s : List UInt8} (h : okB s = true) : (47 : UInt8) ∉ s := by
  intro hm
  simp only [okB, Bool.and_eq_true, List.all_eq_true] at h
  have := h.2 47 hm
  rw [sign_stroke] at this; cases this
theorem ok_ne {s : List UInt8} (h : okB s = true) : s ≠ [] := by rintro rfl; simp [okB] at h
theorem ok_len {s : List UInt8} (h : okB s = true) : 1 ≤ s.length ∧ s.length ≤ 27 := by
  simp only [okB, Bool.and_eq_true, decide_eq_true_eq] at h; exact ⟨h.1.1.1.1, h.1.1.1.2⟩
theorem flat_len (l : List (List UInt8)) (h : ∀ x ∈ l, okB x = true) : (flatB l).length ≤ 28 * l.length ∧ 2 * l.length ≤ (flatB l).length := by
  induction l with
  | nil => simp [flatB]
  | cons x l ih =>
    have := ih (fun y hy => h y (by simp [hy])); have hx := ok_len (h x (by simp))
    have e : (flatB (x :: l)).length = 1 + x.length + (flatB l).length := by simp [flatB]; omega
    rw [e]; simp only [List.length_cons]; omega
theorem may_all {l : List (List UInt8)} (h : mayB l = true) : l.length ≤ 6 ∧ ∀ x ∈ l, okB x = true := by
  simpa [mayB] using h
theorem may_of {l : List (List UInt8)} (h : l.length ≤ 6) (h2 : ∀ x ∈ l, okB x = true) : mayB l = true := by simp [mayB, h]; exact h2
theorem split_may {p : List UInt8} {l : List (List UInt8)} (h : splitB p = some l) : mayB l = true := by
  unfold splitB at h
  split at h
  · cases h; rfl
  · split at h
    · cases h
    · split at h
      · split at h
        · rename_i h3; cases h; exact h3
        · cases h
      · cases h
theorem join_split {p : List UInt8} {l : List (List UInt8)} (h : splitB p = some l) : joinB l = p := by
  unfold splitB at h
  split at h
  · rename_i h1; cases h; exact h1.symm
  · split at h
    · cases h
    · split at h
      · rename_i h2; subst h2
        split at h
        · cases h; rw [joinB, if_neg (strokes_ne _), flat_strokes]
        · cases h
      · cases h
theorem split_join {l : List (List UInt8)} (h : mayB l = true) : splitB (joinB l) = some l := by
  obtain ⟨h1, h2⟩ := may_all h
  cases l with
  | nil => rfl
  | cons x l =>
    have e : joinB (x :: l) = 47 :: (x ++ flatB l) := by simp [joinB, flatB]
    have hs := strokes_flat x l (ok_stroke (h2 x (by simp))) (fun y hy => ok_stroke (h2 y (by simp [hy])))
    have hx := ok_ne (h2 x (by simp))
    rw [e, splitB, if_neg (by simp [hx])]
    simp only [if_true, hs, h]
theorem join_len {l : List (List UInt8)} (h : mayB l = true) : (joinB l).length ≤ 168 := by
  obtain ⟨h1, h2⟩ := may_all h
  unfold joinB; split
  · simp
  · have := flat_len l h2; omega
theorem split_len {p : List UInt8} {l : List (List UInt8)} (h : splitB p = some l) : p.length ≤ 168 := by
  rw [← join_split h]; exact join_len (split_may h)
/-- What the last of a path's names and the path ahead of it make. -/
theorem join_last {l : List (List UInt8)} (h : l ≠ []) : joinB l = (if l.dropLast = [] then [47] else joinB l.dropLast ++ [47]) ++ l.getLast h := by
  have e : flatB l = flatB l.dropLast ++ (47 :: l.getLast h) := by
    conv => lhs; rw [← List.dropLast_concat_getLast h]
    simp [flatB]
  rw [joinB, if_neg h, e]
  split
  · rename_i h1; rw [h1]; simp [flatB]
  · rename_i h1; rw [joinB, if_neg h1]; simp
theorem may_take {l : List (List UInt8)} (h : mayB l = true) (k : Nat) : mayB (l.take k) = true := by
  obtain ⟨h1, h2⟩ := may_all h
  exact may_of (by rw [List.length_take]; omega) (fun x hx => h2 x (List.mem_of_mem_take hx))
theorem join_inj {l m : List (List UInt8)} (h : mayB l = true) (h2 : mayB m = true) (e : joinB l = joinB m) : l = m := by
  have := split_join h; rw [e, split_join h2] at this; cases this; rfl

theorem cut_nil : Lib.cut [] [47] = ([], [], false) := by decide
theorem cut_cons (c : UInt8) (s : List UInt8) : Lib.cut (c :: s) [47] = if c = 47 then ([], s, true) else (c :: (Lib.cut s [47]).1, (Lib.cut s [47]).2) := by
  have ix := Lib.index_one (c :: s) 47
  have iy := Lib.index_one s 47
  have hge := Lib.indexByte_ge s 47
  unfold Lib.cut
  rw [ix, iy]
  simp only [Lib.indexByte]
  by_cases hc : c = 47
  · subst hc; simp
  · have hb : (c == 47) = false := by simp [hc]
    rw [if_neg hc]
    simp only [hb, Bool.false_eq_true, if_false]
    by_cases hi : Lib.indexByte s 47 = -1
    · simp [hi]
    · have hb2 : (Lib.indexByte s 47 == -1) = false := by simp [hi]
      simp only [hb2, Bool.false_eq_true, if_false]
      rw [if_pos (by omega), if_pos (by omega)]
      obtain ⟨n, hn⟩ : ∃ n : Nat, Lib.indexByte s 47 = (n : Int) := ⟨(Lib.indexByte s 47).toNat, by omega⟩
      rw [hn]
      have e : ((n : Int) + 1).toNat = n + 1 := by omega
      rw [e, Int.toNat_natCast]
      simp
theorem strokes_cut (s : List UInt8) : strokes s = (Lib.cut s [47]).1 :: (if (Lib.cut s [47]).2.2 = true then strokes (Lib.cut s [47]).2.1 else []) := by
  induction s with
  | nil => rw [cut_nil]; rfl
  | cons c r ih =>
    rw [cut_cons]
    by_cases h : c = 47
    · simp [strokes, h]
    · have e : strokes (c :: r) = match strokes r with | [] => [[c]] | x :: l => (c :: x) :: l := by rw [strokes, if_neg h]
      rw [e, ih, if_neg h]
theorem cut_len (s : List UInt8) : (Lib.cut s [47]).1.length ≤ s.length ∧ (Lib.cut s [47]).2.1.length ≤ s.length ∧ ((Lib.cut s [47]).2.2 = true → (Lib.cut s [47]).1.length + (Lib.cut s [47]).2.1.length + 1 = s.length) := by
  induction s with
  | nil => rw [cut_nil]; simp
  | cons c r ih =>
    rw [cut_cons]
    split
    · simp
    · simp only [List.length_cons]; refine ⟨by omega, by omega, ?_⟩
      intro h; have := ih.2.2 h; omega
end Go.Proofs.Ythibelgeejgmeaa
