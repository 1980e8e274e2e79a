/- Rows of numbers, each with a point ahead, as versions. -/
import Derived.Test.YtpminhgkacgplaaDoorVQ
namespace Go.Proofs.YtpminhgkacgplaaDoor
open Go Go.RowKit
set_option maxRecDepth 100000

def IntsIn (w : World) (v : Value) (zs : List Int) : Prop := ∃ a cap, v = .slice a zs.length cap ∧ zs.length ≤ maxLen ∧ (zs ≠ [] → ∃ b off, a = some ⟨b, off, none⟩ ∧ b < w.heap.size ∧ ∀ k, k < zs.length → w.cell? ⟨b, off + k, none⟩ = some (.int .i64 (zs.getD k 0)))
def dotS : List Nat → List UInt8
  | [] => []
  | u :: l => 46 :: (Lib.decDigits u ++ dotS l)
theorem dot_app (l : List Nat) (u : Nat) : dotS (l ++ [u]) = dotS l ++ ([46] ++ Lib.decDigits u) := by
  induction l with
  | nil => simp [dotS]
  | cons v l ih => rw [List.cons_append, dotS, ih, dotS]; simp
theorem dot_len (l : List Nat) (h : ∀ u ∈ l, u ≤ 4095) : (dotS l).length ≤ 21 * l.length := by
  induction l with
  | nil => exact Nat.le_refl _
  | cons u l ih =>
    have h1 := decDigits_len u (by have := h u (by simp); omega)
    have h2 := ih (fun v hv => h v (by simp [hv]))
    rw [dotS]; simp; omega
theorem raw_num (u : Nat) (b : List UInt8) (hb : hdC b ≠ 3) : toksB (Lib.decDigits u ++ b) = (3, strD u) :: toksB b := by
  rw [toksB, raw_run (k := 3) (Or.inr rfl) _ b (dec_ne u) (dec_all u) hb, List.map_cons]
  show (3, (Lib.decDigits u).dropWhile (· == 48)) :: _ = _
  rw [strip_dec]; rfl
theorem dot_hd (l : List Nat) : hdC (dotS l) ≠ 3 := by
  cases l with
  | nil => show (1 : Nat) ≠ 3; decide
  | cons u l => show clsB 46 ≠ 3; decide
theorem dot_toks (l : List Nat) : toksB (dotS l) = l.map (fun u => ((3, strD u) : Tok)) := by
  induction l with
  | nil => rfl
  | cons u l ih =>
    have h := toks_sep 46 (by decide) [] (Lib.decDigits u ++ dotS l)
    rw [List.nil_append] at h
    rw [dotS, h, raw_num u _ (dot_hd l), ih]; rfl
def lexN : List Nat → List Nat → Int
  | [], [] => 0
  | [], _ :: _ => -1
  | _ :: _, [] => 1
  | u :: l, v :: m => if Lib.compareInt (u : Int) (v : Int) = 0 then lexN l m else Lib.compareInt (u : Int) (v : Int)
theorem dot_cmpL : ∀ l m : List Nat, cmpL (l.map (fun u => ((3, strD u) : Tok))) (m.map (fun u => ((3, strD u) : Tok))) = lexN l m
  | [], [] => rfl
  | [], _ :: _ => rfl
  | _ :: _, [] => rfl
  | u :: l, v :: m => by
    have ih := dot_cmpL l m
    rw [List.map_cons, List.map_cons, cmpL, hold_num, lexN, ih]
theorem dot_cmp (l m : List Nat) : cmpV (dotS l) (dotS m) = lexN l m := by rw [cmpV, dot_toks, dot_toks, dot_cmpL]
theorem lex_rng (l m : List Nat) : lexN l m = -1 ∨ lexN l m = 0 ∨ lexN l m = 1 := by
  rw [← dot_cmp]; exact cmpV_rng _ _
theorem lex_end (l m : List Nat) (i : Nat) (h : l.length ≤ i ∨ m.length ≤ i) : lexN (l.drop i) (m.drop i) = if l.length ≤ i ∧ m.length ≤ i then 0 else if l.length ≤ i then -1 else 1 := by
  by_cases h1 : l.length ≤ i
  · rw [List.drop_eq_nil_of_le h1]
    by_cases h2 : m.length ≤ i
    · rw [List.drop_eq_nil_of_le h2, if_pos ⟨h1, h2⟩]; rfl
    · rw [if_neg (by omega), if_pos h1, List.drop_eq_getElem_cons (by omega)]; rfl
  · have h2 : m.length ≤ i := by omega
    rw [List.drop_eq_nil_of_le h2, if_neg (by omega), if_neg h1, List.drop_eq_getElem_cons (by omega)]; rfl
theorem lex_step (l m : List Nat) (i u v : Nat) (hu : l[i]? = some u) (hv : m[i]? = some v) : lexN (l.drop i) (m.drop i) = if Lib.compareInt (u : Int) (v : Int) = 0 then lexN (l.drop (i + 1)) (m.drop (i + 1)) else Lib.compareInt (u : Int) (v : Int) := by
  obtain ⟨h1, rfl⟩ := List.getElem?_eq_some_iff.1 hu
  obtain ⟨h2, rfl⟩ := List.getElem?_eq_some_iff.1 hv
  rw [List.drop_eq_getElem_cons h1, List.drop_eq_getElem_cons h2, lexN]
/-- The numbers that a statement takes of a row. -/
def maskN (z : Int) : Nat := (bits .and .i64 z 4095).toNat
theorem maskN_eq (z : Int) : bits .and .i64 z 4095 = (maskN z : Int) ∧ maskN z ≤ 4095 := by
  have h := and_low z 4095 (by decide)
  have e : bits .and .i64 z ((4095 : Nat) : Int) = bits .and .i64 z 4095 := rfl
  rw [e] at h
  unfold maskN
  omega
def rowN (zs : List Int) : List Nat := (zs.take 10).map maskN
theorem row_len (zs : List Int) : (rowN zs).length = min zs.length 10 := by rw [rowN, List.length_map, List.length_take]; omega
theorem row_all (zs : List Int) : ∀ u ∈ rowN zs, u ≤ 4095 := by
  intro u hu
  obtain ⟨z, _, rfl⟩ := List.mem_map.1 hu
  exact (maskN_eq z).2
theorem row_get (zs : List Int) (i : Nat) (h : i < (rowN zs).length) : (rowN zs)[i]? = some (maskN (zs.getD i 0)) := by
  rw [row_len] at h
  rw [rowN, List.getElem?_map, List.getElem?_take, if_pos (by omega), List.getD_eq_getElem?_getD, List.getElem?_eq_getElem (by omega)]; rfl
theorem take_succ_get (l : List Nat) (i u : Nat) (h : l[i]? = some u) : l.take (i + 1) = l.take i ++ [u] := by
  rw [List.take_add_one, h]; rfl
end Go.Proofs.YtpminhgkacgplaaDoor
