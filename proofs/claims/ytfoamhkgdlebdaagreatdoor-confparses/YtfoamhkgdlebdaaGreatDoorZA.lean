/- ConfFaults: good lines, bad lines, and what a text with one of them is read as. -/
import Derived.Test.YtfoamhkgdlebdaaGreatDoorZ2
import Derived.Lib.ItoaLen
namespace Go.Proofs.YtfoamhkgdlebdaaGreatDoor
open Go.RowKit Go.Extern.Stop Go.Stop Go.Extern
set_option maxRecDepth 100000

def oQ : List UInt8 := [113, 117, 105, 101, 116]
def l3 : List (List UInt8) := [lnV [49], lnB kwK ([107], zr), lnO oQ]
def xB (i : Nat) : Bl := (120 :: Lib.decDigits i, zr)
def linesF (n : Nat) : List (List UInt8) := l3 ++ ((List.range n).map xB).map (lnB kwE)
def fullE (n : Nat) : En := ⟨[49], [107], zr, (List.range n).map xB, oQ⟩
def badL : List (List UInt8) := [kwV, [110, 111, 110, 115, 101, 110, 115, 101, 32, 49], kwE ++ [32, 97, 32, 49, 50], kwE ++ [32, 97, 47, 98, 32] ++ zr, kwO ++ [32, 32, 120], kwO ++ [32], kwK ++ [32, 107], kwV ++ [32, 97, 32, 98], 32 :: kwV ++ [32, 49], kwE ++ [32, 32, 97, 32] ++ zr]
def flatL (ls : List (List UInt8)) : List UInt8 := (ls.map (· ++ [10])).flatten
theorem flat_app (a b : List (List UInt8)) : flatL (a ++ b) = flatL a ++ flatL b := by simp [flatL]
theorem flat_one (a : List UInt8) : flatL [a] = a ++ [10] := by simp [flatL]
theorem flat_len : ∀ (ls : List (List UInt8)), (∀ l ∈ ls, l.length ≤ 40) → (flatL ls).length ≤ 41 * ls.length
  | [], _ => by simp [flatL]
  | l :: ls, h => by
    have h1 := h l (by simp)
    have h2 := flat_len ls (fun x hx => h x (by simp [hx]))
    rw [show l :: ls = [l] ++ ls from rfl, flat_app, flat_one]
    simp; omega
theorem linesF_len (n : Nat) : (linesF n).length = n + 3 := by simp [linesF, l3]
theorem xB_ok {i : Nat} (hi : i < 8) : blobB (xB i).1 (xB i).2 = true := by
  have h : ∀ i, i < 8 → blobB [120, UInt8.ofNat (48 + i)] zr = true := by decide
  rw [xB, Lib.decDigits_one (by omega)]
  exact h i hi
theorem xs_ok {n : Nat} (hn : n ≤ 8) : ∀ b ∈ (List.range n).map xB, blobB b.1 b.2 = true := by
  intro b hb
  obtain ⟨i, hi, rfl⟩ := List.mem_map.1 hb
  exact xB_ok (by have := List.mem_range.1 hi; omega)
theorem linesF_run {n : Nat} (hn : n ≤ 8) : runL (linesF n) e0 = some (fullE n) := by
  have h3 : runL l3 e0 = some ⟨[49], [107], zr, [], oQ⟩ := by
    rw [l3, runL, take_lnV rfl (by decide)]
    simp only []
    rw [runL, take_lnK rfl rfl (by decide)]
    simp only []
    rw [runL, take_lnO rfl (by decide) (by decide)]
    rfl
  rw [linesF, runL_append, h3]
  simp only [Option.bind]
  rw [run_ex _ _ (by simp; omega) (xs_ok hn)]
  simp [fullE]
theorem linesF_each {n : Nat} (hn : n ≤ 8) : ∀ l ∈ linesF n, (10 : UInt8) ∉ l ∧ l.length ≤ 40 := by
  intro l hl
  rcases List.mem_append.1 hl with hl | hl
  · have h : ∀ l ∈ l3, (10 : UInt8) ∉ l ∧ l.length ≤ 40 := by decide
    exact h l hl
  · obtain ⟨b, hb, rfl⟩ := List.mem_map.1 hl
    have hb2 := xs_ok hn b hb
    obtain ⟨i, hi, rfl⟩ := List.mem_map.1 hb
    refine ⟨lnB_nl (by decide) hb2, ?_⟩
    rw [xB, Lib.decDigits_one (by have := List.mem_range.1 hi; omega)]
    simp [lnB, kwE, zr]
theorem bad_each : ∀ b ∈ badL, (10 : UInt8) ∉ b ∧ b.length ≤ 40 := by decide
theorem put_old {o t : List UInt8} (h : o ≠ []) : putT o t = false := by cases o; exact absurd rfl h; rfl
theorem put_none (o : List UInt8) : putT o [] = false := by simp [putT, nE]
theorem take_word {k t : List UInt8} {c : UInt8} {r : List UInt8} (h : cutSp (c :: r) = (k, t)) (hc : c ≠ 35) (e : En) : takeL e (c :: r) = takeW e k t := by
  rw [takeL, if_neg (by simpa using hc), h]
theorem w_e {e : En} {s : List UInt8} (h : setB ([], []) s = none) : takeW e kwE s = none := by
  rw [takeW, h]
  have h1 : (kwE == kwK) = false := by decide
  have h2 : (kwE == kwV) = false := by decide
  have h3 : (kwE == kwO) = false := by decide
  rw [h1, h2, h3]
  simp
theorem w_k {e : En} {s : List UInt8} (h : setB (e.kn, e.ks) s = none) : takeW e kwK s = none := by
  have h1 : (kwK == kwE) = false := by decide
  have h2 : (kwK == kwK) = true := by decide
  rw [takeW, h, h1, h2]
  simp
theorem w_v {e : En} {s : List UInt8} (h : (putT e.ver s && verB s) = false) : takeW e kwV s = none := by
  have h1 : (kwV == kwE) = false := by decide
  have h2 : (kwV == kwK) = false := by decide
  have h3 : (kwV == kwV) = true := by decide
  rw [takeW, h, h1, h2, h3]
  simp
theorem w_o {e : En} {s : List UInt8} (h : (putT e.op s && optB s) = false) : takeW e kwO s = none := by
  have h1 : (kwO == kwE) = false := by decide
  have h2 : (kwO == kwK) = false := by decide
  have h3 : (kwO == kwV) = false := by decide
  have h4 : (kwO == kwO) = true := by decide
  rw [takeW, h, h1, h2, h3, h4]
  simp
theorem w_x {e : En} {k s : List UInt8} (h1 : (k == kwE) = false) (h2 : (k == kwK) = false) (h3 : (k == kwV) = false) (h4 : (k == kwO) = false) : takeW e k s = none := by
  rw [takeW, h1, h2, h3, h4]
  simp
theorem setB_put {b : Bl} {t : List UInt8} (h : (putT b.1 (cutSp t).1 && putT b.2 (cutSp t).2 && blobB (cutSp t).1 (cutSp t).2) = false) : setB b t = none := by
  rw [setB, h]; simp
theorem bad_take (b : List UInt8) (hb : b ∈ badL) (e : En) : takeL e b = none := by
  simp only [badL, List.mem_cons, List.not_mem_nil, or_false] at hb
  rcases hb with rfl | rfl | rfl | rfl | rfl | rfl | rfl | rfl | rfl | rfl
  · exact (take_word (k := kwV) (t := []) (by decide) (by decide) e).trans (w_v (by rw [put_none]; rfl))
  · exact (take_word (k := [110, 111, 110, 115, 101, 110, 115, 101]) (t := [49]) (by decide) (by decide) e).trans (w_x (by decide) (by decide) (by decide) (by decide))
  · exact (take_word (k := kwE) (t := [97, 32, 49, 50]) (by decide) (by decide) e).trans (w_e (by decide))
  · exact (take_word (k := kwE) (t := [97, 47, 98, 32] ++ zr) (by decide) (by decide) e).trans (w_e (by decide))
  · exact (take_word (k := kwO) (t := [32, 120]) (by decide) (by decide) e).trans (w_o (by rw [show optB [32, 120] = false by decide]; simp))
  · exact (take_word (k := kwO) (t := []) (by decide) (by decide) e).trans (w_o (by rw [put_none]; rfl))
  · exact (take_word (k := kwK) (t := [107]) (by decide) (by decide) e).trans (w_k (setB_put (by rw [show (cutSp [107]).2 = [] by decide, put_none]; simp)))
  · exact (take_word (k := kwV) (t := [97, 32, 98]) (by decide) (by decide) e).trans (w_v (by rw [show verB [97, 32, 98] = false by decide]; simp))
  · exact (take_word (k := []) (t := kwV ++ [32, 49]) (by decide) (by decide) e).trans (w_x (by decide) (by decide) (by decide) (by decide))
  · exact (take_word (k := kwE) (t := [32, 97, 32] ++ zr) (by decide) (by decide) e).trans (w_e (by decide))
theorem dup_take (n k : Nat) (x : List UInt8) (hk : l3[k]? = some x) : takeL (fullE n) x = none := by
  match k with
  | 0 =>
    cases hk
    exact (take_word (k := kwV) (t := [49]) (by decide) (by decide) _).trans (w_v (by rw [put_old (show (fullE n).ver ≠ [] from fun e => by cases e)]; rfl))
  | 1 =>
    cases hk
    exact (take_word (k := kwK) (t := 107 :: 32 :: zr) (by decide) (by decide) _).trans (w_k (setB_put (by rw [put_old (show ((fullE n).kn, (fullE n).ks).1 ≠ [] from fun e => by cases e)]; rfl)))
  | 2 =>
    cases hk
    exact (take_word (k := kwO) (t := oQ) (by decide) (by decide) _).trans (w_o (by rw [put_old (show (fullE n).op ≠ [] from fun e => by cases e)]; rfl))
  | k + 3 => simp [l3] at hk
theorem run_take (a b : List (List UInt8)) {e e' : En} (h : runL (a ++ b) e = some e') : ∃ e1, runL a e = some e1 := by
  rw [runL_append] at h
  cases hr : runL a e with
  | none => rw [hr] at h; cases h
  | some e1 => exact ⟨e1, rfl⟩
theorem read_bad {n : Nat} (hn : n ≤ 8) (at_ : Nat) (b : List UInt8) (hb : b ∈ badL) (ha : at_ ≤ (linesF n).length) : readL (linesB (flatL ((linesF n).take at_ ++ b :: (linesF n).drop at_))) 0 e0 = .inl (at_ + 1) := by
  have hnl : ∀ l ∈ (linesF n).take at_ ++ b :: (linesF n).drop at_, (10 : UInt8) ∉ l := by
    intro l hl
    rcases List.mem_append.1 hl with h | h
    · exact (linesF_each hn l (List.mem_of_mem_take h)).1
    · rcases List.mem_cons.1 h with rfl | h
      · exact (bad_each _ hb).1
      · exact (linesF_each hn l (List.mem_of_mem_drop h)).1
  have q := lines_flat _ [] hnl
  rw [List.append_nil] at q
  rw [flatL, q, List.append_assoc]
  obtain ⟨e1, he⟩ := run_take ((linesF n).take at_) ((linesF n).drop at_) (e := e0) (e' := fullE n) (by rw [List.take_append_drop]; exact linesF_run hn)
  rw [readL_run _ _ _ _ _ he, List.cons_append, readL, bad_take b hb e1]
  simp only [List.length_take]
  congr 1; omega
theorem read_dup {n : Nat} (hn : n ≤ 8) (k : Nat) (x : List UInt8) (hk : l3[k]? = some x) : readL (linesB (flatL (linesF n) ++ x)) 0 e0 = .inl ((linesF n).length + 1) := by
  have q := lines_flat (linesF n) x (fun l hl => (linesF_each hn l hl).1)
  have hx : (10 : UInt8) ∉ x := by
    have h : ∀ l ∈ l3, (10 : UInt8) ∉ l := by decide
    exact h x (List.mem_of_getElem? hk)
  rw [flatL, q, readL_run _ _ _ _ _ (linesF_run hn), lines_one x hx, readL, dup_take n k x hk]
  simp
theorem read_ok {n : Nat} (hn : n ≤ 8) : readL (linesB (flatL (linesF n))) 0 e0 = .inr (fullE n) := by
  have q := lines_flat (linesF n) [] (fun l hl => (linesF_each hn l hl).1)
  rw [List.append_nil] at q
  rw [flatL, q, readL_run _ _ _ _ _ (linesF_run hn)]
  simp [linesB, readL, takeL, fullE]
/-- The lines that are laid ahead of round i: the bad one is put at its place. -/
def insL (L : List (List UInt8)) (at_ : Nat) (b : List UInt8) (i : Nat) : List (List UInt8) := if i ≤ at_ then L.take i else L.take at_ ++ b :: (L.take i).drop at_
theorem ins_end (L : List (List UInt8)) (at_ : Nat) (b : List UInt8) (ha : at_ ≤ L.length) : insL L at_ b (L.length + 1) = L.take at_ ++ b :: L.drop at_ := by
  rw [insL, if_neg (by omega), show L.take (L.length + 1) = L from List.take_of_length_le (by omega)]
theorem ins_len (L : List (List UInt8)) (at_ : Nat) (b : List UInt8) (i : Nat) : (insL L at_ b i).length ≤ L.length + 1 := by
  unfold insL
  split
  · rw [List.length_take]; omega
  · simp; omega
theorem ins_each {L : List (List UInt8)} {at_ : Nat} {b : List UInt8} (hL : ∀ l ∈ L, l.length ≤ 40) (hb : b.length ≤ 40) (i : Nat) : ∀ l ∈ insL L at_ b i, l.length ≤ 40 := by
  intro l hl
  unfold insL at hl
  split at hl
  · exact hL l (List.mem_of_mem_take hl)
  · rcases List.mem_append.1 hl with h | h
    · exact hL l (List.mem_of_mem_take h)
    · rcases List.mem_cons.1 h with rfl | h
      · exact hb
      · exact hL l (List.mem_of_mem_take (List.mem_of_mem_drop h))
theorem ins_bad {L : List (List UInt8)} {b : List UInt8} (i : Nat) : L.take i ++ [b] = insL L i b i ++ [b] := by rw [insL, if_pos (Nat.le_refl _)]
/-- A round at another place. -/
theorem ins_line {L : List (List UInt8)} {at_ : Nat} {b x : List UInt8} {i : Nat} (hx : L[i]? = some x) (hi : i ≠ at_) : insL L at_ b (i + 1) = insL L at_ b i ++ [x] := by
  have ht : L.take (i + 1) = L.take i ++ [x] := by rw [List.take_add_one, hx]; rfl
  have hl : i < L.length := (List.getElem?_eq_some_iff.1 hx).1
  unfold insL
  by_cases h : i < at_
  · rw [if_pos (by omega), if_pos (by omega), ht]
  · rw [if_neg (by omega), if_neg (by omega), ht, List.drop_append_of_le_length (by rw [List.length_take]; omega)]
    simp
theorem ins_none {L : List (List UInt8)} {at_ : Nat} {b : List UInt8} {i : Nat} (hx : i = L.length) (hi : i ≠ at_) (ha : at_ ≤ L.length) : insL L at_ b (i + 1) = insL L at_ b i := by
  unfold insL
  rw [if_neg (by omega), if_neg (by omega), show L.take (i + 1) = L from List.take_of_length_le (by omega), show L.take i = L from List.take_of_length_le (by omega)]
/-- The round at its place. -/
theorem ins_at {L : List (List UInt8)} {b x : List UInt8} {i : Nat} (hx : L[i]? = some x) : insL L i b (i + 1) = insL L i b i ++ [b] ++ [x] := by
  have ht : L.take (i + 1) = L.take i ++ [x] := by rw [List.take_add_one, hx]; rfl
  have hl : i < L.length := (List.getElem?_eq_some_iff.1 hx).1
  unfold insL
  rw [if_neg (by omega), if_pos (Nat.le_refl _), ht, List.drop_append_of_le_length (by rw [List.length_take]; omega), List.drop_eq_nil_of_le (by rw [List.length_take]; omega)]
  simp
theorem ins_at_end {L : List (List UInt8)} {b : List UInt8} {i : Nat} (hx : i = L.length) : insL L i b (i + 1) = insL L i b i ++ [b] := by
  unfold insL
  rw [if_neg (by omega), if_pos (Nat.le_refl _), show L.take (i + 1) = L from List.take_of_length_le (by omega), List.drop_eq_nil_of_le (by omega), show L.take i = L from List.take_of_length_le (by omega)]
end Go.Proofs.YtfoamhkgdlebdaaGreatDoor
