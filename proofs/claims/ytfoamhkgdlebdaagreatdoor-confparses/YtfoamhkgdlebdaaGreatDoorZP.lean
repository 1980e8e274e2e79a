/- ConfParses: the document's own reading of a line, and that it is conf's. -/
import Derived.Test.YtfoamhkgdlebdaaGreatDoorZA
namespace Go.Proofs.YtfoamhkgdlebdaaGreatDoor
open Go.RowKit Go.Extern.Stop Go.Stop Go.Extern
set_option maxRecDepth 100000

def afterT (s k : List UInt8) : Option (List UInt8) := if s.take (k.length + 1) = k ++ [32] then some (s.drop (k.length + 1)) else none
def blobT (v : List UInt8) : Option Bl := if (32 : UInt8) ∈ v then if blobB (cutSp v).1 (cutSp v).2 = true then some (cutSp v) else none else none
def refW (e : En) (s : List UInt8) : Option En := match afterT s kwV with
  | some v => if (e.ver.isEmpty && verB v) = true then some ⟨v, e.kn, e.ks, e.ex, e.op⟩ else none
  | none => match afterT s kwO with
    | some v => if (e.op.isEmpty && nE v && optB v) = true then some ⟨e.ver, e.kn, e.ks, e.ex, v⟩ else none
    | none => match afterT s kwK with
      | some v => match blobT v with
        | some b => if e.kn.isEmpty = true then some ⟨e.ver, b.1, b.2, e.ex, e.op⟩ else none
        | none => none
      | none => match afterT s kwE with
        | some v => match blobT v with
          | some b => if e.ex.length < 8 then some ⟨e.ver, e.kn, e.ks, e.ex ++ [b], e.op⟩ else none
          | none => none
        | none => none
theorem sp_parts : ∀ s : List UInt8, ((32 : UInt8) ∉ s ∧ cutSp s = (s, [])) ∨ ∃ a t, s = a ++ 32 :: t ∧ (32 : UInt8) ∉ a ∧ cutSp s = (a, t)
  | [] => Or.inl ⟨by simp, rfl⟩
  | c :: r => by
    by_cases hc : c = 32
    · subst hc; exact Or.inr ⟨[], r, rfl, by simp, by rw [cutSp, if_pos rfl]⟩
    · rcases sp_parts r with ⟨h1, h2⟩ | ⟨a, t, h1, h2, h3⟩
      · exact Or.inl ⟨by simp [h1]; exact fun e => hc e.symm, by rw [cutSp, if_neg hc, h2]⟩
      · exact Or.inr ⟨c :: a, t, by rw [h1]; rfl, by simp [h2]; exact fun e => hc e.symm, by rw [cutSp, if_neg hc, h3]⟩
theorem after_none {s k : List UInt8} (h : (32 : UInt8) ∉ s) : afterT s k = none := by
  unfold afterT
  rw [if_neg]
  intro e
  have : (32 : UInt8) ∈ s.take (k.length + 1) := by rw [e]; simp
  exact h (List.mem_of_mem_take this)
theorem app_inj : ∀ {a k t u : List UInt8}, (32 : UInt8) ∉ a → (32 : UInt8) ∉ k → a ++ 32 :: t = k ++ 32 :: u → a = k ∧ t = u
  | [], [], _, _, _, _, e => ⟨rfl, by simpa using e⟩
  | [], c :: k, _, _, _, hk, e => by simp at e; exact absurd e.1 (by simp at hk; exact hk.1)
  | c :: a, [], _, _, ha, _, e => by simp at e; exact absurd e.1.symm (by simp at ha; exact ha.1)
  | c :: a, d :: k, t, u, ha, hk, e => by
    simp only [List.cons_append, List.cons.injEq] at e
    simp only [List.mem_cons, not_or] at ha hk
    obtain ⟨h1, h2⟩ := app_inj ha.2 hk.2 e.2
    exact ⟨by rw [e.1, h1], h2⟩
theorem after_some {a t k : List UInt8} (ha : (32 : UInt8) ∉ a) (hk : (32 : UInt8) ∉ k) : afterT (a ++ 32 :: t) k = if a = k then some t else none := by
  unfold afterT
  by_cases h : a = k
  · subst h
    rw [if_pos (by rw [List.take_append, List.take_of_length_le (by omega)]; simp), if_pos rfl]
    simp
  · rw [if_neg h, if_neg]
    intro e
    have e2 : a ++ 32 :: t = k ++ 32 :: (a ++ 32 :: t).drop (k.length + 1) := by
      have := List.take_append_drop (k.length + 1) (a ++ 32 :: t)
      rw [e] at this
      rw [← this]
      simp
    exact h (app_inj ha hk e2).1
theorem blobT_set {b : Bl} {v : List UInt8} (h1 : b.1.isEmpty = true) (h2 : b.2.isEmpty = true) : setB b v = blobT v := by
  have e1 : b.1 = [] := by simpa using h1
  have e2 : b.2 = [] := by simpa using h2
  unfold setB blobT
  rw [e1, e2]
  rcases sp_parts v with ⟨h3, h4⟩ | ⟨a, t, h3, h4, h5⟩
  · rw [if_neg h3, h4, put_none]
    simp
  · have hm : (32 : UInt8) ∈ v := by rw [h3]; simp
    rw [if_pos hm, h5]
    by_cases hb : blobB a t = true
    · obtain ⟨g1, g2, -⟩ := blob_parts hb
      simp only []
      rw [put_nil g1, put_nil g2, hb]; rfl
    · rw [Bool.not_eq_true] at hb
      simp only []
      rw [hb, Bool.and_false]
theorem setB_old {b : Bl} {v : List UInt8} (h1 : b.1.isEmpty = false) : setB b v = none :=
  setB_put (by rw [put_old (by intro e; rw [e] at h1; cases h1)]; rfl)
theorem kw_no : (32 : UInt8) ∉ kwV ∧ (32 : UInt8) ∉ kwO ∧ (32 : UInt8) ∉ kwK ∧ (32 : UInt8) ∉ kwE := by decide
theorem ver_ne {v : List UInt8} (h : verB v = true) : nE v = true := by
  have := (ver_parts h).1
  cases v
  · exact absurd rfl this
  · rfl
/-- A line that is neither empty nor a remark. -/
theorem take_ref {e : En} (hk : e.kn.isEmpty = true → e.ks.isEmpty = true) {c : UInt8} {r : List UInt8} (hc : c ≠ 35) : takeL e (c :: r) = refW e (c :: r) := by
  rw [takeL, if_neg (by simpa using hc)]
  obtain ⟨nV, nO, nK, nEx⟩ := kw_no
  generalize c :: r = s
  rcases sp_parts s with ⟨h1, h2⟩ | ⟨a, t, rfl, h2, h3⟩
  · unfold refW
    rw [after_none h1, after_none h1, after_none h1, after_none h1, h2]
    simp only []
    by_cases e1 : s = kwE
    · subst e1; exact w_e (by decide)
    · by_cases e2 : s = kwK
      · subst e2; exact w_k (setB_put (by rw [show (cutSp []).1 = [] from rfl, put_none]; rfl))
      · by_cases e3 : s = kwV
        · subst e3; exact w_v (by rw [put_none]; rfl)
        · by_cases e4 : s = kwO
          · subst e4; exact w_o (by rw [put_none]; rfl)
          · exact w_x (by simpa using e1) (by simpa using e2) (by simpa using e3) (by simpa using e4)
  · rw [h3]
    unfold refW
    rw [after_some h2 nV, after_some h2 nO, after_some h2 nK, after_some h2 nEx]
    by_cases e3 : a = kwV
    · subst e3
      rw [if_pos rfl]
      simp only []
      have p1 : (kwV == kwE) = false := by decide
      have p2 : (kwV == kwK) = false := by decide
      have p3 : (kwV == kwV) = true := by decide
      rw [takeW, p1, p2, p3]
      simp only [Bool.false_and, if_true]
      rw [if_neg (by decide), if_neg (by decide)]
      by_cases hv : verB t = true
      · rw [putT, ver_ne hv, hv]; simp
      · rw [Bool.not_eq_true] at hv; rw [hv]; simp
    · rw [if_neg e3]
      simp only []
      by_cases e4 : a = kwO
      · subst e4
        rw [if_pos rfl]
        simp only []
        have p1 : (kwO == kwE) = false := by decide
        have p2 : (kwO == kwK) = false := by decide
        have p3 : (kwO == kwV) = false := by decide
        have p4 : (kwO == kwO) = true := by decide
        rw [takeW, p1, p2, p3, p4]
        simp only [Bool.false_and, if_true]
        rw [if_neg (by decide), if_neg (by decide), if_neg (by decide), putT]
      · rw [if_neg e4]
        simp only []
        by_cases e2 : a = kwK
        · subst e2
          rw [if_pos rfl]
          simp only []
          have p1 : (kwK == kwE) = false := by decide
          have p2 : (kwK == kwK) = true := by decide
          rw [takeW, p1, p2]
          simp only [Bool.false_and, if_true]
          rw [if_neg (by decide)]
          cases hq : e.kn.isEmpty with
          | true =>
            rw [blobT_set (b := (e.kn, e.ks)) hq (hk hq)]
            cases blobT t <;> rfl
          | false =>
            rw [setB_old (b := (e.kn, e.ks)) hq]
            cases blobT t <;> simp
        · rw [if_neg e2]
          simp only []
          by_cases e1 : a = kwE
          · subst e1
            rw [if_pos rfl]
            simp only []
            by_cases h8 : e.ex.length < 8
            · rw [takeW, if_pos (by simp [h8]), blobT_set rfl rfl]
              cases blobT t <;> simp [h8]
            · have p2 : (kwE == kwK) = false := by decide
              have p3 : (kwE == kwV) = false := by decide
              have p4 : (kwE == kwO) = false := by decide
              rw [takeW, p2, p3, p4, if_neg (by simp [h8])]
              cases blobT t <;> simp [h8]
          · rw [if_neg e1]
            exact w_x (by simpa using e1) (by simpa using e2) (by simpa using e3) (by simpa using e4)
/-- Lines, the last one without its end's empty one. -/
def linesR (s : List UInt8) : List (List UInt8) := if (linesB s).getLast? = some [] then (linesB s).dropLast else linesB s
theorem readL_snoc : ∀ (l : List (List UInt8)) (i : Nat) (e : En), readL (l ++ [[]]) i e = readL l i e
  | [], i, e => by simp [readL, takeL]
  | x :: l, i, e => by
    rw [List.cons_append, readL, readL]
    cases takeL e x with
    | none => rfl
    | some e' => exact readL_snoc l (i + 1) e'
theorem readL_lines (s : List UInt8) (i : Nat) (e : En) : readL (linesR s) i e = readL (linesB s) i e := by
  unfold linesR
  split
  · rename_i h
    have h2 : linesB s = (linesB s).dropLast ++ [[]] := by
      have hne : linesB s ≠ [] := lines_ne s
      have h3 := List.dropLast_concat_getLast hne
      rw [List.getLast?_eq_some_getLast hne] at h
      have h4 : (linesB s).getLast hne = [] := by simpa using h
      rw [h4] at h3
      exact h3.symm
    conv => rhs; rw [h2]
    rw [readL_snoc]
  · rfl
/-- What the document's own Lines has laid, and what it is at, behind k bytes. -/
structure LnI (s : List UInt8) (k : Nat) (out : List (List UInt8)) (cur : List UInt8) : Prop where
  eq : linesB (s.take k) = out ++ [cur]
theorem LnI.start (s : List UInt8) : LnI s 0 [] [] := ⟨rfl⟩
theorem lines_snoc : ∀ (a : List UInt8) (out : List (List UInt8)) (cur : List UInt8) (c : UInt8), linesB a = out ++ [cur] → linesB (a ++ [c]) = if c = 10 then out ++ [cur] ++ [[]] else out ++ [cur ++ [c]]
  | [], out, cur, c, h => by
    have : out = [] ∧ cur = [] := by
      cases out with
      | nil => simp [linesB] at h; exact ⟨rfl, h⟩
      | cons x l => simp [linesB] at h
    obtain ⟨rfl, rfl⟩ := this
    by_cases hc : c = 10
    · subst hc; rfl
    · simp [linesB, hc]
  | b :: a, out, cur, c, h => by
    rw [List.cons_append]
    unfold linesB at h ⊢
    obtain ⟨o1, c1, h1⟩ : ∃ o1 c1, linesB a = o1 ++ [c1] := by
      rcases List.eq_nil_or_concat (linesB a) with h | ⟨l, x, h⟩
      · exact absurd h (lines_ne a)
      · exact ⟨l, x, by simpa using h⟩
    have ih := lines_snoc a o1 c1 c h1
    rw [ih]
    rw [h1] at h
    by_cases hb : b = 10
    · rw [if_pos hb] at h ⊢
      cases out with
      | nil => simp at h
      | cons x l =>
        simp at h
        obtain ⟨rfl, rfl, rfl⟩ := h
        by_cases hc : c = 10 <;> simp [hc]
    · rw [if_neg hb] at h ⊢
      cases o1 with
      | nil =>
        simp at h
        cases out with
        | nil => simp at h; subst h; by_cases hc : c = 10 <;> simp [hc]
        | cons x l => simp at h
      | cons y o1 =>
        simp at h
        cases out with
        | nil => simp at h
        | cons x l =>
          simp at h
          obtain ⟨rfl, rfl, rfl⟩ := h
          by_cases hc : c = 10 <;> simp [hc]
theorem LnI.next {s : List UInt8} {k : Nat} {out : List (List UInt8)} {cur : List UInt8} (h : LnI s k out cur) {c : UInt8} (hc : s[k]? = some c) : LnI s (k + 1) (if c = 10 then out ++ [cur] else out) (if c = 10 then [] else cur ++ [c]) := by
  have ht : s.take (k + 1) = s.take k ++ [c] := by rw [List.take_add_one, hc]; rfl
  constructor
  rw [ht, lines_snoc _ _ _ _ h.eq]
  by_cases hc : c = 10 <;> simp [hc]
theorem LnI.done {s : List UInt8} {out : List (List UInt8)} {cur : List UInt8} (h : LnI s s.length out cur) : linesR s = if cur = [] then out else out ++ [cur] := by
  have e := h.eq
  rw [List.take_length] at e
  unfold linesR
  rw [e]
  by_cases hc : cur = [] <;> simp [hc]
end Go.Proofs.YtfoamhkgdlebdaaGreatDoor
