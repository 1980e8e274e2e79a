/- Versions as rows of bytes: their tokens, and which of two is newer. -/
import Derived.Test.YtnlcaabkbnppkaaDoorRows
import Derived.WalkKit
import Derived.WalkSpells
import Derived.ProofKit
import Derived.OpenShut
import Derived.RowKitTokens
import Derived.Deep.LoopGhost
import Derived.Deep.RegionWith
import Derived.Lib.IndexMore
import Derived.Lib.IndexBytes
import Derived.Lib.Join
import Derived.Lib.Bytealg
import Derived.Lib.Small
namespace Go.Proofs.YtnlcaabkbnppkaaDoor
open Go Go.RowKit
set_option maxRecDepth 100000

theorem hidden {p : Prop} (h : p) : Hid p := h

def mkB (x : List UInt8) : ByteArray := ⟨x.toArray⟩
theorem mk_list (x : List UInt8) : (mkB x).data.toList = x := by simp [mkB]
theorem mk_size (x : List UInt8) : (mkB x).size = x.length := by simp [mkB, ByteArray.size]
theorem mk_back (s : ByteArray) : mkB s.data.toList = s := by cases s; simp [mkB]
theorem mk_toList (x : List UInt8) : (mkB x).toList = x := by rw [Lib.toList_data, mk_list]
theorem mk_inj {x y : List UInt8} (h : mkB x = mkB y) : x = y := by rw [← mk_list x, h, mk_list]
theorem get_byte (s : ByteArray) (k : Nat) (h : k < s.size) : s.data.toList[k]? = some (s[k]'h) := by
  rw [Array.getElem?_toList]
  exact Array.getElem?_eq_getElem h
theorem mk_get (x : List UInt8) (k : Nat) (h : k < x.length) (h' : k < (mkB x).size) : (mkB x)[k]'h' = x[k]'h := by
  have := get_byte (mkB x) k h'
  rw [mk_list, List.getElem?_eq_getElem h] at this
  exact (Option.some.inj this).symm
theorem extract_mk (x : List UInt8) (i j : Nat) : (mkB x).extract i j = mkB ((x.take j).drop i) := by
  have : ((mkB x).extract i j).data.toList = (x.take j).drop i := by
    simp [mkB, ByteArray.data_extract, List.take_drop]
    by_cases h : i ≤ j
    · rw [show i + (j - i) = j by omega]
    · rw [show i + (j - i) = i by omega, List.drop_eq_nil_of_le (by rw [List.length_take]; omega), List.drop_eq_nil_of_le (by rw [List.length_take]; omega)]
  rw [← mk_back ((mkB x).extract i j), this]

/-- The kind of tokens that a byte stands in; 1: it parts them. -/
def clsB (c : UInt8) : Nat := if (97 ≤ c.toNat ∧ c.toNat ≤ 122) ∨ (65 ≤ c.toNat ∧ c.toNat ≤ 90) then 2 else if 48 ≤ c.toNat ∧ c.toNat ≤ 57 then 3 else if c.toNat = 126 then 0 else 1
theorem cls_cases (c : UInt8) : clsB c = 0 ∨ clsB c = 1 ∨ clsB c = 2 ∨ clsB c = 3 := by
  unfold clsB; repeat' split
  all_goals simp
theorem cls_tilde {c : UInt8} (h : clsB c = 0) : c = 126 := by
  unfold clsB at h
  split at h
  · cases h
  · split at h
    · cases h
    · split at h
      · rename_i e; exact UInt8.toNat_inj.1 e
      · cases h
abbrev Tok := Nat × List UInt8
def hdC : List UInt8 → Nat
  | [] => 1
  | c :: _ => clsB c
def rawT : List UInt8 → List Tok
  | [] => []
  | c :: r => if clsB c = 1 then rawT r else if clsB c ≠ 0 ∧ hdC r = clsB c then (match rawT r with | [] => [(clsB c, [c])] | t :: l => (t.1, c :: t.2) :: l) else (clsB c, [c]) :: rawT r
def stripT (t : Tok) : Tok := if t.1 = 3 then (3, t.2.dropWhile (· == 48)) else t
def toksB (s : List UInt8) : List Tok := (rawT s).map stripT

theorem raw_one (c : UInt8) (r : List UInt8) (h : clsB c = 1) : rawT (c :: r) = rawT r := by rw [rawT, if_pos h]
theorem raw_tilde (c : UInt8) (r : List UInt8) (h : clsB c = 0) : rawT (c :: r) = (0, [c]) :: rawT r := by
  rw [rawT, if_neg (by omega), if_neg (by omega), h]
theorem raw_run {k : Nat} (hk : k = 2 ∨ k = 3) : ∀ (x b : List UInt8), x ≠ [] → (∀ c ∈ x, clsB c = k) → hdC b ≠ k → rawT (x ++ b) = (k, x) :: rawT b
  | [], _, h, _, _ => absurd rfl h
  | [c], b, _, hx, hb => by
    have hc := hx c (by simp)
    rw [List.singleton_append, rawT, if_neg (by omega), if_neg (by omega), hc]
  | c :: d :: r, b, _, hx, hb => by
    have hc := hx c (by simp)
    have hd := hx d (by simp)
    have ih := raw_run hk (d :: r) b (by simp) (fun e he => hx e (by simp only [List.mem_cons] at he ⊢; exact Or.inr he)) hb
    rw [List.cons_append, rawT, if_neg (by omega), if_pos ⟨by omega, by show clsB d = clsB c; omega⟩, ih]
theorem raw_sep (c : UInt8) (hc : clsB c = 1) (b : List UInt8) : ∀ a : List UInt8, rawT (a ++ c :: b) = rawT a ++ rawT b
  | [] => by rw [List.nil_append, raw_one c b hc]; rfl
  | x :: r => by
    have ih := raw_sep c hc b r
    have hh : clsB x ≠ 1 → (hdC (r ++ c :: b) = clsB x ↔ hdC r = clsB x) := by
      intro hx
      cases r with
      | nil => show clsB c = clsB x ↔ 1 = clsB x; rw [hc]
      | cons y r => exact Iff.rfl
    by_cases h1 : clsB x = 1
    · rw [List.cons_append, raw_one x _ h1, raw_one x _ h1, ih]
    · have hh := hh h1
      rw [List.cons_append, rawT, rawT, if_neg h1, if_neg h1]
      by_cases h2 : clsB x ≠ 0 ∧ hdC r = clsB x
      · rw [if_pos h2, if_pos ⟨h2.1, hh.2 h2.2⟩, ih]
        cases hr : rawT r with
        | nil =>
          exfalso
          cases r with
          | nil => have := h2.2; simp only [hdC] at this; omega
          | cons y r =>
            have hy : clsB y = clsB x := h2.2
            rw [rawT, if_neg (by omega)] at hr
            split at hr
            · split at hr <;> cases hr
            · cases hr
        | cons t l => rfl
      · rw [if_neg h2, if_neg (fun h => h2 ⟨h.1, hh.1 h.2⟩), ih]; rfl
theorem toks_sep (c : UInt8) (hc : clsB c = 1) (a b : List UInt8) : toksB (a ++ c :: b) = toksB a ++ toksB b := by
  rw [toksB, raw_sep c hc, List.map_append]; rfl

/-- The first token, and what stands behind it. -/
def nextB (s0 : List UInt8) : Tok × List UInt8 :=
  match s0.dropWhile (fun c => clsB c == 1) with
  | [] => ((1, []), [])
  | c :: r => if clsB c = 3 then ((3, ((c :: r).dropWhile (· == 48)).takeWhile (fun c => clsB c == 3)), ((c :: r).dropWhile (· == 48)).dropWhile (fun c => clsB c == 3))
    else if clsB c = 2 then ((2, (c :: r).takeWhile (fun c => clsB c == 2)), (c :: r).dropWhile (fun c => clsB c == 2))
    else ((0, [c]), r)
theorem raw_drop : ∀ s : List UInt8, rawT s = rawT (s.dropWhile (fun c => clsB c == 1))
  | [] => rfl
  | c :: r => by
    by_cases h : clsB c = 1
    · rw [raw_one c r h, raw_drop r, List.dropWhile_cons, if_pos (by simp [h])]
    · rw [List.dropWhile_cons, if_neg (by simp [h])]
theorem drop_head (p : UInt8 → Bool) : ∀ (s : List UInt8) (c : UInt8) (r : List UInt8), s.dropWhile p = c :: r → p c = false
  | [], _, _, h => by cases h
  | a :: s, c, r, h => by
    rw [List.dropWhile_cons] at h
    split at h
    · exact drop_head p s c r h
    · rename_i h2; cases h; simpa using h2
theorem hd_drop (k : Nat) (hk : k ≠ 1) (s : List UInt8) : hdC (s.dropWhile (fun c => clsB c == k)) ≠ k := by
  cases h : s.dropWhile (fun c => clsB c == k) with
  | nil => show 1 ≠ k; omega
  | cons c r => have := drop_head _ s c r h; show clsB c ≠ k; simpa using this
theorem mem_take (p : UInt8 → Bool) : ∀ (s : List UInt8) (c : UInt8), c ∈ s.takeWhile p → p c = true
  | [], _, h => by cases h
  | a :: s, c, h => by
    rw [List.takeWhile_cons] at h
    split at h
    · rename_i h2
      rcases List.mem_cons.1 h with rfl | h
      · exact h2
      · exact mem_take p s c h
    · cases h
theorem take_drop_while (p : UInt8 → Bool) : ∀ s : List UInt8, s.takeWhile p ++ s.dropWhile p = s
  | [] => rfl
  | a :: s => by
    rw [List.takeWhile_cons, List.dropWhile_cons]
    split
    · rw [List.cons_append, take_drop_while p s]
    · rfl
theorem raw_span {k : Nat} (hk : k = 2 ∨ k = 3) (s : List UInt8) (h : s.takeWhile (fun c => clsB c == k) ≠ []) : rawT s = (k, s.takeWhile (fun c => clsB c == k)) :: rawT (s.dropWhile (fun c => clsB c == k)) := by
  have := raw_run hk _ (s.dropWhile (fun c => clsB c == k)) h (fun c hc => by have := mem_take _ s c hc; simpa using this) (hd_drop k (by omega) s)
  rwa [take_drop_while] at this
theorem noughts (s : List UInt8) : ((s.dropWhile (· == 48)).takeWhile (fun c => clsB c == 3)) = (s.takeWhile (fun c => clsB c == 3)).dropWhile (· == 48) ∧ (s.dropWhile (· == 48)).dropWhile (fun c => clsB c == 3) = s.dropWhile (fun c => clsB c == 3) := by
  induction s with
  | nil => exact ⟨rfl, rfl⟩
  | cons a s ih =>
    by_cases h : a = 48
    · have hc : clsB a = 3 := by rw [h]; decide
      have h1 : (a :: s).dropWhile (· == 48) = s.dropWhile (· == 48) := by rw [List.dropWhile_cons, if_pos (by simp [h])]
      have h2 : (a :: s).takeWhile (fun c => clsB c == 3) = a :: s.takeWhile (fun c => clsB c == 3) := by rw [List.takeWhile_cons, if_pos (by simp [hc])]
      have h3 : (a :: s).dropWhile (fun c => clsB c == 3) = s.dropWhile (fun c => clsB c == 3) := by rw [List.dropWhile_cons, if_pos (by simp [hc])]
      rw [h1, h2, h3, List.dropWhile_cons, if_pos (by simp [h])]
      exact ih
    · have h1 : (a :: s).dropWhile (· == 48) = a :: s := by rw [List.dropWhile_cons, if_neg (by simp [h])]
      rw [h1]
      refine ⟨?_, rfl⟩
      rw [List.takeWhile_cons]
      split
      · rw [List.dropWhile_cons, if_neg (by simp [h])]
      · rfl
theorem drop_len (p : UInt8 → Bool) (s : List UInt8) : (s.dropWhile p).length ≤ s.length := by
  have := congrArg List.length (take_drop_while p s); rw [List.length_append] at this; omega
theorem take_len (p : UInt8 → Bool) (s : List UInt8) : (s.takeWhile p).length ≤ s.length := by
  have := congrArg List.length (take_drop_while p s); rw [List.length_append] at this; omega
theorem next_toks (s : List UInt8) : (((nextB s).1.1 = 1 ∧ nextB s = ((1, []), []) ∧ toksB s = []) ∨ ((nextB s).1.1 ≠ 1 ∧ toksB s = (nextB s).1 :: toksB (nextB s).2 ∧ (nextB s).2.length < s.length)) := by
  have h0 := raw_drop s
  have hl := drop_len (fun c => clsB c == 1) s
  unfold nextB
  cases hs : s.dropWhile (fun c => clsB c == 1) with
  | nil => rw [hs] at h0; left; exact ⟨rfl, rfl, by rw [toksB, h0]; rfl⟩
  | cons c r =>
    have hc : clsB c ≠ 1 := by have := drop_head _ s c r hs; simpa using this
    right
    rw [hs] at h0 hl
    simp only [List.length_cons] at hl
    dsimp only
    by_cases h3 : clsB c = 3
    · rw [if_pos h3]
      obtain ⟨n1, n2⟩ := noughts (c :: r)
      refine ⟨by show (3 : Nat) ≠ 1; decide, ?_, ?_⟩
      · have hne : (c :: r).takeWhile (fun c => clsB c == 3) ≠ [] := by rw [List.takeWhile_cons, if_pos (by simp [h3])]; simp
        rw [toksB, h0, raw_span (Or.inr rfl) _ hne, List.map_cons, n1, n2]; rfl
      · show (((c :: r).dropWhile (· == 48)).dropWhile (fun c => clsB c == 3)).length < s.length
        rw [n2, List.dropWhile_cons, if_pos (by simp [h3])]
        have := drop_len (fun c => clsB c == 3) r; omega
    · rw [if_neg h3]
      by_cases h2 : clsB c = 2
      · rw [if_pos h2]
        refine ⟨by show (2 : Nat) ≠ 1; decide, ?_, ?_⟩
        · have hne : (c :: r).takeWhile (fun c => clsB c == 2) ≠ [] := by rw [List.takeWhile_cons, if_pos (by simp [h2])]; simp
          rw [toksB, h0, raw_span (Or.inl rfl) _ hne, List.map_cons]; rfl
        · show ((c :: r).dropWhile (fun c => clsB c == 2)).length < s.length
          rw [List.dropWhile_cons, if_pos (by simp [h2])]
          have := drop_len (fun c => clsB c == 2) r; omega
      · rw [if_neg h2]
        have h00 : clsB c = 0 := by have := cls_cases c; omega
        refine ⟨by show (0 : Nat) ≠ 1; decide, ?_, ?_⟩
        · rw [toksB, h0, raw_tilde c r h00, List.map_cons]; rfl
        · show r.length < s.length; omega
theorem raw_kind : ∀ (s : List UInt8) (t : Tok), t ∈ rawT s → t.1 ≠ 1
  | [], _, h => by cases h
  | c :: r, t, h => by
    rw [rawT] at h
    split at h
    · exact raw_kind r t h
    · rename_i h1
      split at h
      · split at h
        · simp only [List.mem_singleton] at h; subst h; exact h1
        · rename_i t' l e
          rcases List.mem_cons.1 h with rfl | h
          · exact raw_kind r t' (by rw [e]; simp)
          · exact raw_kind r t (by rw [e]; simp [h])
      · rcases List.mem_cons.1 h with rfl | h
        · exact h1
        · exact raw_kind r t h
theorem toks_kind (s : List UInt8) (t : Tok) (h : t ∈ toksB s) : t.1 ≠ 1 := by
  rw [toksB, List.mem_map] at h
  obtain ⟨t', h1, rfl⟩ := h
  have := raw_kind s t' h1
  unfold stripT; split
  · show (3 : Nat) ≠ 1; decide
  · exact this
theorem toks_len : ∀ (n : Nat) (s : List UInt8), s.length ≤ n → (toksB s).length ≤ s.length
  | n, s, hn => by
    rcases next_toks s with ⟨_, _, h⟩ | ⟨_, h, hl⟩
    · rw [h]; exact Nat.zero_le _
    · cases n with
      | zero => omega
      | succ n =>
        have := toks_len n (nextB s).2 (by omega)
        rw [h, List.length_cons]; omega

/-- Two tokens against each other; two lists of them. -/
def holdB (p q : Tok) : Int := if p.1 ≠ q.1 then Lib.compareInt (p.1 : Int) (q.1 : Int) else if p.1 = 3 ∧ p.2.length ≠ q.2.length then Lib.compareInt (p.2.length : Int) (q.2.length : Int) else Lib.compareBytes p.2 q.2
def cmpL : List Tok → List Tok → Int
  | [], [] => 0
  | [], q :: _ => Lib.compareInt 1 (q.1 : Int)
  | p :: _, [] => Lib.compareInt (p.1 : Int) 1
  | p :: x, q :: y => if holdB p q = 0 then cmpL x y else holdB p q
def cmpV (a b : List UInt8) : Int := cmpL (toksB a) (toksB b)
end Go.Proofs.YtnlcaabkbnppkaaDoor
