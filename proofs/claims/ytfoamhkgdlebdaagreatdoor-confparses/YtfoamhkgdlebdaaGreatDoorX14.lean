/- What is printed is read as it was; what is read may be. -/
import Derived.Test.YtfoamhkgdlebdaaGreatDoorX13
namespace Go.Proofs.YtfoamhkgdlebdaaGreatDoor
open Go.RowKit Go.Extern.Stop Go.Stop Go.Extern
set_option maxRecDepth 100000

theorem nmem_of_all {p : UInt8 → Bool} {x : List UInt8} {c : UInt8} (h : x.all p = true) (hc : p c = false) : c ∉ x := fun hm => by
  have := List.all_eq_true.1 h c hm; rw [hc] at this; cases this
theorem ix_mem : ∀ {x : List UInt8} {c : UInt8}, c ∈ x → 0 ≤ Lib.indexByte x c
  | [], _, h => by simp at h
  | b :: l, c, h => by
    by_cases e : b = c
    · subst e; simp [Lib.indexByte]
    · rw [ix_cons e]
      have := ix_mem (x := l) (c := c) (by rcases List.mem_cons.1 h with rfl | h; exact absurd rfl e; exact h)
      rw [if_neg (by omega)]; omega
theorem ver_parts {v : List UInt8} (h : verB v = true) : v ≠ [] ∧ v.length ≤ 40 ∧ (32 : UInt8) ∉ v ∧ (10 : UInt8) ∉ v := by
  simp only [verB, Bool.and_eq_true, Bool.not_eq_true', decide_eq_true_eq, decide_eq_false_iff_not] at h
  obtain ⟨⟨⟨h1, h2⟩, h3⟩, h4⟩ := h
  exact ⟨by (intro e; rw [e] at h1; cases h1), h2, fun hm => h4 (ix_mem hm), nmem_of_all h3 (by decide)⟩
theorem opt_parts {o : List UInt8} (h : optB o = true) : o.length ≤ 200 ∧ (10 : UInt8) ∉ o := by
  simp only [optB, Bool.and_eq_true, decide_eq_true_eq] at h
  exact ⟨h.1.1, nmem_of_all h.1.2 (by decide)⟩
theorem unhex_each : ∀ (cs : List Int) (acc : Option Int), (cs.foldl unhexStep acc).isSome = true → acc.isSome = true ∧ ∀ c ∈ cs, (dig c).isSome = true
  | [], acc, h => ⟨h, by simp⟩
  | c :: cs, acc, h => by
    obtain ⟨h1, h2⟩ := unhex_each cs (unhexStep acc c) h
    cases acc with
    | none => simp [unhexStep] at h1
    | some n =>
      refine ⟨rfl, fun d hd => ?_⟩
      rcases List.mem_cons.1 hd with rfl | hd
      · simpa [unhexStep] using h1
      · exact h2 d hd
theorem blob_parts {n s : List UInt8} (h : blobB n s = true) : n ≠ [] ∧ s ≠ [] ∧ n.length ≤ 27 ∧ s.length = 16 ∧ (32 : UInt8) ∉ n ∧ (10 : UInt8) ∉ n ∧ (32 : UInt8) ∉ s ∧ (10 : UInt8) ∉ s := by
  simp only [blobB, Bool.and_eq_true] at h
  obtain ⟨h1, h2⟩ := h
  simp only [okB, Bool.and_eq_true, decide_eq_true_eq] at h2
  obtain ⟨⟨⟨⟨g1, g2⟩, -⟩, -⟩, g5⟩ := h2
  unfold unhexS at h1
  rw [mk_size] at h1
  by_cases hs : s.length = 16
  · rw [if_pos hs] at h1
    have hd := (unhex_each _ _ h1).2
    have hn : ∀ c : UInt8, dig (c.toNat : Int) = none → c ∉ s := fun c hc hm => by
      have := hd (c.toNat : Int) (by simp only [bytesOf, mk_list, List.mem_map]; exact ⟨c, hm, rfl⟩)
      rw [hc] at this; cases this
    exact ⟨by (intro e; rw [e] at g1; simp at g1), by (intro e; rw [e] at hs; simp at hs), g2, hs, nmem_of_all g5 (by decide), nmem_of_all g5 (by decide), hn 32 (by decide), hn 10 (by decide)⟩
  · rw [if_neg hs] at h1; cases h1
/-- What an entry that may be says. -/
structure OkE (x : En) : Prop where
  ver : verB x.ver = true
  ker : blobB x.kn x.ks = true
  few : x.ex.length ≤ 8
  ex : ∀ b ∈ x.ex, blobB b.1 b.2 = true
  op : optB x.op = true
theorem ok_iff (x : En) : okE x = true ↔ OkE x := by
  simp only [okE, Bool.and_eq_true, decide_eq_true_eq, Bool.not_eq_true', List.any_eq_false]
  constructor
  · rintro ⟨⟨⟨⟨h1, h2⟩, h3⟩, h4⟩, h5⟩
    exact ⟨h1, h2, h3, fun b hb => by simpa using h4 b hb, h5⟩
  · rintro ⟨h1, h2, h3, h4, h5⟩
    exact ⟨⟨⟨⟨h1, h2⟩, h3⟩, fun b hb => by simpa using h4 b hb⟩, h5⟩
theorem OkE.sizes {x : En} (h : OkE x) : x.ver.length ≤ 1000 ∧ x.kn.length ≤ 1000 ∧ x.ks.length ≤ 1000 ∧ x.op.length ≤ 1000 ∧ x.ex.length ≤ 8 ∧ ∀ b ∈ x.ex, b.1.length ≤ 1000 ∧ b.2.length ≤ 1000 := by
  have h1 := ver_parts h.ver
  have h2 := blob_parts h.ker
  have h3 := opt_parts h.op
  exact ⟨by omega, by omega, by omega, by omega, h.few, fun b hb => by have := blob_parts (h.ex b hb); omega⟩
/-! a line -/
theorem put_nil {t : List UInt8} (h : t ≠ []) : putT [] t = true := by
  cases t with
  | nil => exact absurd rfl h
  | cons c l => rfl
def lnV (v : List UInt8) : List UInt8 := kwV ++ 32 :: v
def lnB (k : List UInt8) (b : Bl) : List UInt8 := k ++ 32 :: (b.1 ++ 32 :: b.2)
def lnO (o : List UInt8) : List UInt8 := kwO ++ 32 :: o
theorem take_cons {k t : List UInt8} {c : UInt8} {r : List UInt8} (hk : k = c :: r) (hc : c ≠ 35) (h32 : (32 : UInt8) ∉ k) (e : En) : takeL e (k ++ 32 :: t) = takeW e k t := by
  have := sp_join k t h32
  subst hk
  rw [List.cons_append, takeL, if_neg (by simpa using hc), ← List.cons_append, this]
theorem take_lnV {e : En} {v : List UInt8} (he : e.ver = []) (hv : verB v = true) : takeL e (lnV v) = some ⟨v, e.kn, e.ks, e.ex, e.op⟩ := by
  have hn := (ver_parts hv).1
  rw [lnV, take_cons (k := kwV) (c := 118) (r := kwV.tail) rfl (by decide) (by decide), takeW]
  rw [if_neg (by simp [kwV, kwE]), if_neg (by decide), if_pos (by decide), if_pos (by rw [he, put_nil hn, hv]; rfl)]
theorem take_lnO {e : En} {o : List UInt8} (he : e.op = []) (ho : optB o = true) (hn : o ≠ []) : takeL e (lnO o) = some ⟨e.ver, e.kn, e.ks, e.ex, o⟩ := by
  rw [lnO, take_cons (k := kwO) (c := 111) (r := kwO.tail) rfl (by decide) (by decide), takeW]
  rw [if_neg (by simp [kwO, kwE]), if_neg (by decide), if_neg (by decide), if_pos (by decide), if_pos (by rw [he, put_nil hn, ho]; rfl)]
theorem set_nil {b : Bl} (hb : blobB b.1 b.2 = true) : setB ([], []) (b.1 ++ 32 :: b.2) = some b := by
  obtain ⟨h1, h2, -, -, h5, -, -, -⟩ := blob_parts hb
  rw [setB, sp_join _ _ h5]
  simp [put_nil h1, put_nil h2, hb]
theorem take_lnK {e : En} {b : Bl} (h1 : e.kn = []) (h2 : e.ks = []) (hb : blobB b.1 b.2 = true) : takeL e (lnB kwK b) = some ⟨e.ver, b.1, b.2, e.ex, e.op⟩ := by
  rw [lnB, take_cons (k := kwK) (c := 107) (r := kwK.tail) rfl (by decide) (by decide), takeW]
  rw [if_neg (by simp [kwK, kwE]), if_pos (by decide), h1, h2, set_nil hb]; rfl
theorem take_lnE {e : En} {b : Bl} (h1 : e.ex.length < 8) (hb : blobB b.1 b.2 = true) : takeL e (lnB kwE b) = some ⟨e.ver, e.kn, e.ks, e.ex ++ [b], e.op⟩ := by
  rw [lnB, take_cons (k := kwE) (c := 101) (r := kwE.tail) rfl (by decide) (by decide), takeW]
  rw [if_pos (by simp [h1]), set_nil hb]; rfl
/-! lines -/
theorem lines_flat : ∀ (ls : List (List UInt8)) (r : List UInt8), (∀ l ∈ ls, (10 : UInt8) ∉ l) → linesB ((ls.map (· ++ [10])).flatten ++ r) = ls ++ linesB r
  | [], r, _ => rfl
  | l :: ls, r, h => by
    rw [List.map_cons, List.flatten_cons, List.append_assoc, List.append_assoc, List.singleton_append, lines_join _ _ (h l (by simp)), lines_flat ls r (fun x hx => h x (by simp [hx]))]; rfl
/-- Lines taken one behind the other. -/
def runL : List (List UInt8) → En → Option En
  | [], e => some e
  | x :: l, e => match takeL e x with
    | none => none
    | some e' => runL l e'
theorem runL_append : ∀ (a b : List (List UInt8)) (e : En), runL (a ++ b) e = (runL a e).bind (runL b)
  | [], b, e => rfl
  | x :: a, b, e => by
    rw [List.cons_append, runL, runL]
    cases takeL e x with
    | none => rfl
    | some e' => exact runL_append a b e'
theorem readL_run : ∀ (a b : List (List UInt8)) (i : Nat) (e e' : En), runL a e = some e' → readL (a ++ b) i e = readL b (i + a.length) e'
  | [], b, i, e, e', h => by simp [runL] at h; subst h; rfl
  | x :: a, b, i, e, e', h => by
    rw [runL] at h
    rw [List.cons_append, readL]
    cases ht : takeL e x with
    | none => rw [ht] at h; cases h
    | some e1 =>
      rw [ht] at h
      have := readL_run a b (i + 1) e1 e' h
      simp only []
      rw [this, List.length_cons]
      congr 1; omega
theorem run_ex : ∀ (l : List Bl) (e : En), e.ex.length + l.length ≤ 8 → (∀ b ∈ l, blobB b.1 b.2 = true) → runL (l.map (lnB kwE)) e = some ⟨e.ver, e.kn, e.ks, e.ex ++ l, e.op⟩
  | [], e, _, _ => by simp [runL]
  | b :: l, e, hn, hb => by
    rw [List.map_cons, runL, take_lnE (by simp at hn; omega) (hb b (by simp))]
    have := run_ex l ⟨e.ver, e.kn, e.ks, e.ex ++ [b], e.op⟩ (by simp at hn ⊢; omega) (fun c hc => hb c (by simp [hc]))
    simp only []
    rw [this]; simp
/-- The lines of an entry. -/
def linesE (x : En) : List (List UInt8) := lnV x.ver :: lnB kwK (x.kn, x.ks) :: (x.ex.map (lnB kwE) ++ if x.op.isEmpty then [] else [lnO x.op])
theorem line2 (k p : List UInt8) : lineW [k, p] = (k ++ 32 :: p) ++ [10] := by simp [lineW, Lib.join]
theorem line3 (k : List UInt8) (b : Bl) : lineW [k, b.1, b.2] = lnB k b ++ [10] := by simp [lineW, Lib.join, lnB]
theorem print_lines (x : En) : printL x = ((linesE x).map (· ++ [10])).flatten := by
  have h1 : extraP x.ex = ((x.ex.map (lnB kwE)).map (· ++ [10])).flatten := by
    rw [extraP, List.map_map]
    congr 1
    apply List.map_congr_left
    intro b _
    exact line3 kwE b
  rw [printL, headP, optP, linesE, h1, line2]
  have h2 := line3 kwK (x.kn, x.ks)
  simp only [] at h2
  rw [h2]
  by_cases ho : x.op.isEmpty
  · simp [ho, lnV]
  · simp [ho, lnV, lnO, line2]
theorem lnB_nl {k : List UInt8} {b : Bl} (hk : (10 : UInt8) ∉ k) (hb : blobB b.1 b.2 = true) : (10 : UInt8) ∉ lnB k b := by
  obtain ⟨-, -, -, -, -, h6, -, h8⟩ := blob_parts hb
  simp [lnB, hk, h6, h8]
theorem lines_nl {x : En} (h : OkE x) : ∀ l ∈ linesE x, (10 : UInt8) ∉ l := by
  intro l hl
  simp only [linesE, List.mem_cons, List.mem_append] at hl
  rcases hl with rfl | rfl | hl | hl
  · have := (ver_parts h.ver).2.2.2
    simp [lnV, this, kwV]
  · exact lnB_nl (by decide) h.ker
  · obtain ⟨b, hb, rfl⟩ := List.mem_map.1 hl
    exact lnB_nl (by decide) (h.ex b hb)
  · split at hl
    · cases hl
    · simp at hl; subst hl
      have := (opt_parts h.op).2
      simp [lnO, this, kwO]
theorem run_lines {x : En} (h : OkE x) : runL (linesE x) e0 = some x := by
  rw [linesE, runL, take_lnV rfl h.ver]
  simp only []
  rw [runL, take_lnK rfl rfl h.ker]
  simp only []
  rw [runL_append, run_ex x.ex _ (by simp [e0]; exact h.few) h.ex]
  simp only [Option.bind]
  by_cases ho : x.op.isEmpty
  · rw [if_pos ho]
    have : x.op = [] := by simpa using ho
    simp [runL, e0]
    cases x; simp_all
  · rw [if_neg ho, runL, take_lnO rfl h.op (by intro e; rw [e] at ho; exact ho rfl)]
    simp [runL, e0]
/-- What is printed is read as it was. -/
theorem read_print {x : En} (h : OkE x) : readL (linesB (printL x)) 0 e0 = .inr x := by
  rw [print_lines]
  have h1 := lines_flat (linesE x) [] (lines_nl h)
  rw [List.append_nil] at h1
  rw [h1, readL_run _ _ _ _ _ (run_lines h)]
  have h2 := (ver_parts h.ver).1
  have h3 := (blob_parts h.ker).1
  have e1 : x.ver.isEmpty = false := by cases hx : x.ver; exact absurd hx h2; rfl
  have e2 : x.kn.isEmpty = false := by cases hx : x.kn; exact absurd hx h3; rfl
  simp [linesB, readL, takeL, e1, e2]
theorem print_len {x : En} (h : OkE x) : (printL x).length ≤ 2000 := by
  have h1 := ver_parts h.ver
  have h2 := blob_parts h.ker
  have h3 := opt_parts h.op
  have h7 : ∀ l : List Bl, (∀ b ∈ l, blobB b.1 b.2 = true) → (extraP l).length ≤ l.length * 60 := by
    intro l
    induction l with
    | nil => intro _; simp [extraP]
    | cons b r ih =>
      intro hb
      have h4 := ih (fun c hc => hb c (by simp [hc]))
      have h5 := blob_parts (hb b (by simp))
      have e : extraP (b :: r) = lineW [kwE, b.1, b.2] ++ extraP r := by simp [extraP]
      rw [e, List.length_append, lineW_len3, List.length_cons]
      have : kwE.length = 5 := rfl
      omega
  have h8 := h7 x.ex h.ex
  have h9 := h.few
  have e1 : kwV.length = 7 := rfl
  have e2 : kwK.length = 6 := rfl
  have e3 : kwO.length = 7 := rfl
  have h10 : (optP x).length ≤ 209 := by
    rw [optP]; split
    · simp
    · rw [lineW_len2]; omega
  rw [printL, headP, List.length_append, List.length_append, List.length_append, lineW_len2, lineW_len3]
  omega
/-! what is read may be -/
structure Pre (x : En) : Prop where
  ver : x.ver = [] ∨ verB x.ver = true
  ker : x.kn = [] ∨ blobB x.kn x.ks = true
  few : x.ex.length ≤ 8
  ex : ∀ b ∈ x.ex, blobB b.1 b.2 = true
  op : x.op = [] ∨ optB x.op = true
theorem setB_ok {b : Bl} {t : List UInt8} {y : Bl} (h : setB b t = some y) : blobB y.1 y.2 = true := by
  unfold setB at h
  split at h
  · rename_i hc
    simp only [Bool.and_eq_true] at hc
    cases h
    exact hc.2
  · cases h
theorem takeL_pre {e : En} (h : Pre e) : ∀ {x : List UInt8} {y : En}, takeL e x = some y → Pre y
  | [], y, ht => by simp [takeL] at ht; subst ht; exact h
  | c :: l, y, ht => by
    rw [takeL] at ht
    split at ht
    · cases ht; exact h
    · unfold takeW at ht
      split at ht
      · rename_i hc
        simp only [Bool.and_eq_true, decide_eq_true_eq] at hc
        obtain ⟨b, hb, rfl⟩ := Option.map_eq_some_iff.1 ht
        refine ⟨h.ver, h.ker, by simp; omega, fun d hd => ?_, h.op⟩
        rcases List.mem_append.1 hd with hd | hd
        · exact h.ex d hd
        · simp at hd; subst hd; exact setB_ok hb
      · split at ht
        · obtain ⟨b, hb, rfl⟩ := Option.map_eq_some_iff.1 ht
          exact ⟨h.ver, Or.inr (setB_ok hb), h.few, h.ex, h.op⟩
        · split at ht
          · split at ht
            · rename_i hc
              simp only [Bool.and_eq_true] at hc
              cases ht
              exact ⟨Or.inr hc.2, h.ker, h.few, h.ex, h.op⟩
            · cases ht
          · split at ht
            · split at ht
              · rename_i hc
                simp only [Bool.and_eq_true] at hc
                cases ht
                exact ⟨h.ver, h.ker, h.few, h.ex, Or.inr hc.2⟩
              · cases ht
            · cases ht
theorem readL_ok : ∀ (l : List (List UInt8)) (i : Nat) (e y : En), Pre e → readL l i e = .inr y → OkE y
  | [], i, e, y, h, hr => by
    unfold readL at hr
    split at hr
    · cases hr
    · rename_i hc
      cases hr
      simp only [Bool.or_eq_true, not_or] at hc
      have h1 : e.ver ≠ [] := fun x => hc.1 (by rw [x]; rfl)
      have h2 : e.kn ≠ [] := fun x => hc.2 (by rw [x]; rfl)
      exact ⟨h.ver.resolve_left h1, h.ker.resolve_left h2, h.few, h.ex, h.op.elim (fun x => by rw [x]; decide) id⟩
  | x :: l, i, e, y, h, hr => by
    unfold readL at hr
    cases ht : takeL e x with
    | none => rw [ht] at hr; cases hr
    | some e' => rw [ht] at hr; exact readL_ok l (i + 1) e' y (takeL_pre h ht) hr
theorem pre0 : Pre e0 := ⟨Or.inl rfl, Or.inl rfl, by simp [e0], by simp [e0], Or.inl rfl⟩
end Go.Proofs.YtfoamhkgdlebdaaGreatDoor
