/- ConfOrders: the text as it grows, and what reading it so far gives. -/
import Derived.Test.YtfoamhkgdlebdaaGreatDoorX20
namespace Go.Proofs.YtfoamhkgdlebdaaGreatDoor
open Go.RowKit Go.Extern.Stop Go.Stop Go.Extern
set_option maxRecDepth 100000

/-- The lines that stand once. -/
def fixL (x : En) : List (List UInt8) := lnV x.ver :: lnB kwK (x.kn, x.ks) :: if x.op.isEmpty then [] else [lnO x.op]
/-- Whether line t of the m is among the first j, begun at c. -/
def dn (m c j t : Nat) : Bool := (List.range j).any (fun q => (q + c) % m == t)
theorem dn_succ (m c j t : Nat) : dn m c (j + 1) t = (dn m c j t || ((j + c) % m == t)) := by
  simp [dn, List.range_succ, List.any_append]
theorem dn_new {m c j : Nat} (hm : m = 2 ∨ m = 3) (hj : j < m) : dn m c j ((j + c) % m) = false := by
  apply List.any_eq_false.2
  intro q hq
  have hq := List.mem_range.1 hq
  simp only [beq_iff_eq]
  rcases hm with rfl | rfl <;> omega
theorem dn_all {m c t : Nat} (hm : m = 2 ∨ m = 3) (ht : t < m) : dn m c m t = true := by
  apply List.any_eq_true.2
  rcases hm with rfl | rfl
  · have : (0 + c) % 2 = t ∨ (1 + c) % 2 = t := by omega
    rcases this with h | h
    · exact ⟨0, by simp, by simpa using h⟩
    · exact ⟨1, by simp, by simpa using h⟩
  · have : (0 + c) % 3 = t ∨ (1 + c) % 3 = t ∨ (2 + c) % 3 = t := by omega
    rcases this with h | h | h
    · exact ⟨0, by simp, by simpa using h⟩
    · exact ⟨1, by simp, by simpa using h⟩
    · exact ⟨2, by simp, by simpa using h⟩
/-- The entry as it is read so far. -/
def stE (x : En) (m c j k : Nat) : En := ⟨if dn m c j 0 then x.ver else [], if dn m c j 1 then x.kn else [], if dn m c j 1 then x.ks else [], x.ex.take k, if dn m c j 2 then x.op else []⟩
theorem fix_len (x : En) : (fixL x).length = 2 ∨ (fixL x).length = 3 := by
  unfold fixL; split <;> simp
theorem st_0 (x : En) (m c : Nat) : stE x m c 0 0 = e0 := rfl
theorem st_all (x : En) (c : Nat) : stE x (fixL x).length c (fixL x).length x.ex.length = x := by
  have hm := fix_len x
  have h0 : dn (fixL x).length c (fixL x).length 0 = true := dn_all hm (by omega)
  have h1 : dn (fixL x).length c (fixL x).length 1 = true := dn_all hm (by omega)
  rw [stE, h0, h1]
  by_cases ho : x.op.isEmpty
  · have : x.op = [] := by simpa using ho
    cases x; simp_all
  · have h2 : dn (fixL x).length c (fixL x).length 2 = true := dn_all hm (by unfold fixL; rw [if_neg ho]; simp)
    rw [h2]; cases x; simp
theorem step_fix {x : En} (h : OkE x) (c j k : Nat) (hj : j < (fixL x).length) : takeL (stE x (fixL x).length c j k) ((fixL x).getD ((j + c) % (fixL x).length) []) = some (stE x (fixL x).length c (j + 1) k) := by
  have hm := fix_len x
  have hn := dn_new (c := c) hm hj
  have ht : (j + c) % (fixL x).length < (fixL x).length := Nat.mod_lt _ (by omega)
  have hs := dn_succ (fixL x).length c j
  have hv : ∀ t, (fixL x).getD t [] = if t = 0 then lnV x.ver else if t = 1 then lnB kwK (x.kn, x.ks) else if t = 2 ∧ x.op.isEmpty = false then lnO x.op else [] := by
    intro t
    unfold fixL
    rcases t with _ | _ | _ | t
    · rfl
    · rfl
    · by_cases ho : x.op.isEmpty <;> simp [ho]
    · by_cases ho : x.op.isEmpty <;> simp [ho]
  rw [hv]
  generalize (j + c) % (fixL x).length = t at *
  have h2 : t = 2 → x.op.isEmpty = false := fun e => by
    subst e
    cases ho : x.op.isEmpty
    · rfl
    · exfalso; unfold fixL at ht; simp [ho] at ht
  have h3 : t = 0 ∨ t = 1 ∨ t = 2 := by omega
  generalize (fixL x).length = m at *
  rcases h3 with rfl | rfl | rfl
  · rw [if_pos rfl, take_lnV (by simp [stE, hn]) h.ver]
    simp [stE, hs]
  · rw [if_neg (by omega), if_pos rfl, take_lnK (by simp [stE, hn]) (by simp [stE, hn]) h.ker]
    simp [stE, hs]
  · have ho := h2 rfl
    rw [if_neg (by omega), if_neg (by omega), if_pos ⟨rfl, ho⟩, take_lnO (by simp [stE, hn]) h.op (by intro e; rw [e] at ho; cases ho)]
    simp [stE, hs]
theorem step_ext {x : En} (h : OkE x) (m c j k : Nat) (hk : k < x.ex.length) : takeL (stE x m c j k) (lnB kwE (x.ex.getD k ([], []))) = some (stE x m c j (k + 1)) := by
  have hf := h.few
  have e : x.ex.getD k ([], []) = x.ex[k] := by simp [List.getD, hk]
  have hb := h.ex _ (List.getElem_mem hk)
  have hl : (x.ex.take k).length < 8 := by rw [List.length_take]; omega
  have ht : x.ex.take (k + 1) = x.ex.take k ++ [x.ex[k]] := by rw [List.take_add_one, List.getElem?_eq_getElem hk]; rfl
  rw [e]
  generalize x.ex[k] = b at *
  unfold stE
  rw [ht]
  exact take_lnE hl hb
def rmk : List UInt8 := [35, 32, 97, 32, 114, 101, 109, 97, 114, 107]
/-- What holds between two rounds. -/
structure OrI (x : En) (c j k : Nat) (s : List UInt8) : Prop where
  run : ∃ ls : List (List UInt8), (∀ l ∈ ls, (10 : UInt8) ∉ l) ∧ s = (ls.map (· ++ [10])).flatten ∧ runL ls e0 = some (stE x (fixL x).length c j k)
  len : s.length ≤ 230 * j + 70 * k
theorem OrI.start (x : En) (c : Nat) : OrI x c 0 0 [] := ⟨⟨[], by simp, rfl, rfl⟩, by simp⟩
/-- One line more, with the remark before it or without. -/
theorem OrI.line {x : En} {c j k j' k' : Nat} {s : List UInt8} (h : OrI x c j k s) (b : Bool) (l : List UInt8) (hl : (10 : UInt8) ∉ l)
    (ht : takeL (stE x (fixL x).length c j k) l = some (stE x (fixL x).length c j' k')) (hn : l.length + 13 + 230 * j + 70 * k ≤ 230 * j' + 70 * k') :
    OrI x c j' k' ((if b then s ++ (10 :: rmk ++ [10]) else s) ++ (l ++ [10])) := by
  obtain ⟨ls, h1, h2, h3⟩ := h.run
  have hlen := h.len
  cases b
  · refine ⟨⟨ls ++ [l], fun q hq => ?_, by rw [h2]; simp, ?_⟩, by simp; omega⟩
    · rcases List.mem_append.1 hq with hq | hq
      · exact h1 q hq
      · simp at hq; subst hq; exact hl
    · rw [runL_append, h3]; simp [runL, ht]
  · refine ⟨⟨ls ++ [[], rmk, l], fun q hq => ?_, by rw [h2]; simp, ?_⟩, by simp [rmk]; omega⟩
    · rcases List.mem_append.1 hq with hq | hq
      · exact h1 q hq
      · simp at hq
        rcases hq with rfl | rfl | rfl
        · simp
        · decide
        · exact hl
    · rw [runL_append, h3]
      have e1 : ∀ e, takeL e [] = some e := fun e => rfl
      have e2 : ∀ e, takeL e rmk = some e := fun e => by rw [rmk, takeL, if_pos (by decide)]
      simp [runL, e1, e2, ht]
theorem fix_nl {x : En} (h : OkE x) (t : Nat) : (10 : UInt8) ∉ (fixL x).getD t [] ∧ ((fixL x).getD t []).length ≤ 210 := by
  have h1 := ver_parts h.ver
  have h2 := opt_parts h.op
  have h3 := blob_parts h.ker
  have e1 : kwV.length = 7 := rfl
  have e2 : kwK.length = 6 := rfl
  have e3 : kwO.length = 7 := rfl
  rcases t with _ | _ | _ | t
  · refine ⟨?_, ?_⟩
    · show (10 : UInt8) ∉ lnV x.ver
      have := h1.2.2.2; simp [lnV, this, kwV]
    · show (lnV x.ver).length ≤ 210
      simp [lnV]; omega
  · refine ⟨?_, ?_⟩
    · exact lnB_nl (b := (x.kn, x.ks)) (by decide) h.ker
    · show (lnB kwK (x.kn, x.ks)).length ≤ 210
      simp [lnB]; omega
  · by_cases ho : x.op.isEmpty
    · simp [fixL, ho]
    · have e : (fixL x).getD 2 [] = lnO x.op := by simp [fixL, ho]
      have := h2.2
      rw [show 0 + 1 + 1 = 2 from rfl, e]
      exact ⟨by simp [lnO, this, kwO], by simp [lnO]; omega⟩
  · by_cases ho : x.op.isEmpty <;> simp [fixL, ho]
theorem OrI.fix {x : En} {c j k : Nat} {s : List UInt8} (h : OrI x c j k s) (hx : OkE x) (b : Bool) (hj : j < (fixL x).length) :
    OrI x c (j + 1) k ((if b then s ++ (10 :: rmk ++ [10]) else s) ++ ((fixL x).getD ((j + c) % (fixL x).length) [] ++ [10])) := by
  have hn := fix_nl hx ((j + c) % (fixL x).length)
  exact h.line b _ hn.1 (step_fix hx c j k hj) (by omega)
theorem OrI.ext {x : En} {c j k : Nat} {s : List UInt8} (h : OrI x c j k s) (hx : OkE x) (b : Bool) (hk : k < x.ex.length) :
    OrI x c j (k + 1) ((if b then s ++ (10 :: rmk ++ [10]) else s) ++ (lnB kwE (x.ex.getD k ([], [])) ++ [10])) := by
  have e : x.ex.getD k ([], []) = x.ex[k] := by simp [List.getD, hk]
  have hb := hx.ex _ (List.getElem_mem hk)
  have h2 := blob_parts hb
  have e2 : kwE.length = 5 := rfl
  refine h.line b _ ?_ (step_ext hx _ c j k hk) ?_
  · rw [e]; exact lnB_nl (by decide) hb
  · rw [e]; simp [lnB]; omega
theorem OrI.read {x : En} {c : Nat} {s : List UInt8} (h : OrI x c (fixL x).length x.ex.length s) (hx : OkE x) : readL (linesB s) 0 e0 = .inr x ∧ s.length ≤ 2000 := by
  obtain ⟨ls, h1, h2, h3⟩ := h.run
  have hl := h.len
  have hm := fix_len x
  have hf := hx.few
  refine ⟨?_, by omega⟩
  rw [st_all] at h3
  have q := lines_flat ls [] h1
  rw [List.append_nil] at q
  rw [h2, q, readL_run _ _ _ _ _ h3]
  have h4 := (ver_parts hx.ver).1
  have h5 := (blob_parts hx.ker).1
  have e1 : x.ver.isEmpty = false := by cases hq : x.ver; exact absurd hq h4; rfl
  have e2 : x.kn.isEmpty = false := by cases hq : x.kn; exact absurd hq h5; rfl
  simp [linesB, readL, takeL, e1, e2]
end Go.Proofs.YtfoamhkgdlebdaaGreatDoor
