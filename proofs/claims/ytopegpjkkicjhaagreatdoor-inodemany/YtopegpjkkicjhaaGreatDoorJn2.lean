/- Groups of blocks, noted, settled, and what any beginning of these writes leaves on the disk. -/
import Derived.Test.YtopegpjkkicjhaaGreatDoorJn1
import Derived.Test.YtopegpjkkicjhaaGreatDoorSd
import Derived.Test.YtopegpjkkicjhaaGreatDoorSyW
namespace Go.Proofs.YtopegpjkkicjhaaGreatDoor
open Go.RowKit
set_option maxRecDepth 100000

def laid (ws : Grp) (mem : Nat → Int) : Nat → Int := ws.foldl (fun m p => memW p.1 p.2 m) mem
theorem laid_one (i : Nat) (zs : List Int) (m : Nat → Int) : laid [(i, zs)] m = memW i zs m := rfl
theorem laid_append (a b : Grp) (mem : Nat → Int) : laid (a ++ b) mem = laid b (laid a mem) := by simp [laid]
theorem laid_other (ws : Grp) (no : Nat) : ∀ mem, (∀ p ∈ ws, p.1 ≠ no) → blockL (laid ws mem) no = blockL mem no := by
  induction ws with
  | nil => intro mem _; rfl
  | cons p ws ih =>
    intro mem h
    have := ih (memW p.1 p.2 mem) (fun q hq => h q (List.mem_cons_of_mem _ hq))
    rw [laid, List.foldl_cons]
    exact this.trans (memW_other _ _ (h p List.mem_cons_self) _ _)
theorem laid_same (ws : Grp) (p : Nat × List Int) : ∀ mem, (ws.map (·.1)).Nodup → p ∈ ws → p.2.length = 128 → blockL (laid ws mem) p.1 = p.2 := by
  induction ws with
  | nil => intro _ _ h; cases h
  | cons q ws ih =>
    intro mem hn hm hp
    rw [List.map_cons, List.nodup_cons] at hn
    rw [laid, List.foldl_cons]
    rcases List.mem_cons.1 hm with rfl | h
    · have := laid_other ws p.1 (memW p.1 p.2 mem) (fun r hr e => hn.1 (by rw [← e]; exact List.mem_map_of_mem hr))
      exact this.trans (memW_same _ _ hp _)
    · exact ih _ hn.2 h hp

/-- The block that makes a group whole. -/
def digestL (h body : List Int) : Int := fnv fnv0 (h.take 8 ++ body)
def headL (n : Nat) (body : List Int) : List Int := putL (putL zeroB 0 n) 1 (digestL (putL zeroB 0 n) body)
theorem zeroB_len : zeroB.length = 128 := by simp
theorem zeroB_range : ∀ z ∈ zeroB, 0 ≤ z ∧ z ≤ 255 := fun z hz => by obtain ⟨_, rfl⟩ := List.mem_replicate.1 hz; omega
theorem headL_len (n : Nat) (body : List Int) : (headL n body).length = 128 := by rw [headL, putK_len, putK_len, zeroB_len]
theorem headL_range (n : Nat) (body : List Int) : ∀ z ∈ headL n body, 0 ≤ z ∧ z ≤ 255 := putK_range _ _ _ (putK_range _ _ _ zeroB_range 8) 8
theorem take8_put (zs : List Int) (n : Int) (hz : 16 ≤ zs.length) : (putL zs 1 n).take 8 = zs.take 8 := by
  apply List.ext_getElem?
  intro j
  rw [List.getElem?_take, List.getElem?_take]
  by_cases hj : j < 8
  · rw [if_pos hj, if_pos hj]
    have := putK_get zs 1 n (by omega) j 8 (by omega)
    rw [if_neg (by omega)] at this
    simp only [List.getD] at this
    have h1 : j < (putK zs 1 n 8).length := by rw [putK_len]; omega
    have h2 : j < zs.length := by omega
    rw [List.getElem?_eq_getElem h1, List.getElem?_eq_getElem h2] at this ⊢
    simpa using this
  · rw [if_neg hj, if_neg hj]
theorem head_count (n : Nat) (hn : n ≤ 1000000) (body : List Int) : getL (headL n body) 0 = n := by
  rw [headL, get_put_other _ _ _ _ (by rw [putK_len, zeroB_len]; omega) (by omega), get_put_same _ _ _ (by rw [zeroB_len]; omega) (by omega) (by omega)]
theorem head_digest (n : Nat) (body : List Int) : getL (headL n body) 1 = digestL (headL n body) body := by
  have h := fnv_range fnv0 (by decide) ((putL zeroB 0 (n : Int)).take 8 ++ body)
  have h' : 0 ≤ digestL (putL zeroB 0 (n : Int)) body ∧ digestL (putL zeroB 0 (n : Int)) body < 18446744073709551616 := h
  rw [headL, get_put_same _ _ _ (by rw [putK_len, zeroB_len]; omega) h'.1 h'.2, digestL, digestL, take8_put _ _ (by rw [putK_len, zeroB_len]; omega)]
theorem zero_count (i : Nat) : getL zeroB i = 0 := by
  have h : ∀ j, zeroB.getD j 0 = 0 := fun j => by simp only [List.getD, List.getElem?_replicate]; split <;> rfl
  have : ∀ K, getK zeroB i K = 0 := fun K => by
    induction K with
    | zero => rfl
    | succ K ih => rw [getK, ih, h]; simp
  exact this 8

/-- The blocks of a group may be written: they are there, once each, none of them among 'own' blocks from at_ on, each with its bytes. -/
structure Good (N at_ own : Nat) (l : Grp) : Prop where
  few : l.length ≤ 200
  no : ∀ k, k < l.length → nob l k < N
  len : ∀ k, k < l.length → (dat l k).length = 128
  range : ∀ k, k < l.length → ∀ z ∈ dat l k, 0 ≤ z ∧ z ≤ 255
  out : ∀ k, k < l.length → nob l k < at_ ∨ at_ + own ≤ nob l k
  once : ∀ k j, k < l.length → j < k → nob l j ≠ nob l k
theorem Good.less {N at_ own own' : Nat} {l : Grp} (h : Good N at_ own l) (ho : own' ≤ own) : Good N at_ own' l :=
  ⟨h.few, h.no, h.len, h.range, fun k hk => by have := h.out k hk; omega, h.once⟩
theorem Good.mem {N at_ own : Nat} {l : Grp} (h : Good N at_ own l) (p : Nat × List Int) (hp : p ∈ l) : p.1 < N ∧ p.2.length = 128 ∧ (p.1 < at_ ∨ at_ + own ≤ p.1) := by
  obtain ⟨k, hk, rfl⟩ := List.getElem_of_mem hp
  have e : l[k] = l.getD k (0, []) := by simp [List.getD, hk]
  rw [e]
  exact ⟨h.no k hk, h.len k hk, h.out k hk⟩
theorem Good.nodup {N at_ own : Nat} {l : Grp} (h : Good N at_ own l) : (l.map (·.1)).Nodup := by
  rw [List.nodup_iff_pairwise_ne, List.pairwise_iff_getElem]
  intro i j hi hj hij
  simp only [List.length_map] at hi hj
  have e1 : l[i] = l.getD i (0, []) := by simp [List.getD, hi]
  have e2 : l[j] = l.getD j (0, []) := by simp [List.getD, hj]
  simp only [List.getElem_map, e1, e2]
  exact h.once j i hj hij
abbrev size (l : Grp) : Nat := rowsN l.length + l.length
abbrev headG (l : Grp) : List Int := headL l.length (bodyL l)
def bodyWs (at_ : Nat) (l : Grp) (m : Nat) : Grp := (List.range m).map fun i => (at_ + 1 + i, chunk (bodyL l) i)
def noteWs (at_ : Nat) (l : Grp) : Grp := bodyWs at_ l (size l) ++ [(at_, headG l)]
def settleWs (at_ : Nat) (l : Grp) : Grp := l ++ [(at_, zeroB)]
abbrev Idle (at_ : Nat) (mem : Nat → Int) : Prop := blockL mem at_ = zeroB
structure Noted (at_ : Nat) (l : Grp) (mem : Nat → Int) : Prop where
  head : blockL mem at_ = headG l
  body : ∀ i, i < size l → blockL mem (at_ + 1 + i) = chunk (bodyL l) i
theorem bodyWs_mem {at_ m : Nat} {l : Grp} {p : Nat × List Int} (h : p ∈ bodyWs at_ l m) : ∃ i, i < m ∧ p = (at_ + 1 + i, chunk (bodyL l) i) := by
  obtain ⟨i, hi, rfl⟩ := List.mem_map.1 h
  exact ⟨i, List.mem_range.1 hi, rfl⟩
theorem bodyWs_nodup (at_ m : Nat) (l : Grp) : ((bodyWs at_ l m).map (·.1)).Nodup := by
  rw [bodyWs, List.map_map, List.nodup_iff_pairwise_ne, List.pairwise_map]
  exact List.Pairwise.imp (fun {a b} h => by simp only [Function.comp]; omega) List.pairwise_lt_range
theorem bodyWs_succ (at_ m : Nat) (l : Grp) : bodyWs at_ l (m + 1) = bodyWs at_ l m ++ [(at_ + 1 + m, chunk (bodyL l) m)] := by simp [bodyWs, List.range_succ]

theorem take_mem {ws : Grp} {k : Nat} {P : Nat × List Int → Prop} (h : ∀ p ∈ ws, P p) : ∀ p ∈ ws.take k, P p := fun p hp => h p (List.mem_of_mem_take hp)
/-- A beginning of a group's settling. -/
theorem settle_some {N at_ own : Nat} {l : Grp} {v : Nat → List Int} {mem : Nat → Int} (hg : Good N at_ own l) (ho : 1 + size l ≤ own) (hn : Noted at_ l mem) (h : ∀ no, (no < at_ ∨ at_ + own ≤ no) → (∀ p ∈ l, p.1 ≠ no) → blockL mem no = v no) (k : Nat) (hk : k < (settleWs at_ l).length) :
    Noted at_ l (laid ((settleWs at_ l).take k) mem) ∧ ∀ no, (no < at_ ∨ at_ + own ≤ no) → (∀ p ∈ l, p.1 ≠ no) → blockL (laid ((settleWs at_ l).take k) mem) no = v no := by
  have hkl : k ≤ l.length := by simp [settleWs] at hk; omega
  rw [settleWs, List.take_append_of_le_length hkl]
  have hne : ∀ no, at_ ≤ no → no < at_ + own → ∀ p ∈ l.take k, p.1 ≠ no := fun no h1 h2 => take_mem fun p hp => by have := (hg.mem p hp).2.2; omega
  refine ⟨⟨?_, fun i hi => ?_⟩, fun no h1 h2 => ?_⟩
  · rw [laid_other _ _ _ (hne at_ (by omega) (by omega))]; exact hn.head
  · rw [laid_other _ _ _ (hne _ (by omega) (by omega))]; exact hn.body i hi
  · rw [laid_other _ _ _ (take_mem h2)]; exact h no h1 h2
/-- A whole settling. -/
theorem settle_all {N at_ own : Nat} {l : Grp} {v : Nat → List Int} {mem : Nat → Int} (hg : Good N at_ own l) (ho : 1 ≤ own) (h : ∀ no, (no < at_ ∨ at_ + own ≤ no) → (∀ p ∈ l, p.1 ≠ no) → blockL mem no = v no) :
    Idle at_ (laid (settleWs at_ l) mem) ∧ (∀ no, (no < at_ ∨ at_ + own ≤ no) → (∀ p ∈ l, p.1 ≠ no) → blockL (laid (settleWs at_ l) mem) no = v no) ∧ ∀ p ∈ l, blockL (laid (settleWs at_ l) mem) p.1 = p.2 := by
  rw [settleWs, laid_append]
  have e : ∀ m : Nat → Int, laid [(at_, zeroB)] m = memW at_ zeroB m := fun _ => laid_one _ _ _
  rw [e]
  refine ⟨memW_same _ _ zeroB_len _, fun no h1 h2 => ?_, fun p hp => ?_⟩
  · rw [memW_other _ _ (by omega), laid_other _ _ _ h2]; exact h no h1 h2
  · have hm := hg.mem p hp
    rw [memW_other _ _ (by omega)]
    exact laid_same l p mem hg.nodup hp hm.2.1
/-- A beginning of a group's noting. -/
theorem note_some {N at_ own : Nat} {l : Grp} {v : Nat → List Int} {mem : Nat → Int} (_hg : Good N at_ own l) (ho : 1 + size l ≤ own) (hi : Idle at_ mem) (h : ∀ no, (no < at_ ∨ at_ + own ≤ no) → blockL mem no = v no) (k : Nat) (hk : k < (noteWs at_ l).length) :
    Idle at_ (laid ((noteWs at_ l).take k) mem) ∧ ∀ no, (no < at_ ∨ at_ + own ≤ no) → blockL (laid ((noteWs at_ l).take k) mem) no = v no := by
  have hbl : (bodyWs at_ l (size l)).length = size l := by simp [bodyWs]
  have hkl : k ≤ (bodyWs at_ l (size l)).length := by simp [noteWs] at hk; omega
  rw [noteWs, List.take_append_of_le_length hkl]
  have hne : ∀ no, (no ≤ at_ ∨ at_ + own ≤ no) → ∀ p ∈ (bodyWs at_ l (size l)).take k, p.1 ≠ no := fun no h1 => take_mem fun p hp => by
    obtain ⟨i, hi, rfl⟩ := bodyWs_mem hp
    show at_ + 1 + i ≠ no
    omega
  exact ⟨by rw [Idle, laid_other _ _ _ (hne at_ (by omega))]; exact hi, fun no h1 => by rw [laid_other _ _ _ (hne no (by omega))]; exact h no h1⟩
theorem chunk_body_len {N at_ own : Nat} {l : Grp} (hg : Good N at_ own l) (i : Nat) (hi : i < size l) : (chunk (bodyL l) i).length = 128 :=
  chunk_len _ _ (by have h2 := bodyK_len l hg.len l.length (Nat.le_refl _); have : i < rowsN l.length + l.length := hi; rw [show (bodyL l).length = _ from h2]; generalize rowsN l.length + l.length = q at this; omega)
theorem note_all {N at_ own : Nat} {l : Grp} {v : Nat → List Int} {mem : Nat → Int} (hg : Good N at_ own l) (ho : 1 + size l ≤ own) (h : ∀ no, (no < at_ ∨ at_ + own ≤ no) → blockL mem no = v no) :
    Noted at_ l (laid (noteWs at_ l) mem) ∧ ∀ no, (no < at_ ∨ at_ + own ≤ no) → blockL (laid (noteWs at_ l) mem) no = v no := by
  rw [noteWs, laid_append]
  have e : ∀ m : Nat → Int, laid [(at_, headG l)] m = memW at_ (headG l) m := fun _ => laid_one _ _ _
  rw [e]
  refine ⟨⟨memW_same _ _ (headL_len _ _) _, fun i hi => ?_⟩, fun no h1 => ?_⟩
  · rw [memW_other _ _ (by omega)]
    exact laid_same _ (at_ + 1 + i, chunk (bodyL l) i) mem (bodyWs_nodup _ _ _) (List.mem_map.2 ⟨i, List.mem_range.2 hi, rfl⟩) (chunk_body_len hg i hi)
  · rw [memW_other _ _ (by omega), laid_other _ _ _ (fun p hp => by obtain ⟨i, hi, rfl⟩ := bodyWs_mem hp; show at_ + 1 + i ≠ no; omega)]
    exact h no h1
theorem noted_span {N at_ own : Nat} {l : Grp} {mem : Nat → Int} (hg : Good N at_ own l) (hn : Noted at_ l mem) : spanL mem (at_ + 1) (size l) = bodyL l :=
  spanL_is _ _ _ _ (bodyK_len l hg.len _ (Nat.le_refl _)) hn.body
end Go.Proofs.YtopegpjkkicjhaaGreatDoor
