/- A map from numbers to rows of 128 bytes, as it lies in memory. -/
import Derived.Test.YtopegpjkkicjhaaGreatDoorJq1
import Derived.Maps.OwnOps
import Derived.Maps.Views
import Derived.Lib.SlKeysI
namespace Go.Proofs.YtopegpjkkicjhaaGreatDoor
open Go.RowKit Go.Extern.Stop Go.Stop Go.Extern Go.Maps
set_option maxRecDepth 100000

/-- A block's bytes. -/
def Row (zs : List Int) : Prop := zs.length = 128 ∧ ∀ z ∈ zs, 0 ≤ z ∧ z ≤ 255
def rowC (zs : List Int) : Array Value := (zs.map (Value.int .u8)).toArray
theorem rowC_inj {a b : List Int} (h : rowC a = rowC b) : a = b := by
  have h2 : a.map (Value.int .u8) = b.map (Value.int .u8) := by simpa [rowC] using h
  exact (List.map_inj_right (fun x y e => by simpa using e)).1 h2
def byteOf : Value → Option Int
  | .int .u8 z => if 0 ≤ z ∧ z ≤ 255 then some z else none
  | _ => none
def listOf : List Value → Option (List Int)
  | [] => some []
  | v :: r => (byteOf v).bind fun z => (listOf r).map fun zs => z :: zs
/-- How an element of the map reads. -/
def rowR (v : Value) : Option (DataW (List Int) × List MemPlace) :=
  match v with
  | .agg cs => (listOf cs.toList).bind fun zs => if zs.length = 128 then some (.held zs, []) else none
  | _ => none
theorem byteOf_inv {v : Value} {z : Int} (h : byteOf v = some z) : v = .int .u8 z ∧ 0 ≤ z ∧ z ≤ 255 := by
  unfold byteOf at h
  split at h
  · split at h
    · rename_i hz
      obtain rfl := Option.some.inj h
      exact ⟨rfl, hz⟩
    · cases h
  · cases h
theorem listOf_inv : ∀ (vs : List Value) (zs : List Int), listOf vs = some zs → vs = zs.map (Value.int .u8) ∧ ∀ z ∈ zs, 0 ≤ z ∧ z ≤ 255
  | [], zs, h => by
    obtain rfl := Option.some.inj h
    exact ⟨rfl, fun z hz => by cases hz⟩
  | v :: r, zs, h => by
    unfold listOf at h
    obtain ⟨z, hz, h2⟩ := Option.bind_eq_some_iff.1 h
    obtain ⟨ys, hy, rfl⟩ := Option.map_eq_some_iff.1 h2
    obtain ⟨rfl, hr⟩ := byteOf_inv hz
    obtain ⟨rfl, hall⟩ := listOf_inv r ys hy
    exact ⟨rfl, fun x hx => by
      rcases List.mem_cons.1 hx with rfl | hx
      · exact hr
      · exact hall x hx⟩
theorem listOf_mk : ∀ zs : List Int, (∀ z ∈ zs, 0 ≤ z ∧ z ≤ 255) → listOf (zs.map (Value.int .u8)) = some zs
  | [], _ => rfl
  | z :: r, h => by
    have h1 : byteOf (.int .u8 z) = some z := by show (if 0 ≤ z ∧ z ≤ 255 then some z else none) = some z; rw [if_pos (h z (by simp))]
    rw [List.map_cons, listOf, h1, listOf_mk r (fun x hx => h x (by simp [hx]))]
    rfl
theorem rowR_mk {zs : List Int} (h : Row zs) : rowR (.agg (rowC zs)) = some (.held zs, []) := by
  have e : (rowC zs).toList = zs.map (Value.int .u8) := by simp [rowC]
  unfold rowR
  simp only [e, listOf_mk zs h.2, Option.bind_some, if_pos h.1]
theorem rowR_inv {v : Value} {z : DataW (List Int) × List MemPlace} (h : rowR v = some z) : ∃ zs, Row zs ∧ v = .agg (rowC zs) ∧ z = (.held zs, []) := by
  unfold rowR at h
  split at h
  · rename_i cs
    obtain ⟨zs, hz, h2⟩ := Option.bind_eq_some_iff.1 h
    split at h2
    · rename_i hl
      obtain ⟨e, hr⟩ := listOf_inv _ _ hz
      refine ⟨zs, ⟨hl, hr⟩, ?_, (Option.some.inj h2).symm⟩
      congr 1
      apply Array.ext'
      rw [e]
      simp [rowC]
    · cases h2
  · cases h

abbrev Chg : Type := List (Int × List Int)
def datM (M : Chg) : DataW (List Int) := .map (M.map fun p => (.int .i64 p.1, .held p.2))
def insM (x : Int × List Int) : Chg → Chg
  | [] => [x]
  | y :: r => if x.1 < y.1 then x :: y :: r else y :: insM x r
/-- The map behind a store. -/
def putM (k : Int) (zs : List Int) (M : Chg) : Chg := insM (k, zs) (M.filter fun p => !decide (p.1 = k))
def hasM (k : Int) (M : Chg) : Bool := M.any fun p => decide (p.1 = k)
def getM (k : Int) (M : Chg) (z : List Int) : List Int := match M.find? (fun p => decide (p.1 = k)) with | some p => p.2 | none => z
theorem ins_dat (x : Int × List Int) : ∀ M : Chg, DataW.insert (H := List Int) (.int .i64 x.1, .held x.2) (M.map fun p => (.int .i64 p.1, .held p.2)) = (insM x M).map fun p => (.int .i64 p.1, .held p.2)
  | [] => rfl
  | y :: r => by
    simp only [List.map_cons, DataW.insert, insM, Lit.before]
    by_cases h : x.1 < y.1
    · simp [h]
    · simp [h, ins_dat x r]
theorem put_dat (k : Int) (zs : List Int) (M : Chg) : (datM M).put (.int .i64 k) (.held zs) = datM (putM k zs M) := by
  have e : (M.map fun p => ((.int .i64 p.1, .held p.2) : Lit × DataW (List Int))).filter (fun p => !p.1.sameKey (.int .i64 k)) = (M.filter fun p => !decide (p.1 = k)).map fun p => (.int .i64 p.1, .held p.2) := by
    rw [List.filter_map]
    congr 1
    apply List.filter_congr
    intro p _
    simp [Lit.sameKey]
  unfold datM putM DataW.put
  simp only
  rw [e]
  exact congrArg _ (ins_dat (k, zs) _)
theorem at_dat (k : Int) (M : Chg) (z : List Int) : (datM M).atKey (.int .i64 k) (.held z) = .held (getM k M z) := by
  unfold datM DataW.atKey getM
  simp only [List.find?_map]
  have e : ((fun p : Lit × DataW (List Int) => p.1.sameKey (.int .i64 k)) ∘ fun p : Int × List Int => ((.int .i64 p.1, .held p.2) : Lit × DataW (List Int))) = fun p => decide (p.1 = k) := by
    funext p; simp [Lit.sameKey]
  rw [e]
  cases M.find? (fun p => decide (p.1 = k)) <;> rfl
theorem has_dat (k : Int) (M : Chg) : Maps.has (datM M) (.int .i64 k) = hasM k M := by
  unfold datM hasM
  rw [Maps.has_eq, List.any_map]
  congr 1
  funext p
  simp [Lit.sameKey]
theorem size_dat (M : Chg) : Maps.size (datM M) = M.length := by simp [datM, Maps.size_eq]
theorem keys_dat (M : Chg) : intKeys (datM M) = M.map (·.1) := by simp [datM, intKeys, Go.intOf]
/-- What is so of a map of changes. -/
structure Tidy (M : Chg) : Prop where
  up : M.Pairwise (fun p q => p.1 < q.1)
  rows : ∀ p ∈ M, Row p.2
theorem mem_ins (x y : Int × List Int) : ∀ M : Chg, y ∈ insM x M ↔ y = x ∨ y ∈ M
  | [] => by simp [insM]
  | z :: r => by
    unfold insM
    split
    · simp
    · rw [List.mem_cons, mem_ins x y r, List.mem_cons]
      exact ⟨fun h => by rcases h with h | h | h; exact Or.inr (Or.inl h); exact Or.inl h; exact Or.inr (Or.inr h), fun h => by rcases h with h | h | h; exact Or.inr (Or.inl h); exact Or.inl h; exact Or.inr (Or.inr h)⟩
theorem ins_up (x : Int × List Int) : ∀ M : Chg, M.Pairwise (fun p q => p.1 < q.1) → (∀ p ∈ M, p.1 ≠ x.1) → (insM x M).Pairwise (fun p q => p.1 < q.1)
  | [], _, _ => by simp [insM]
  | y :: r, h, hne => by
    obtain ⟨h1, h2⟩ := List.pairwise_cons.1 h
    unfold insM
    split
    · rename_i hb
      refine List.pairwise_cons.2 ⟨fun q hq => ?_, h⟩
      rcases List.mem_cons.1 hq with rfl | hq
      · exact hb
      · exact Int.lt_trans hb (h1 q hq)
    · rename_i hb
      have := hne y (by simp)
      refine List.pairwise_cons.2 ⟨fun q hq => ?_, ins_up x r h2 (fun p hp => hne p (by simp [hp]))⟩
      rcases (mem_ins x q r).1 hq with rfl | hq
      · omega
      · exact h1 q hq
theorem mem_put {k : Int} {zs : List Int} {M : Chg} {y : Int × List Int} : y ∈ putM k zs M ↔ y = (k, zs) ∨ y ∈ M ∧ y.1 ≠ k := by
  unfold putM
  rw [mem_ins, List.mem_filter]
  simp
theorem Tidy.nil : Tidy [] := ⟨List.Pairwise.nil, fun p hp => by cases hp⟩
theorem Tidy.put {M : Chg} (h : Tidy M) (k : Int) (zs : List Int) (hz : Row zs) : Tidy (putM k zs M) :=
  ⟨ins_up _ _ (h.up.filter _) (fun p hp => by simpa using (List.mem_filter.1 hp).2), fun p hp => by
    rcases mem_put.1 hp with rfl | ⟨hp, -⟩
    · exact hz
    · exact h.rows p hp⟩
theorem ins_len (x : Int × List Int) : ∀ M : Chg, (insM x M).length = M.length + 1
  | [] => rfl
  | y :: r => by unfold insM; split <;> simp [ins_len x r]
theorem hasM_iff {k : Int} {M : Chg} : hasM k M = true ↔ ∃ p ∈ M, p.1 = k := by simp [hasM]
theorem put_len_new {k : Int} {zs : List Int} {M : Chg} (h : hasM k M = false) : (putM k zs M).length = M.length + 1 := by
  unfold putM
  rw [ins_len, List.filter_eq_self.2]
  intro p hp
  simp only [Bool.not_eq_true', decide_eq_false_iff_not]
  intro e
  have := hasM_iff.2 ⟨p, hp, e⟩
  rw [h] at this; cases this
theorem filter_len_old {k : Int} : ∀ {M : Chg}, M.Pairwise (fun p q => p.1 < q.1) → hasM k M = true → (M.filter fun p => !decide (p.1 = k)).length + 1 = M.length
  | [], _, h => by simp [hasM] at h
  | y :: r, hp, h => by
    obtain ⟨h1, h2⟩ := List.pairwise_cons.1 hp
    by_cases e : y.1 = k
    · have hr : (r.filter fun p => !decide (p.1 = k)) = r := List.filter_eq_self.2 fun p hp => by
        have := h1 p hp
        simp only [Bool.not_eq_true', decide_eq_false_iff_not]
        omega
      simp [e, hr]
    · have hr : hasM k r = true := by
        obtain ⟨p, hp, e'⟩ := hasM_iff.1 h
        rcases List.mem_cons.1 hp with rfl | hp
        · exact absurd e' e
        · exact hasM_iff.2 ⟨p, hp, e'⟩
      have := filter_len_old h2 hr
      simp [e]
      omega
theorem put_len_old {k : Int} {zs : List Int} {M : Chg} (ht : Tidy M) (h : hasM k M = true) : (putM k zs M).length = M.length := by
  unfold putM
  rw [ins_len]
  exact filter_len_old ht.up h
theorem getM_none {k : Int} {M : Chg} {z : List Int} (h : hasM k M = false) : getM k M z = z := by
  unfold getM
  rw [List.find?_eq_none.2]
  intro p hp e
  have := hasM_iff.2 ⟨p, hp, by simpa using e⟩
  rw [h] at this; cases this
theorem getM_mem {k : Int} {M : Chg} {z : List Int} (h : hasM k M = true) : (k, getM k M z) ∈ M := by
  unfold getM
  cases hf : M.find? (fun p => decide (p.1 = k)) with
  | none =>
    obtain ⟨p, hp, e⟩ := hasM_iff.1 h
    have := List.find?_eq_none.1 hf p hp
    simp [e] at this
  | some p =>
    have h1 := List.mem_of_find?_eq_some hf
    have h2 := List.find?_some hf
    simp at h2
    subst h2
    exact h1
theorem getM_of_mem {M : Chg} (ht : Tidy M) {p : Int × List Int} (hp : p ∈ M) (z : List Int) : getM p.1 M z = p.2 := by
  have h := getM_mem (z := z) (hasM_iff.2 ⟨p, hp, rfl⟩)
  have key : ∀ M : Chg, M.Pairwise (fun p q => p.1 < q.1) → ∀ a ∈ M, ∀ b ∈ M, a.1 = b.1 → a = b := by
    intro M
    induction M with
    | nil => intro _ a ha; cases ha
    | cons y r ih =>
      intro hp a ha b hb e
      obtain ⟨h1, h2⟩ := List.pairwise_cons.1 hp
      rcases List.mem_cons.1 ha with rfl | ha'
      · rcases List.mem_cons.1 hb with rfl | hb'
        · rfl
        · have := h1 b hb'; omega
      · rcases List.mem_cons.1 hb with rfl | hb'
        · have := h1 a ha'; omega
        · exact ih h2 a ha' b hb' e
  exact congrArg Prod.snd (key M ht.up _ h _ hp rfl)
theorem hasM_put (k k' : Int) (zs : List Int) (M : Chg) : hasM k' (putM k zs M) = (decide (k' = k) || hasM k' M) := by
  rw [Bool.eq_iff_iff]
  rw [hasM_iff, Bool.or_eq_true, decide_eq_true_eq, hasM_iff]
  constructor
  · rintro ⟨p, hp, rfl⟩
    rcases mem_put.1 hp with rfl | ⟨hp, -⟩
    · exact Or.inl rfl
    · exact Or.inr ⟨p, hp, rfl⟩
  · rintro (rfl | ⟨p, hp, rfl⟩)
    · exact ⟨(k', zs), mem_put.2 (Or.inl rfl), rfl⟩
    · by_cases e : p.1 = k
      · exact ⟨(k, zs), mem_put.2 (Or.inl rfl), e.symm⟩
      · exact ⟨p, mem_put.2 (Or.inr ⟨hp, e⟩), rfl⟩
theorem getM_put_same {k : Int} {zs : List Int} {M : Chg} (ht : Tidy M) (hz : Row zs) (z : List Int) : getM k (putM k zs M) z = zs :=
  getM_of_mem (ht.put k zs hz) (p := (k, zs)) (mem_put.2 (Or.inl rfl)) z
theorem getM_put_other {k k' : Int} {zs : List Int} {M : Chg} (ht : Tidy M) (hz : Row zs) (hne : k' ≠ k) (z : List Int) : getM k' (putM k zs M) z = getM k' M z := by
  cases h : hasM k' M with
  | false =>
    rw [getM_none h, getM_none]
    rw [hasM_put, h]
    simp [hne]
  | true =>
    have h1 := getM_mem (z := z) h
    exact getM_of_mem (ht.put k zs hz) (p := (k', getM k' M z)) (mem_put.2 (Or.inr ⟨h1, hne⟩)) z
theorem keys_sorted {M : Chg} (h : M.Pairwise (fun p q => p.1 < q.1)) : ((M.map (·.1)).mergeSort leI) = M.map (·.1) := by
  apply List.mergeSort_of_pairwise
  refine List.pairwise_map.2 (h.imp ?_)
  intro a b hab
  simp only [leI, decide_eq_true_eq]
  omega

/-- The map at block b. -/
structure MapAt (w : World) (b : Nat) (M : Chg) : Prop where
  own : w.ownsMap Tryz.prog 3 rowR b M.length (datM M)
  tidy : Tidy M
theorem MapAt.lt {w : World} {b : Nat} {M : Chg} (h : MapAt w b M) : b < w.heap.size := h.own.lt
theorem MapAt.keep {w w' : World} {b : Nat} {M : Chg} {bs : List Nat} (h : MapAt w b M) (ha : Apart bs w w') (hn : b ∉ bs) : MapAt w' b M := by
  obtain ⟨es, clock, hb, F, hs, hD⟩ := h.own
  exact ⟨⟨es, clock, (ha.block b h.lt hn).trans hb, F, hs, hD⟩, h.tidy⟩
theorem MapAt.below {w w' : World} {b : Nat} {M : Chg} (h : MapAt w b M) (hb : Below w.heap.size w w') : MapAt w' b M := h.keep (Apart.of_below (bs := []) hb) (by simp)
theorem MapAt.tight {w : World} {b n : Nat} {M : Chg} (h : w.ownsMap Tryz.prog 3 rowR b n (datM M)) (ht : Tidy M) : MapAt w b M := by
  obtain ⟨es, clock, hb, F, hs, hD⟩ := h
  refine ⟨⟨es, clock, hb, F, ?_, hD⟩, ht⟩
  have := congrArg Maps.size hD
  rw [size_dat, Maps.size_eq, length_sorted] at this
  simp at this
  omega
theorem mapAt_new (w : World) : MapAt (w.alloc (.map #[] 0)) w.heap.size [] := ⟨World.ownsMap_made w _ _ _, Tidy.nil⟩
theorem keyI (k : Int) (hk : i64 k) : keyOf Tryz.prog 3 (.int .i64 k) = some (.int .i64 k) := Maps.keyOf_int_mk Tryz.underlying3 (by
  have h1 : IntKind.i64.min = -9223372036854775808 := by decide
  have h2 : IntKind.i64.max = 9223372036854775807 := by decide
  simp only [Lit.wf, Bool.and_eq_true, decide_eq_true_eq, h1, h2]
  exact hk)
theorem keyedI : Keyed Tryz.prog 3 := Maps.int_keyed Tryz.underlying3
abbrev zeroRow : List Int := List.replicate 128 0
theorem zeroRow_row : Row zeroRow := ⟨by simp, fun z hz => by obtain ⟨_, rfl⟩ := List.mem_replicate.1 hz; omega⟩
theorem zeroBlock (w : World) : (zeroValue 113).run Tryz.prog w = .ok (.agg (rowC zeroRow)) w := by
  have := Tryz.zeroValue113 w
  exact this
/-- m[k], with and without the second answer. -/
theorem MapAt.look {w : World} {b : Nat} {M : Chg} (h : MapAt w b M) (k : Int) (hk : i64 k) (c : Bool) :
    (Instr.lookup 78 (.map (some b)) (.int .i64 k) c).run Tryz.prog w = .ok (if c then .tuple #[.agg (rowC (getM k M zeroRow)), .bool (hasM k M)] else .agg (rowC (getM k M zeroRow))) w := by
  obtain ⟨es, clock, hb, F, hs, hD⟩ := h.own
  rcases Maps.fit_look c keyedI Tryz.underlying78 (zeroBlock w) hb F (keyI k hk) with ⟨hrun, hno, hat⟩ | ⟨e0, y, hm, hek, hrun, hRv, hat, _⟩
  · have h0 : hasM k M = false := by
      rw [← has_dat, hD]
      exact Maps.has_false_of_atKey hat
    rw [hrun, getM_none h0, h0]
  · have hA := hat (.held zeroRow)
    rw [← hD, at_dat] at hA
    obtain ⟨zs, hz, hv, rfl⟩ := rowR_inv hRv
    have hg : getM k M zeroRow = zs := by simpa using hA
    have h1 : hasM k M = true := by
      cases hh : hasM k M with
      | true => rfl
      | false =>
        have := hat (.held (1 :: zs))
        rw [← hD, at_dat, getM_none hh] at this
        simp at this
    rw [hrun, h1, hg, hv]
end Go.Proofs.YtopegpjkkicjhaaGreatDoor
