/- A map from numbers to rows of 128 bytes, as it lies in memory. -/
import Derived.Test.YtpofmiecjkghgaaGreatDoorGJpep
import Derived.Maps.OwnOps
import Derived.Maps.Views
import Derived.Lib.SlKeysI
import Derived.Maps.OwnSet
import Derived.Laws.Cover3
namespace Go.Proofs.YtpofmiecjkghgaaGreatDoor
open Go.RowKit Go.Extern.Stop Go.Stop Go.Extern Go.Maps
set_option maxRecDepth 100000
set_option maxHeartbeats 4000000
def Row (zs : List Int) : Prop := zs.length = 128 /\ ∀ z ∈ zs, 0 <= z /\ z <= 255
def rowC (zs : List Int) : Array Value := (zs.map (Value.int .u8)).toArray
theorem rowC_inj {a b : List Int} (h : rowC a = rowC b) : a = b := by
  have h2 : a.map (Value.int .u8) = b.map (Value.int .u8) := by simpa [rowC] using h
  exact (List.map_inj_right (fun x y e => by simpa using e)).1 h2
def byteOf : Value -> Option Int
  | .int .u8 z => if 0 <= z /\ z <= 255 then some z else none
  | _ => none
def listOf : List Value -> Option (List Int)
  | [] => some []
  | v :: r => (byteOf v).bind fun z => (listOf r).map fun zs => z :: zs
def rowR (v : Value) : Option (DataW (List Int) × List MemPlace) :=
  match v with
  | .agg cs => (listOf cs.toList).bind fun zs => if zs.length = 128 then some (.held zs, []) else none
  | _ => none
theorem byteOf_inv {v : Value} {z : Int} (h : byteOf v = some z) : v = .int .u8 z /\ 0 <= z /\ z <= 255 := by
  unfold byteOf at h
  split at h
  · split at h
    · rename_i hz
      obtain rfl := Option.some.inj h
      exact ⟨rfl, hz⟩
    · cases h
  · cases h
theorem listOf_inv : ∀ (vs : List Value) (zs : List Int), listOf vs = some zs -> vs = zs.map (Value.int .u8) /\ ∀ z ∈ zs, 0 <= z /\ z <= 255
  | [], zs, h => by
    obtain rfl := Option.some.inj h
    exact ⟨rfl, fun z hz => by cases hz⟩
  | v :: r, zs, h => by
    unfold listOf at h
    obtain ⟨z, hz, h2⟩ := Option.bind_eq_some_iff.1 h
    obtain ⟨ys, hy, rfl⟩ := Option.map_eq_some_iff.1 h2
    obtain ⟨rfl, hr⟩ := byteOf_inv hz
    obtain ⟨rfl, hall⟩ := listOf_inv r ys hy
    exact ⟨rfl, fun x hx => by
      rcases List.mem_cons.1 hx with rfl | hx
      · exact hr
      · exact hall x hx⟩
theorem listOf_mk : ∀ zs : List Int, (∀ z ∈ zs, 0 <= z /\ z <= 255) -> listOf (zs.map (Value.int .u8)) = some zs
  | [], _ => rfl
  | z :: r, h => by
    have h1 : byteOf (.int .u8 z) = some z := by show (if 0 <= z /\ z <= 255 then some z else none) = some z; rw [if_pos (h z (by simp))]
    rw [List.map_cons, listOf, h1, listOf_mk r (fun x hx => h x (by simp [hx]))]
    rfl
theorem rowR_mk {zs : List Int} (h : Row zs) : rowR (.agg (rowC zs)) = some (.held zs, []) := by
  have e : (rowC zs).toList = zs.map (Value.int .u8) := by simp [rowC]
  unfold rowR
  simp only [e, listOf_mk zs h.2, Option.bind_some, if_pos h.1]
theorem rowR_inv {v : Value} {z : DataW (List Int) × List MemPlace} (h : rowR v = some z) : ∃ zs, Row zs /\ v = .agg (rowC zs) /\ z = (.held zs, []) := by
  unfold rowR at h
  split at h
  · rename_i cs
    obtain ⟨zs, hz, h2⟩ := Option.bind_eq_some_iff.1 h
    split at h2
    · rename_i hl
      obtain ⟨e, hr⟩ := listOf_inv _ _ hz
      refine ⟨zs, ⟨hl, hr⟩, ?_, (Option.some.inj h2).symm⟩
      congr 1
      apply Array.ext'
      rw [e]
      simp [rowC]
    · cases h2
  · cases h
abbrev Chg : Type := List (Int × List Int)
def datM (M : Chg) : DataW (List Int) := .map (M.map fun p => (.int .i64 p.1, .held p.2))
def insM (x : Int × List Int) : Chg -> Chg
  | [] => [x]
  | y :: r => if x.1 < y.1 then x :: y :: r else y :: insM x r
def putM (k : Int) (zs : List Int) (M : Chg) : Chg := insM (k, zs) (M.filter fun p => !decide (p.1 = k))
def hasM (k : Int) (M : Chg) : Bool := M.any fun p => decide (p.1 = k)
def getM (k : Int) (M : Chg) (z : List Int) : List Int := match M.find? (fun p => decide (p.1 = k)) with | some p => p.2 | none => z
theorem ins_dat (x : Int × List Int) : ∀ M : Chg, DataW.insert (H := List Int) (.int .i64 x.1, .held x.2) (M.map fun p => (.int .i64 p.1, .held p.2)) = (insM x M).map fun p => (.int .i64 p.1, .held p.2)
  | [] => rfl
  | y :: r => by
    simp only [List.map_cons, DataW.insert, insM, Lit.before]
    by_cases h : x.1 < y.1
    · simp [h]
    · simp [h, ins_dat x r]
theorem put_dat (k : Int) (zs : List Int) (M : Chg) : (datM M).put (.int .i64 k) (.held zs) = datM (putM k zs M) := by
  have e : (M.map fun p => ((.int .i64 p.1, .held p.2) : Lit × DataW (List Int))).filter (fun p => !p.1.sameKey (.int .i64 k)) = (M.filter fun p => !decide (p.1 = k)).map fun p => (.int .i64 p.1, .held p.2) := by
    rw [List.filter_map]
    congr 1
    apply List.filter_congr
    intro p _
    simp [Lit.sameKey]
  unfold datM putM DataW.put
  simp only
  rw [e]
  exact congrArg _ (ins_dat (k, zs) _)
theorem at_dat (k : Int) (M : Chg) (z : List Int) : (datM M).atKey (.int .i64 k) (.held z) = .held (getM k M z) := by
  unfold datM DataW.atKey getM
  simp only [List.find?_map]
  have e : ((fun p : Lit × DataW (List Int) => p.1.sameKey (.int .i64 k)) ∘ fun p : Int × List Int => ((.int .i64 p.1, .held p.2) : Lit × DataW (List Int))) = fun p => decide (p.1 = k) := by
    funext p; simp [Lit.sameKey]
  rw [e]
  cases M.find? (fun p => decide (p.1 = k)) <;> rfl
theorem has_dat (k : Int) (M : Chg) : Maps.has (datM M) (.int .i64 k) = hasM k M := by
  unfold datM hasM
  rw [Maps.has_eq, List.any_map]
  congr 1
  funext p
  simp [Lit.sameKey]
theorem size_dat (M : Chg) : Maps.size (datM M) = M.length := by simp [datM, Maps.size_eq]
theorem keys_dat (M : Chg) : intKeys (datM M) = M.map (·.1) := by simp [datM, intKeys, Go.intOf]
structure Tidy (M : Chg) : Prop where
  up : M.Pairwise (fun p q => p.1 < q.1)
  rows : ∀ p ∈ M, Row p.2
theorem mem_ins (x y : Int × List Int) : ∀ M : Chg, y ∈ insM x M <-> y = x \/ y ∈ M
  | [] => by simp [insM]
  | z :: r => by
    unfold insM
    split
    · simp
    · rw [List.mem_cons, mem_ins x y r, List.mem_cons]
      exact ⟨fun h => by rcases h with h | h | h; exact Or.inr (Or.inl h); exact Or.inl h; exact Or.inr (Or.inr h), fun h => by rcases h with h | h | h; exact Or.inr (Or.inl h); exact Or.inl h; exact Or.inr (Or.inr h)⟩
theorem ins_up (x : Int × List Int) : ∀ M : Chg, M.Pairwise (fun p q => p.1 < q.1) -> (∀ p ∈ M, p.1 ≠ x.1) -> (insM x M).Pairwise (fun p q => p.1 < q.1)
  | [], _, _ => by simp [insM]
  | y :: r, h, hne => by
    obtain ⟨h1, h2⟩ := List.pairwise_cons.1 h
    unfold insM
    split
    · rename_i hb
      refine List.pairwise_cons.2 ⟨fun q hq => ?_, h⟩
      rcases List.mem_cons.1 hq with rfl | hq
      · exact hb
      · exact Int.lt_trans hb (h1 q hq)
    · rename_i hb
      have := hne y (by simp)
      refine List.pairwise_cons.2 ⟨fun q hq => ?_, ins_up x r h2 (fun p hp => hne p (by simp [hp]))⟩
      rcases (mem_ins x q r).1 hq with rfl | hq
      · omega
      · exact h1 q hq
theorem mem_put {k : Int} {zs : List Int} {M : Chg} {y : Int × List Int} : y ∈ putM k zs M <-> y = (k, zs) \/ y ∈ M /\ y.1 ≠ k := by
  unfold putM
  rw [mem_ins, List.mem_filter]
  simp
theorem Tidy.nil : Tidy [] := ⟨List.Pairwise.nil, fun p hp => by cases hp⟩
theorem Tidy.put {M : Chg} (h : Tidy M) (k : Int) (zs : List Int) (hz : Row zs) : Tidy (putM k zs M) :=
  ⟨ins_up _ _ (h.up.filter _) (fun p hp => by simpa using (List.mem_filter.1 hp).2), fun p hp => by
    rcases mem_put.1 hp with rfl | ⟨hp, -⟩
    · exact hz
    · exact h.rows p hp⟩
theorem ins_len (x : Int × List Int) : ∀ M : Chg, (insM x M).length = M.length + 1
  | [] => rfl
  | y :: r => by unfold insM; split <;> simp [ins_len x r]
theorem hasM_iff {k : Int} {M : Chg} : hasM k M = true <-> ∃ p ∈ M, p.1 = k := by simp [hasM]
theorem put_len_new {k : Int} {zs : List Int} {M : Chg} (h : hasM k M = false) : (putM k zs M).length = M.length + 1 := by
  unfold putM
  rw [ins_len, List.filter_eq_self.2]
  intro p hp
  simp only [Bool.not_eq_true', decide_eq_false_iff_not]
  intro e
  have := hasM_iff.2 ⟨p, hp, e⟩
  rw [h] at this; cases this
theorem filter_len_old {k : Int} : ∀ {M : Chg}, M.Pairwise (fun p q => p.1 < q.1) -> hasM k M = true -> (M.filter fun p => !decide (p.1 = k)).length + 1 = M.length
  | [], _, h => by simp [hasM] at h
  | y :: r, hp, h => by
    obtain ⟨h1, h2⟩ := List.pairwise_cons.1 hp
    by_cases e : y.1 = k
    · have hr : (r.filter fun p => !decide (p.1 = k)) = r := List.filter_eq_self.2 fun p hp => by
        have := h1 p hp
        simp only [Bool.not_eq_true', decide_eq_false_iff_not]
        omega
      simp [e, hr]
    · have hr : hasM k r = true := by
        obtain ⟨p, hp, e'⟩ := hasM_iff.1 h
        rcases List.mem_cons.1 hp with rfl | hp
        · exact absurd e' e
        · exact hasM_iff.2 ⟨p, hp, e'⟩
      have := filter_len_old h2 hr
      simp [e]
      omega
theorem put_len_old {k : Int} {zs : List Int} {M : Chg} (ht : Tidy M) (h : hasM k M = true) : (putM k zs M).length = M.length := by
  unfold putM
  rw [ins_len]
  exact filter_len_old ht.up h
theorem getM_none {k : Int} {M : Chg} {z : List Int} (h : hasM k M = false) : getM k M z = z := by
  unfold getM
  rw [List.find?_eq_none.2]
  intro p hp e
  have := hasM_iff.2 ⟨p, hp, by simpa using e⟩
  rw [h] at this; cases this
theorem getM_mem {k : Int} {M : Chg} {z : List Int} (h : hasM k M = true) : (k, getM k M z) ∈ M := by
  unfold getM
  cases hf : M.find? (fun p => decide (p.1 = k)) with
  | none =>
    obtain ⟨p, hp, e⟩ := hasM_iff.1 h
    have := List.find?_eq_none.1 hf p hp
    simp [e] at this
  | some p =>
    have h1 := List.mem_of_find?_eq_some hf
    have h2 := List.find?_some hf
    simp at h2
    subst h2
    exact h1
theorem getM_of_mem {M : Chg} (ht : Tidy M) {p : Int × List Int} (hp : p ∈ M) (z : List Int) : getM p.1 M z = p.2 := by
  have h := getM_mem (z := z) (hasM_iff.2 ⟨p, hp, rfl⟩)
  have key : ∀ M : Chg, M.Pairwise (fun p q => p.1 < q.1) -> ∀ a ∈ M, ∀ b ∈ M, a.1 = b.1 -> a = b := by
    intro M
    induction M with
    | nil => intro _ a ha; cases ha
    | cons y r ih =>
      intro hp a ha b hb e
      obtain ⟨h1, h2⟩ := List.pairwise_cons.1 hp
      rcases List.mem_cons.1 ha with rfl | ha'
      · rcases List.mem_cons.1 hb with rfl | hb'
        · rfl
        · have := h1 b hb'; omega
      · rcases List.mem_cons.1 hb with rfl | hb'
        · have := h1 a ha'; omega
        · exact ih h2 a ha' b hb' e
  exact congrArg Prod.snd (key M ht.up _ h _ hp rfl)
theorem hasM_put (k k' : Int) (zs : List Int) (M : Chg) : hasM k' (putM k zs M) = (decide (k' = k) || hasM k' M) := by
  rw [Bool.eq_iff_iff]
  rw [hasM_iff, Bool.or_eq_true, decide_eq_true_eq, hasM_iff]
  constructor
  · rintro ⟨p, hp, rfl⟩
    rcases mem_put.1 hp with rfl | ⟨hp, -⟩
    · exact Or.inl rfl
    · exact Or.inr ⟨p, hp, rfl⟩
  · rintro (rfl | ⟨p, hp, rfl⟩)
    · exact ⟨(k', zs), mem_put.2 (Or.inl rfl), rfl⟩
    · by_cases e : p.1 = k
      · exact ⟨(k, zs), mem_put.2 (Or.inl rfl), e.symm⟩
      · exact ⟨p, mem_put.2 (Or.inr ⟨hp, e⟩), rfl⟩
theorem getM_put_same {k : Int} {zs : List Int} {M : Chg} (ht : Tidy M) (hz : Row zs) (z : List Int) : getM k (putM k zs M) z = zs :=
  getM_of_mem (ht.put k zs hz) (p := (k, zs)) (mem_put.2 (Or.inl rfl)) z
theorem getM_put_other {k k' : Int} {zs : List Int} {M : Chg} (ht : Tidy M) (hz : Row zs) (hne : k' ≠ k) (z : List Int) : getM k' (putM k zs M) z = getM k' M z := by
  cases h : hasM k' M with
  | false =>
    rw [getM_none h, getM_none]
    rw [hasM_put, h]
    simp [hne]
  | true =>
    have h1 := getM_mem (z := z) h
    exact getM_of_mem (ht.put k zs hz) (p := (k', getM k' M z)) (mem_put.2 (Or.inr ⟨h1, hne⟩)) z
theorem keys_sorted {M : Chg} (h : M.Pairwise (fun p q => p.1 < q.1)) : ((M.map (·.1)).mergeSort leI) = M.map (·.1) := by
  apply List.mergeSort_of_pairwise
  refine List.pairwise_map.2 (h.imp ?_)
  intro a b hab
  simp only [leI, decide_eq_true_eq]
  omega
structure MapAt (w : World) (b : Nat) (M : Chg) : Prop where
  own : w.ownsMap Tryz.prog 3 rowR b M.length (datM M)
  tidy : Tidy M
theorem MapAt.lt {w : World} {b : Nat} {M : Chg} (h : MapAt w b M) : b < w.heap.size := h.own.lt
theorem MapAt.keep {w w' : World} {b : Nat} {M : Chg} {bs : List Nat} (h : MapAt w b M) (ha : Apart bs w w') (hn : b ∉ bs) : MapAt w' b M := by
  obtain ⟨es, clock, hb, F, hs, hD⟩ := h.own
  exact ⟨⟨es, clock, (ha.block b h.lt hn).trans hb, F, hs, hD⟩, h.tidy⟩
theorem MapAt.below {w w' : World} {b : Nat} {M : Chg} (h : MapAt w b M) (hb : Below w.heap.size w w') : MapAt w' b M := h.keep (Apart.of_below (bs := []) hb) (by simp)
theorem MapAt.tight {w : World} {b n : Nat} {M : Chg} (h : w.ownsMap Tryz.prog 3 rowR b n (datM M)) (ht : Tidy M) : MapAt w b M := by
  obtain ⟨es, clock, hb, F, hs, hD⟩ := h
  refine ⟨⟨es, clock, hb, F, ?_, hD⟩, ht⟩
  have := congrArg Maps.size hD
  rw [size_dat, Maps.size_eq, length_sorted] at this
  simp at this
  omega
theorem mapAt_new (w : World) : MapAt (w.alloc (.map #[] 0)) w.heap.size [] := ⟨World.ownsMap_made w _ _ _, Tidy.nil⟩
theorem keyI (k : Int) (hk : i64 k) : keyOf Tryz.prog 3 (.int .i64 k) = some (.int .i64 k) := Maps.keyOf_int_mk Tryz.underlying3 (by
  have h1 : IntKind.i64.min = -9223372036854775808 := by decide
  have h2 : IntKind.i64.max = 9223372036854775807 := by decide
  simp only [Lit.wf, Bool.and_eq_true, decide_eq_true_eq, h1, h2]
  exact hk)
theorem keyedI : Keyed Tryz.prog 3 := Maps.int_keyed Tryz.underlying3
abbrev zeroRow : List Int := List.replicate 128 0
theorem zeroRow_row : Row zeroRow := ⟨by simp, fun z hz => by obtain ⟨_, rfl⟩ := List.mem_replicate.1 hz; omega⟩
theorem zeroBlock (w : World) : (zeroValue 193).run Tryz.prog w = .ok (.agg (rowC zeroRow)) w := by
  have := Tryz.zeroValue193 w
  exact this
theorem MapAt.look {w : World} {b : Nat} {M : Chg} (h : MapAt w b M) (k : Int) (hk : i64 k) (c : Bool) :
    (Instr.lookup 211 (.map (some b)) (.int .i64 k) c).run Tryz.prog w = .ok (if c then .tuple #[.agg (rowC (getM k M zeroRow)), .bool (hasM k M)] else .agg (rowC (getM k M zeroRow))) w := by
  obtain ⟨es, clock, hb, F, hs, hD⟩ := h.own
  rcases Maps.fit_look c keyedI Tryz.underlying211 (zeroBlock w) hb F (keyI k hk) with ⟨hrun, hno, hat⟩ | ⟨e0, y, hm, hek, hrun, hRv, hat, _⟩
  · have h0 : hasM k M = false := by
      rw [<- has_dat, hD]
      exact Maps.has_false_of_atKey hat
    rw [hrun, getM_none h0, h0]
  · have hA := hat (.held zeroRow)
    rw [<- hD, at_dat] at hA
    obtain ⟨zs, hz, hv, rfl⟩ := rowR_inv hRv
    have hg : getM k M zeroRow = zs := by simpa using hA
    have h1 : hasM k M = true := by
      cases hh : hasM k M with
      | true => rfl
      | false =>
        have := hat (.held (1 :: zs))
        rw [<- hD, at_dat, getM_none hh] at this
        simp at this
    rw [hrun, h1, hg, hv]
end Go.Proofs.YtpofmiecjkghgaaGreatDoor
namespace Go.Proofs.YtpofmiecjkghgaaGreatDoor
open Go.RowKit Go.Extern.Stop Go.Stop Go.Extern
set_option maxRecDepth 100000
set_option maxHeartbeats 4000000
structure Lie (w : World) (b : Nat) (zs : List Int) : Prop where
  cell : ∀ k, k < 128 -> w.cell? ⟨b, k, none⟩ = some (.int .u8 (zs.getD k 0))
  free : ∀ k, k < 128 -> w.frozen? ⟨b, k, none⟩ = false
  row : Row zs
theorem Lie.lt {w : World} {b : Nat} {zs : List Int} (h : Lie w b zs) : b < w.heap.size := lt_of_cell (a := ⟨b, 0, none⟩) (h.cell 0 (by decide))
theorem Lie.bytes {w : World} {b : Nat} {zs : List Int} (h : Lie w b zs) : BytesAt w (.slice (some ⟨b, 0, none⟩) 128 128) zs :=
  ⟨_, 128, by rw [h.row.1], h.row.2, by rw [h.row.1]; decide, fun e => (by cases e), fun _ => ⟨b, 0, rfl, h.lt, fun k hk => by rw [Nat.zero_add]; exact h.cell k (by rw [h.row.1] at hk; exact hk)⟩⟩
theorem Lie.keep {w w' : World} {b : Nat} {zs : List Int} {bs : List Nat} (h : Lie w b zs) (ha : Apart bs w w') (hn : b ∉ bs) : Lie w' b zs :=
  ⟨fun k hk => (ha.cell (p := ⟨b, k, none⟩) h.lt hn).trans (h.cell k hk), fun k hk => (ha.frozen (p := ⟨b, k, none⟩) h.lt hn).trans (h.free k hk), h.row⟩
theorem Lie.below {w w' : World} {b : Nat} {zs : List Int} (h : Lie w b zs) (hb : Below w.heap.size w w') : Lie w' b zs := h.keep (Apart.of_below (bs := []) hb) (by simp)
theorem rowC_size {zs : List Int} (h : Row zs) : (rowC zs).size = 128 := by simp [rowC, h.1]
theorem rowC_get {zs : List Int} (h : Row zs) (k : Nat) (hk : k < 128) : (rowC zs)[k]? = some (.int .u8 (zs.getD k 0)) := by
  unfold rowC
  rw [List.getElem?_toArray, getD_map (by rw [h.1]; exact hk)]
theorem rowC_one (zs : List Int) : (rowC zs).all (·.oneCell') = true := by
  rw [Array.all_eq_true_iff_forall_mem]
  intro v hv
  obtain ⟨z, _, rfl⟩ := List.mem_map.1 (by simpa [rowC] using hv)
  rfl
theorem lie_of_row {w : World} {b : Nat} {zs : List Int} (hz : Row zs) (h : w.heap[b]? = some (.cells (rowC zs) 193 (0, 0))) : Lie w b zs :=
  ⟨fun k hk => by rw [cell_of_row _ _ _ _ _ _ h]; exact rowC_get hz k hk, fun k _ => frozen_of_row _ _ _ _ _ h, hz⟩
theorem Lie.load {w : World} {b : Nat} {zs : List Int} (h : Lie w b zs) : (loadVar 193 ⟨b, 0, none⟩).run Tryz.prog w = .ok (.agg (rowC zs)) w := by
  have hl := run_loadCells_list (P := Tryz.prog) w ⟨b, 0, none⟩ (zs.map (Value.int .u8)) (fun j v hv => by
    have hj : j < 128 := by
      rcases Nat.lt_or_ge j 128 with h | h'
      · exact h
      · rw [List.getElem?_eq_none (by simp [h.row.1]; omega)] at hv; cases hv
    rw [Go.WideShapes.add_plain, Nat.zero_add, h.cell j hj, <- getD_map (by rw [h.row.1]; exact hj)]
    exact hv)
  obtain ⟨i0, hi0, hz0, hz1, hz2⟩ := info_parts3 Tryz.infoBlock
  have hagg : (isAgg 193).run Tryz.prog w = .ok true w := by
    unfold isAgg
    rw [Sem.run_bind, run_underlying Tryz.underlying193 w]
    rfl
  have hlen : (zs.map (Value.int .u8)).length = 128 := by simp [h.row.1]
  rw [hlen] at hl
  simp [loadVar, Sem.run_bind, hagg, sizeOf, typeInfo, hi0, hz1, hl, rowC]
structure CAt (cb jb mb : Nat) (blocks : Int) (w : World) : Prop where
  c0 : w.cell? ⟨cb, 0, none⟩ = some (ptr jb)
  c1 : w.cell? ⟨cb, 1, none⟩ = some (.int .i64 blocks)
  c2 : w.cell? ⟨cb, 2, none⟩ = some (.map (some mb))
theorem CAt.lt {cb jb mb : Nat} {blocks : Int} {w : World} (h : CAt cb jb mb blocks w) : cb < w.heap.size := lt_of_cell (a := ⟨cb, 0, none⟩) h.c0
theorem CAt.keep {cb jb mb : Nat} {blocks : Int} {w w' : World} {bs : List Nat} (h : CAt cb jb mb blocks w) (ha : Apart bs w w') (hn : cb ∉ bs) : CAt cb jb mb blocks w' :=
  ⟨(ha.cell (p := ⟨cb, 0, none⟩) h.lt hn).trans h.c0, (ha.cell (p := ⟨cb, 1, none⟩) h.lt hn).trans h.c1, (ha.cell (p := ⟨cb, 2, none⟩) h.lt hn).trans h.c2⟩
theorem CAt.below {cb jb mb : Nat} {blocks : Int} {w w' : World} (h : CAt cb jb mb blocks w) (hb : Below w.heap.size w w') : CAt cb jb mb blocks w' := h.keep (Apart.of_below (bs := []) hb) (by simp)
theorem has_calls {cb jb mb : Nat} {blocks : Int} {w : World} (h : CAt cb jb mb blocks w) (no : Int) :
    Calls Tryz.prog 214 #[ptr cb, .int .i64 no] w fun e w' => e = .returned (.bool (decide (0 <= no /\ no < blocks))) /\ w' = w := by
  have h1 := h.c1
  clear h
  obtain ⟨B, hB⟩ : ∃ B, decide (0 <= no /\ no < blocks) = B := ⟨_, rfl⟩
  rw [hB]
  by_cases h0 : 0 <= no
  · by_cases hb : no < blocks
    · obtain rfl : B = true := by rw [<- hB]; exact decide_eq_true ⟨h0, hb⟩
      clear hB
      go_enter Tryz.func214, Tryz.ntmps214
      go_wp2
      go_ret
      exact ⟨rfl, rfl⟩
    · obtain rfl : B = false := by rw [<- hB]; exact decide_eq_false fun h => hb h.2
      clear hB
      go_enter Tryz.func214, Tryz.ntmps214
      go_wp2
      go_ret
      exact ⟨rfl, rfl⟩
  · obtain rfl : B = false := by rw [<- hB]; exact decide_eq_false fun h => h0 h.1
    clear hB
    go_enter Tryz.func214, Tryz.ntmps214
    go_wp2
    go_ret
    exact ⟨rfl, rfl⟩
abbrev sCache : ByteArray := ⟨#[99, 97, 99, 104, 101]⟩
theorem cwrong_nil (i : Int) (hi : i64 i) (w : World) (hG : Ground w) :
    Calls Tryz.prog 201 #[.int .i64 i, .nilIface] w fun e w' => e = .returned .nilIface /\ Below w.heap.size w w' := by
  have hI := hidden (Tryz.strconv_Itoa i hi.1 hi.2 w hG.p)
  clear hG
  go_enter Tryz.func201, Tryz.ntmps201
  go_wp2_with fail
  refine (hI.out).mono ?_
  rintro ev w1 ⟨rfl, d, os, rfl⟩
  have hB1 : Below w.heap.size w (Go.Sort.grow (w.drewN d) os) := Lib.below_grow _ w (Nat.le_refl _) d os
  generalize Go.Sort.grow (w.drewN d) os = w1 at hB1 ⊢
  go_wp2_with fail
  refine (wrap_nil _ _ w1).mono ?_
  rintro ev w2 ⟨rfl, rfl⟩
  go_wp2
  go_ret
  exact ⟨rfl, hB1⟩
theorem cwrong_some (i : Int) (hi : i64 i) (w : World) (hG : Ground w) (l : List (ByteArray × ByteArray)) (bot : Value) (u : TypeId) (v : Value) (hc : Chain w l bot (.iface u v)) :
    Calls Tryz.prog 201 #[.int .i64 i, .iface u v] w fun e w' => ∃ b, e = .returned (flt b) /\ Chain w' ((sCache, itoaB i) :: l) bot (flt b) /\ w.heap.size <= b /\ Below w.heap.size w w' := by
  have hI := hidden (Tryz.strconv_Itoa i hi.1 hi.2 w hG.p)
  replace hc := hidden hc
  clear hG
  go_enter Tryz.func201, Tryz.ntmps201
  go_wp2_with fail
  refine (hI.out).mono ?_
  rintro ev w1 ⟨rfl, d, os, rfl⟩
  have hB1 : Below w.heap.size w (Go.Sort.grow (w.drewN d) os) := Lib.below_grow _ w (Nat.le_refl _) d os
  generalize Go.Sort.grow (w.drewN d) os = w1 at hB1 ⊢
  go_wp2_with fail
  refine (wrap_some sCache (itoaB i) _ _ w1).mono ?_
  rintro ev w2 ⟨rfl, rfl⟩
  go_wp2
  go_ret
  exact ⟨_, rfl, Chain.alloc (w := w1) sCache (itoaB i) (Chain.below hB1 _ _ _ hc.out), hB1.size, hB1.alloc hB1.size _⟩
theorem wpList_lookup_eq {P : Program} {ops : Array Oper} {rest : List Oper} {o : Oper} {a : Act} {w : World} {Q : Exit -> Act -> World -> Prop} (hgd : o.guard = none) (t : TypeId) (m x : Operand) (c : Bool) (ho : o.op = .lookup t m x c)
    (mv key v : Value) (hm : a.eval m = mv) (hx : a.eval x = key) (hr : (Instr.lookup t mv key c).run P w = .ok v w) (h : wpList P ops Q rest (a.put o.dst v) w) : wpList P ops Q (o :: rest) a w := by
  refine wpList_plain hgd fun K' hK' => ?_
  unfold Oper.wp
  simp [execOp, ho, hm, hx, hr, Result.andThen]
  exact hK' _ _ h
theorem jread_row {w0 : World} {d g n : Nat} {mem : Nat -> Int} {writes left : Int} {w : World} (h : Sys w0 d g n mem writes left w) (hl : left ≠ 0) (jb at_ most : Nat) (hj : JAt jb d at_ most w) (i : Nat) (hi : i < n) :
    Calls Tryz.prog 264 #[ptr jb, .int .i64 i] w fun e w' => ∃ b, e = .returned (.tuple #[.slice (some ⟨b, 0, none⟩) 128 128, .nilIface]) /\ Lie w' b (blockL mem i) /\ w.heap.size <= b /\ Below w.heap.size w w' := by
  have j0 := hj.c0
  have hrg := h.disk.range
  have hR := hidden (sys_read h i hi hl)
  clear hj h
  go_enter Tryz.func264, Tryz.ntmps264
  go_wp2_with fail
  refine (hR.out).mono ?_
  rintro ev w1 ⟨b, rfl, hb, hnew, hfree, -, hB⟩
  have hLi : Lie w1 b (blockL mem i) := by
    obtain ⟨a, cap, hv, hr, -, -, hc⟩ := hb
    obtain ⟨b', off, ha, -, hcell⟩ := hc (by intro e; have := blockL_len mem i; rw [e] at this; simp at this)
    have he := (Value.slice.inj hv).1
    rw [ha] at he
    simp only [Option.some.injEq, Addr.mk.injEq] at he
    obtain ⟨rfl, rfl, -⟩ := he
    exact ⟨fun k hk => by have := hcell k (by rw [blockL_len]; exact hk); rw [Nat.zero_add] at this; exact this, hfree, blockL_len mem i, hr⟩
  have hE := hidden (And.intro hLi (And.intro hnew hB))
  clear hb hB hR hLi hnew hfree
  go_wp2_with fail
  refine (jwrong_nil _).mono ?_
  rintro ev w4 ⟨rfl, rfl⟩
  go_wp2
  go_ret2
  exact ⟨_, rfl, hE.out⟩
section
variable {w0 : World} {d g n : Nat} {mem : Nat -> Int} {writes left : Int} {w : World}
theorem now_hit {cb jb mb : Nat} {blocks : Int} {M : Chg} (hc : CAt cb jb mb blocks w) (hm : MapAt w mb M) (no : Int) (hi : i64 no) (hh : hasM no M = true) :
    Calls Tryz.prog 216 #[ptr cb, .int .i64 no] w fun e w' => ∃ b, e = .returned (.tuple #[.slice (some ⟨b, 0, none⟩) 128 128, .nilIface]) /\ Lie w' b (getM no M zeroRow) /\ w.heap.size <= b /\ Below w.heap.size w w' := by
  have h2 := hc.c2
  have hlk := hm.look no hi true
  rw [hh] at hlk
  simp only [if_true] at hlk
  have hz : Row (getM no M zeroRow) := hm.tidy.rows _ (getM_mem hh)
  generalize getM no M zeroRow = zs at hlk hz
  have hrow := hidden (fun (w' : World) (b : Nat) => lie_of_row (w := w') (b := b) hz)
  have hcs : Hid ((rowC zs).size = 128) := hidden (rowC_size hz)
  have hall := hidden (rowC_one zs)
  generalize rowC zs = cs at hlk hrow hcs hall
  replace hlk := hidden hlk
  clear hc hm hz hh
  go_enter Tryz.func216, Tryz.ntmps216
  have hnew : (w.alloc (.cells (Array.replicate 128 (.int .u8 0)) 193)).heap[w.heap.size]? = some (.cells (Array.replicate 128 (.int .u8 0)) 193 (0, 0)) := heap_alloc_new _ _
  replace hnew := hidden hnew
  go_wp2_with (first
    | (at_lookup; refine wpList_lookup_eq rfl 211 _ _ true rfl _ _ _ rfl rfl hlk.out ?_)
    | (refine wpList_store_row rfl 193 _ _ rfl w.heap.size cs rfl rfl 193 _ hnew.out (by rw [hcs.out]; exact Tryz.sizeBlock) (by rw [hcs.out]; simp) hall.out ?_))
  go_ret2
  have hh : ((w.alloc (.cells Tryz.zeroCells193 193)).setRow w.heap.size cs).heap[w.heap.size]? = some (.cells cs 193 (0, 0)) := setRow_heap _ _ _ _ _ _ (heap_alloc_new _ _)
  exact ⟨_, rfl, hrow.out _ _ hh, Nat.le_refl _, below_setRow ((Below.refl _ _).alloc (Nat.le_refl _) _) (Nat.le_refl _) cs⟩
theorem now_miss (h : Sys w0 d g n mem writes left w) (hl : left ≠ 0) {cb jb mb at_ most : Nat} {blocks : Int} {M : Chg} (hj : JAt jb d at_ most w) (hc : CAt cb jb mb blocks w) (hm : MapAt w mb M) (no : Nat) (hno : no < n) (hh : hasM no M = false) :
    Calls Tryz.prog 216 #[ptr cb, .int .i64 no] w fun e w' => ∃ b, e = .returned (.tuple #[.slice (some ⟨b, 0, none⟩) 128 128, .nilIface]) /\ Lie w' b (blockL mem no) /\ w.heap.size <= b /\ Below w.heap.size w w' := by
  have hfew := h.disk.few
  have h2 := hc.c2
  have hlk := hm.look no ⟨by omega, by omega⟩ true
  rw [hh, getM_none hh] at hlk
  simp only [if_true] at hlk
  have hcs : Hid ((rowC zeroRow).size = 128) := hidden (rowC_size zeroRow_row)
  have hall := hidden (rowC_one zeroRow)
  generalize rowC zeroRow = cs at hlk hcs hall
  replace hlk := hidden hlk
  have hBa : Below w.heap.size w ((w.alloc (.cells Tryz.zeroCells193 193)).setRow w.heap.size cs) := below_setRow ((Below.refl _ _).alloc (Nat.le_refl _) _) (Nat.le_refl _) cs
  have hR := hidden (jread_row (h.more hBa) hl jb at_ most (hj.below hBa) no hno)
  have c0 := (hc.below hBa).c0
  replace hBa := hidden hBa
  clear hc hm hh h hj
  go_enter Tryz.func216, Tryz.ntmps216
  have hnew : (w.alloc (.cells (Array.replicate 128 (.int .u8 0)) 193)).heap[w.heap.size]? = some (.cells (Array.replicate 128 (.int .u8 0)) 193 (0, 0)) := heap_alloc_new _ _
  replace hnew := hidden hnew
  go_wp2_with (first
    | (at_lookup; refine wpList_lookup_eq rfl 211 _ _ true rfl _ _ _ rfl rfl hlk.out ?_)
    | (refine wpList_store_row rfl 193 _ _ rfl w.heap.size cs rfl rfl 193 _ hnew.out (by rw [hcs.out]; exact Tryz.sizeBlock) (by rw [hcs.out]; simp) hall.out ?_; generalize (w.alloc (.cells Tryz.zeroCells193 193)).setRow w.heap.size cs = w1 at hR hBa c0 ⊢))
  refine (hR.out).mono ?_
  rintro ev w2 ⟨b, rfl, hLi, hnb, hB2⟩
  have hE := hidden (And.intro hLi (And.intro (Nat.le_trans hBa.out.size hnb) (hBa.out.trans (hB2.mono hBa.out.size))))
  clear hLi hnb hB2 hR
  go_wp2
  go_ret2
  exact ⟨b, rfl, hE.out⟩
theorem ctakes_calls {cb jb mb at_ most : Nat} {blocks : Int} {M : Chg} (hj : JAt jb d at_ most w) (hc : CAt cb jb mb blocks w) (hm : MapAt w mb M) (no : Int) (hi : i64 no) :
    Calls Tryz.prog 215 #[ptr cb, .int .i64 no] w fun e w' => e = .returned (.bool (hasM no M || decide (M.length < most))) /\ Below w.heap.size w w' := by
  have h2 := hc.c2
  have hlk := hm.look no hi true
  simp only [if_true] at hlk
  have hmax : M.length <= 9223372036854775807 := by
    obtain ⟨es, clock, -, F, -, hD⟩ := hm.own
    have h1 := congrArg Maps.size hD
    rw [size_dat, Maps.size_eq, length_sorted] at h1
    have h2 := F.size
    simp at h1
    unfold maxLen at h2
    omega
  have hz : Row (getM no M zeroRow) := by
    cases hh : hasM no M with
    | true => exact hm.tidy.rows _ (getM_mem hh)
    | false => rw [getM_none hh]; exact zeroRow_row
  generalize getM no M zeroRow = zs at hlk hz
  have hcs : Hid ((rowC zs).size = 128) := hidden (rowC_size hz)
  have hall := hidden (rowC_one zs)
  generalize rowC zs = cs at hlk hcs hall
  replace hlk := hidden hlk
  obtain ⟨B, hB⟩ : ∃ B, (hasM no M || decide (M.length < most)) = B := ⟨_, rfl⟩
  rw [hB]
  generalize hasM no M = H at hB hlk
  replace hB := hidden hB
  have hBa : Below w.heap.size w ((w.alloc (.cells Tryz.zeroCells193 193)).setRow w.heap.size cs) := below_setRow ((Below.refl _ _).alloc (Nat.le_refl _) _) (Nat.le_refl _) cs
  have c0 := (hc.below hBa).c0
  have c2 := (hc.below hBa).c2
  have hJ := hidden (hj.below hBa)
  have hMp := hidden (hm.below hBa)
  replace hBa := hidden hBa
  clear hc hm hj hz
  go_enter Tryz.func215, Tryz.ntmps215
  have hnew : (w.alloc (.cells (Array.replicate 128 (.int .u8 0)) 193)).heap[w.heap.size]? = some (.cells (Array.replicate 128 (.int .u8 0)) 193 (0, 0)) := heap_alloc_new _ _
  replace hnew := hidden hnew
  go_wp2_with (first
    | (at_lookup; refine wpList_lookup_eq rfl 211 _ _ true rfl _ _ _ rfl rfl hlk.out ?_)
    | (refine wpList_store_row rfl 193 _ _ rfl w.heap.size cs rfl rfl 193 _ hnew.out (by rw [hcs.out]; exact Tryz.sizeBlock) (by rw [hcs.out]; simp) hall.out ?_; generalize (w.alloc (.cells Tryz.zeroCells193 193)).setRow w.heap.size cs = w1 at hJ hMp hBa c0 c2 ⊢))
  clear hlk hnew h2
  have hlen : ∀ k ty, (Builtin.len_ #[211] ty #[.map (some mb)]).run Tryz.prog (w1.drewN k) = .ok (.int .i64 M.length) (w1.drewN k) := fun k ty => by
    have := (hMp.out.below (below_drewN (Below.refl _ _) k)).own.len Tryz.underlying211 ty
    rw [size_dat] at this
    exact this
  clear hMp
  generalize M.length = L at hB hlen hmax
  cases H with
  | true =>
    go_quiet (fail)
    go_wp2
    go_ret
    exact ⟨by rw [<- hB.out]; rfl, below_drewN hBa.out nq⟩
  | false =>
    by_cases hlt : L < most
    · obtain rfl : B = true := by rw [<- hB.out]; simpa using hlt
      have hlt' : (L : Int) < (most : Int) := by omega
      clear hB hlt
      go_quiet (first
        | (go_at_call 263; exact Calls.quiet_of_same (most_calls jb at_ most (hJ.out.below (below_drewN (Below.refl _ _) _)))))
      go_wp2
      go_ret
      exact ⟨rfl, below_drewN hBa.out nq⟩
    · obtain rfl : B = false := by rw [<- hB.out]; simpa using hlt
      have hlt' : ¬ (L : Int) < (most : Int) := by omega
      clear hB hlt
      go_quiet (first
        | (go_at_call 263; exact Calls.quiet_of_same (most_calls jb at_ most (hJ.out.below (below_drewN (Below.refl _ _) _)))))
      go_wp2
      go_ret
      exact ⟨rfl, below_drewN hBa.out nq⟩
end
structure CSt (w0 : World) (d g n jb cb mb at_ most : Nat) (blocks : Int) (mem : Nat -> Int) (writes left : Int) (M : Chg) (w : World) : Prop where
  sys : Sys w0 d g n mem writes left w
  jat : JAt jb d at_ most w
  cat : CAt cb jb mb blocks w
  map : MapAt w mb M
  jd : jb ≠ d /\ jb ≠ g
  cd : cb ≠ d /\ cb ≠ g
  md : mb ≠ d /\ mb ≠ g
  mj : jb ≠ mb /\ cb ≠ mb
  new : w0.heap.size <= mb
section
variable {w0 : World} {d g n jb cb mb at_ most : Nat} {blocks : Int} {mem : Nat -> Int} {writes left : Int} {M : Chg} {w w' : World}
theorem CSt.more (h : CSt w0 d g n jb cb mb at_ most blocks mem writes left M w) (hb : Below w.heap.size w w') : CSt w0 d g n jb cb mb at_ most blocks mem writes left M w' :=
  ⟨h.sys.more hb, h.jat.below hb, h.cat.below hb, h.map.below hb, h.jd, h.cd, h.md, h.mj, h.new⟩
theorem CSt.turn (h : CSt w0 d g n jb cb mb at_ most blocks mem writes left M w) {M' : Chg} (ha : Apart [mb] w w') (hm : MapAt w' mb M') : CSt w0 d g n jb cb mb at_ most blocks mem writes left M' w' :=
  ⟨⟨h.sys.base, h.sys.disk.apart_of ha (by simpa using h.md.1.symm) (by simpa using h.md.2.symm), h.sys.below.trans (ha.below (by simpa using h.new) h.sys.below.size), h.sys.hd, h.sys.hg⟩, h.jat.keep ha (by simpa using h.mj.1), h.cat.keep ha (by simpa using h.mj.2), hm, h.jd, h.cd, h.md, h.mj, h.new⟩
def nowM (mem : Nat -> Int) (M : Chg) (no : Nat) : List Int := getM no M (blockL mem no)
theorem getM_any {k : Int} {M : Chg} (h : hasM k M = true) (y z : List Int) : getM k M y = getM k M z := by
  unfold getM
  cases hf : M.find? (fun p => decide (p.1 = k)) with
  | some p => rfl
  | none =>
    obtain ⟨p, hp, e⟩ := hasM_iff.1 h
    have := List.find?_eq_none.1 hf p hp
    simp [e] at this
theorem now_calls (h : CSt w0 d g n jb cb mb at_ most blocks mem writes left M w) (hl : left ≠ 0) (no : Nat) (hno : no < n) :
    Calls Tryz.prog 216 #[ptr cb, .int .i64 no] w fun e w' => ∃ b, e = .returned (.tuple #[.slice (some ⟨b, 0, none⟩) 128 128, .nilIface]) /\ Lie w' b (nowM mem M no) /\ w.heap.size <= b /\ Below w.heap.size w w' := by
  have hfew := h.sys.disk.few
  unfold nowM
  cases hh : hasM no M with
  | true =>
    rw [getM_any hh _ zeroRow]
    exact now_hit h.cat h.map no ⟨by omega, by omega⟩ hh
  | false =>
    rw [getM_none hh]
    exact now_miss h.sys hl h.jat h.cat h.map no hno hh
theorem read_calls (h : CSt w0 d g n jb cb mb at_ most blocks mem writes left M w) (hl : left ≠ 0) (no : Nat) (hno : no < n) (hnb : (no : Int) < blocks) :
    Calls Tryz.prog 187 #[ptr cb, .int .i64 no] w fun e w' => ∃ b, e = .returned (.tuple #[.slice (some ⟨b, 0, none⟩) 128 128, .nilIface]) /\ Lie w' b (nowM mem M no) /\ w.heap.size <= b /\ Below w.heap.size w w' := by
  have hfew := h.sys.disk.few
  have hH := has_calls h.cat no
  rw [decide_eq_true (show 0 <= (no : Int) /\ (no : Int) < blocks from ⟨by omega, hnb⟩)] at hH
  replace hH := hidden hH
  have hN := hidden (now_calls h hl no hno)
  have hG := h.sys.ground
  have hi : i64 no := ⟨by omega, by omega⟩
  replace hG := hidden hG
  replace hi := hidden hi
  clear h
  go_enter Tryz.func187, Tryz.ntmps187
  go_wp2_with fail
  refine (hH.out).mono ?_
  rintro ev w1 ⟨rfl, rfl⟩
  go_wp2_with fail
  refine (hN.out).mono ?_
  rintro ev w2 ⟨b, rfl, hL, hb, hB⟩
  have hC := hidden (cwrong_nil no hi.out w2 (hG.out.below hB))
  replace hL := hidden hL
  replace hB := hidden hB
  clear hN hH
  go_wp2_with fail
  refine (hC.out).mono ?_
  rintro ev w3 ⟨rfl, hB3⟩
  have hE := hidden (And.intro (hL.out.below hB3) (And.intro hb (hB.out.trans (hB3.mono hB.out.size))))
  clear hC hB3 hL hB
  go_wp2
  go_ret2
  exact ⟨b, rfl, hE.out⟩
theorem cread_bad (h : CSt w0 d g n jb cb mb at_ most blocks mem writes left M w) (no : Int) (hi : i64 no) (hno : ¬ (0 <= no /\ no < blocks)) :
    Calls Tryz.prog 187 #[ptr cb, .int .i64 no] w fun e w' => ∃ b, e = .returned (.tuple #[.slice none 0 0, flt b]) /\ Chain w' [(sCache, itoaB no)] (num 1) (flt b) /\ w.heap.size <= b /\ Below w.heap.size w w' := by
  have hH := has_calls h.cat no
  rw [decide_eq_false hno] at hH
  replace hH := hidden hH
  have hC := hidden (cwrong_some no hi w h.sys.ground [] (num 1) _ _ rfl)
  clear h
  replace hno := hidden hno
  go_enter Tryz.func187, Tryz.ntmps187
  go_wp2_with fail
  refine (hH.out).mono ?_
  rintro ev w1 ⟨rfl, rfl⟩
  go_wp2_with fail
  refine (hC.out).mono ?_
  rintro ev w2 ⟨b, rfl, hE⟩
  replace hE := hidden hE
  go_wp2
  go_ret2
  exact ⟨b, rfl, hE.out⟩
def layL (old : List Int) (at_ : Nat) (zs : List Int) : List Int := old.take at_ ++ zs ++ old.drop (at_ + zs.length)
theorem layL_row {old zs : List Int} {at_ : Nat} (ho : Row old) (hz : ∀ z ∈ zs, 0 <= z /\ z <= 255) (ha : at_ + zs.length <= 128) : Row (layL old at_ zs) := by
  refine ⟨by simp [layL, ho.1]; omega, fun z h => ?_⟩
  unfold layL at h
  rcases List.mem_append.1 h with h | h
  · rcases List.mem_append.1 h with h | h
    · exact ho.2 z (List.mem_of_mem_take h)
    · exact hz z h
  · exact ho.2 z (List.mem_of_mem_drop h)
theorem layL_get {old zs : List Int} {at_ : Nat} (ho : Row old) (ha : at_ + zs.length <= 128) (k : Nat) : (layL old at_ zs).getD k 0 = if at_ <= k /\ k < at_ + zs.length then zs.getD (k - at_) 0 else old.getD k 0 := by
  have hl : (old.take at_).length = at_ := by simp [ho.1]; omega
  unfold layL
  simp only [List.getD_eq_getElem?_getD]
  by_cases h1 : k < at_
  · rw [if_neg (by omega), List.append_assoc, List.getElem?_append_left (by omega), List.getElem?_take, if_pos h1]
  · by_cases h2 : k < at_ + zs.length
    · rw [if_pos ⟨by omega, h2⟩, List.append_assoc, List.getElem?_append_right (by omega), hl, List.getElem?_append_left (by omega)]
    · rw [if_neg (by omega), List.getElem?_append_right (by simp [hl]; omega), List.getElem?_drop]
      congr 2
      simp [hl]
      omega
theorem Lie.laid {b : Nat} {old : List Int} (h : Lie w b old) (at_ : Nat) (zs : List Int) (hz : ∀ z ∈ zs, 0 <= z /\ z <= 255) (ha : at_ + zs.length <= 128) : Lie (w.setCells b at_ (zs.map (Value.int .u8))) b (layL old at_ zs) := by
  refine ⟨fun k hk => ?_, fun k hk => by rw [World.frozen?_setCells]; exact h.free k hk, layL_row h.row hz ha⟩
  rw [layL_get h.row ha k]
  by_cases h1 : at_ <= k /\ k < at_ + zs.length
  · rw [if_pos h1]
    have := World.cell?_setCells_in b (zs.map (Value.int .u8)) at_ w (fun j hj => by rw [h.cell (at_ + j) (by simp at hj; omega)]; rfl) (k - at_) (by simp; omega)
    rw [show at_ + (k - at_) = k by omega] at this
    rw [this]
    simp [List.getD, show k - at_ < zs.length by omega]
  · rw [if_neg h1, World.cell?_setCells_out b _ _ w ⟨b, k, none⟩ (fun _ _ => by show k < _ \/ _ <= k; simp; omega)]
    exact h.cell k hk
theorem copy_row {b : Nat} {old : List Int} (h : Lie w b old) (at_ : Nat) (v : Value) (zs : List Int) (hv : BytesAt w v zs) (ha : at_ + zs.length <= 128) (ty : TypeId) :
    ∃ r, ∀ p : Option Addr, (at_ = 128 \/ p = some ⟨b, at_, none⟩) -> (Builtin.copy_ #[38, 38] ty #[.slice p (128 - at_) (128 - at_), v]).run Tryz.prog w = .ok r (w.setCells b at_ (zs.map (Value.int .u8))) := by
  obtain ⟨a, vcap, rfl, hr, hm, hn, hc⟩ := hv
  by_cases hz : zs = []
  · subst hz
    exact ⟨_, fun p _ => run_copy_none (P := Tryz.prog) w 38 38 ty 5 p a (128 - at_) (128 - at_) 0 vcap Tryz.underlying38 Tryz.sizeByte (by simp)⟩
  · have hl : 0 < zs.length := List.length_pos_iff.2 hz
    obtain ⟨b', off, rfl, hb, hcell⟩ := hc hz
    have key := run_copy_cells (P := Tryz.prog) w 38 38 ty 5 b at_ (128 - at_) (128 - at_) ⟨b', off, none⟩ zs.length vcap (zs.map (Value.int .u8)) Tryz.underlying38 Tryz.sizeByte (by simp [Nat.min_def]; omega) (fun j u hu => by
      have hj : j < zs.length := by
        rcases Nat.lt_or_ge j zs.length with h | h
        · exact h
        · rw [List.getElem?_eq_none (by simpa using h)] at hu; cases hu
      rw [getD_map hj] at hu
      rw [Go.WideShapes.add_plain, hcell j hj]
      exact hu) (fun j hj => by rw [h.cell (at_ + j) (by simp at hj; omega)]; rfl) (fun j hj => h.free _ (by simp at hj; omega)) (by intro u hu; obtain ⟨z, _, rfl⟩ := List.mem_map.1 hu; rfl)
    exact ⟨_, fun p hp => by rw [hp.resolve_left (by omega)]; exact key⟩
theorem cwrite_bad (h : CSt w0 d g n jb cb mb at_ most blocks mem writes left M w) (no at1 : Int) (hi : i64 no) (h1 : i64 at1) (v : Value) (zs : List Int) (hv : BytesAt w v zs) (hno : ¬ (0 <= no /\ no < blocks /\ 0 <= at1 /\ at1 + zs.length <= 128)) :
    Calls Tryz.prog 170 #[ptr cb, .int .i64 no, .int .i64 at1, v] w fun e w' => ∃ b, e = .returned (flt b) /\ Chain w' [(sCache, itoaB no)] (num 1) (flt b) /\ w.heap.size <= b /\ Below w.heap.size w w' := by
  have hH := has_calls h.cat no
  have hC := hidden (cwrong_some no hi w h.sys.ground [] (num 1) _ _ rfl)
  obtain ⟨a, vcap, rfl, -, hm, -, -⟩ := hv
  have hm' : (zs.length : Int) <= 9223372036854775807 := by unfold maxLen at hm; omega
  generalize zs.length = L at hno hm'
  clear h
  by_cases hin : 0 <= no /\ no < blocks
  · rw [decide_eq_true hin] at hH
    replace hH := hidden hH
    by_cases hneg : at1 < 0
    · replace hno := hidden hno
      go_enter Tryz.func170, Tryz.ntmps170
      go_wp2_with fail
      refine (hH.out).mono ?_
      rintro ev w1 ⟨rfl, rfl⟩
      go_wp2_with fail
      refine (hC.out).mono ?_
      rintro ev w2 ⟨b, rfl, hE⟩
      replace hE := hidden hE
      go_wp2
      go_ret
      exact ⟨b, rfl, hE.out⟩
    · have hbig : (128 : Int) - (L : Int) < at1 := by omega
      replace hno := hidden hno
      go_enter Tryz.func170, Tryz.ntmps170
      go_wp2_with fail
      refine (hH.out).mono ?_
      rintro ev w1 ⟨rfl, rfl⟩
      go_wp2_with fail
      refine (hC.out).mono ?_
      rintro ev w2 ⟨b, rfl, hE⟩
      replace hE := hidden hE
      go_wp2
      go_ret
      exact ⟨b, rfl, hE.out⟩
  · rw [decide_eq_false hin] at hH
    replace hH := hidden hH
    replace hno := hidden hno
    go_enter Tryz.func170, Tryz.ntmps170
    go_wp2_with fail
    refine (hH.out).mono ?_
    rintro ev w1 ⟨rfl, rfl⟩
    go_wp2_with fail
    refine (hC.out).mono ?_
    rintro ev w2 ⟨b, rfl, hE⟩
    replace hE := hidden hE
    go_wp2
    go_ret
    exact ⟨b, rfl, hE.out⟩
theorem cwrite_big (h : CSt w0 d g n jb cb mb at_ most blocks mem writes left M w) (no : Int) (at1 : Nat) (hi : i64 no) (v : Value) (zs : List Int) (hv : BytesAt w v zs) (hno : 0 <= no /\ no < blocks) (hat : at1 + zs.length <= 128) (hh : hasM no M = false) (hbig : most <= M.length) :
    Calls Tryz.prog 170 #[ptr cb, .int .i64 no, .int .i64 at1, v] w fun e w' => ∃ b, e = .returned (flt b) /\ Chain w' [(sCache, itoaB no)] (num 5) (flt b) /\ w.heap.size <= b /\ Below w.heap.size w w' := by
  have hH := has_calls h.cat no
  rw [decide_eq_true hno] at hH
  replace hH := hidden hH
  have hT := ctakes_calls h.jat h.cat h.map no hi
  rw [hh, decide_eq_false (by omega)] at hT
  replace hT := hidden hT
  have hG := hidden h.sys.ground
  have hC := hidden (fun w2 (hB : Below w.heap.size w w2) => cwrong_some no hi w2 (hG.out.below hB) [] (num 5) _ _ rfl)
  obtain ⟨a, vcap, rfl, -, hm, -, -⟩ := hv
  generalize zs.length = L at hat
  clear h hbig hm
  have hat' : ¬ (128 : Int) - (L : Int) < (at1 : Int) := by omega
  have hL : L <= 128 := by omega
  go_enter Tryz.func170, Tryz.ntmps170
  go_wp2_with fail
  refine (hH.out).mono ?_
  rintro ev w1 ⟨rfl, rfl⟩
  go_wp2_with fail
  refine (hT.out).mono ?_
  rintro ev w2 ⟨rfl, hB⟩
  replace hB := hidden hB
  go_wp2_with fail
  refine (hC.out w2 hB.out).mono ?_
  rintro ev w3 ⟨b, rfl, hc, hb, hB3⟩
  have hE := hidden (And.intro hc (And.intro (Nat.le_trans hB.out.size hb) (hB.out.trans (hB3.mono hB.out.size))))
  clear hc hb hB3
  go_wp2
  go_ret
  exact ⟨b, rfl, hE.out⟩
end
section
variable {w0 : World} {d g n jb cb mb at_ most : Nat} {blocks : Int} {mem : Nat -> Int} {writes left : Int} {M : Chg} {w w' : World}
theorem MapAt.store {b : Nat} {M : Chg} (h : MapAt w b M) (k : Int) (hk : i64 k) (zs : List Int) (hz : Row zs) (hl : M.length <= 1000000) :
    ∃ w', (Instr.mapUpdate 211 (.map (some b)) (.int .i64 k) (.agg (rowC zs))).run Tryz.prog w = .ok () w' /\ MapAt w' b (putM k zs M) /\ Apart [b] w w' := by
  obtain ⟨w', hrun, hown, hg⟩ := h.own.update keyedI Tryz.underlying211 (by unfold maxLen; omega) (keyI k hk) (rowR_mk hz)
  rw [put_dat] at hown
  exact ⟨w', hrun, MapAt.tight hown (h.tidy.put k zs hz), hg.os, hg.tape, hg.output, hg.size, fun i hi hn => hg.block i hi (by intro e; exact hn (by simp [Option.some.inj e.symm]))⟩
theorem below_drew1 (w : World) : Below w.heap.size w w.drew := ⟨rfl, rfl, rfl, Nat.le_refl _, fun _ _ => rfl⟩
theorem any_load {P : Program} {ops : Array Oper} {o : Oper} {a : Act} {w : World} {K : Act -> World -> Prop} {Q : Exit -> Act -> World -> Prop} {ty : TypeId} {x : Operand} (hg : Region.wanted o (yielded ops a.tmps) = true) (ho : o.op = .load ty x)
    (p : Addr) (hx : a.eval x = .pointer (some p)) (v : Value) (hl : (loadVar ty p).run P w = .ok v w) (h : K (a.put o.dst v) w) : if Region.wanted o (yielded ops a.tmps) = true then Oper.wp P o a w K Q else K (a.put o.dst undef) w := by
  rw [if_pos hg]
  unfold Oper.wp execOp
  simp only [ho, hx, Instr.loadAt, Instr.sureAddr, Sem.run_bind, Sem.run_pure, Result.andThen_ok, hl]
  exact h
theorem any_update {P : Program} {ops : Array Oper} {o : Oper} {a : Act} {w w' : World} {K : Act -> World -> Prop} {Q : Exit -> Act -> World -> Prop} {t : TypeId} {m x y : Operand} (hg : Region.wanted o (yielded ops a.tmps) = true) (ho : o.op = .mapUpdate t m x y)
    (mv key val : Value) (hm : a.eval m = mv) (hx : a.eval x = key) (hy : a.eval y = val) (hr : (Instr.mapUpdate t mv key val).run P w = .ok () w') (h : K (a.put o.dst undef) w') : if Region.wanted o (yielded ops a.tmps) = true then Oper.wp P o a w K Q else K (a.put o.dst undef) w := by
  rw [if_pos hg]
  unfold Oper.wp
  simp [execOp, ho, hm, hx, hy, hr, Result.andThen]
  exact h
theorem CSt.turnB (h : CSt w0 d g n jb cb mb at_ most blocks mem writes left M w) {b : Nat} (ha : Apart [b] w w') (hb : d ≠ b /\ g ≠ b /\ jb ≠ b /\ cb ≠ b /\ mb ≠ b /\ w0.heap.size <= b) : CSt w0 d g n jb cb mb at_ most blocks mem writes left M w' :=
  ⟨⟨h.sys.base, h.sys.disk.apart_of ha (by simpa using hb.1) (by simpa using hb.2.1), h.sys.below.trans (ha.below (by simpa using hb.2.2.2.2.2) h.sys.below.size), h.sys.hd, h.sys.hg⟩, h.jat.keep ha (by simpa using hb.2.2.1), h.cat.keep ha (by simpa using hb.2.2.2.1), h.map.keep ha (by simpa using hb.2.2.2.2.1), h.jd, h.cd, h.md, h.mj, h.new⟩
theorem CSt.lts (h : CSt w0 d g n jb cb mb at_ most blocks mem writes left M w) : d < w.heap.size /\ g < w.heap.size /\ jb < w.heap.size /\ cb < w.heap.size /\ mb < w.heap.size /\ w0.heap.size <= w.heap.size :=
  ⟨h.sys.disk.lt.1, h.sys.disk.lt.2, h.jat.lt, h.cat.lt, h.map.lt, h.sys.below.size⟩
theorem cwrite_calls (h : CSt w0 d g n jb cb mb at_ most blocks mem writes left M w) (hl : left ≠ 0) (no at1 : Nat) (hno : no < n) (hnb : (no : Int) < blocks) (v : Value) (zs : List Int) (hv : BytesAt w v zs) (hat : at1 + zs.length <= 128) (hh : (hasM no M || decide (M.length < most)) = true) (hM : M.length <= 100000) :
    Calls Tryz.prog 170 #[ptr cb, .int .i64 no, .int .i64 at1, v] w fun e w' => e = .returned .nilIface /\ CSt w0 d g n jb cb mb at_ most blocks mem writes left (putM no (layL (nowM mem M no) at1 zs) M) w' /\ Apart [mb] w w' := by
  have hfew := h.sys.disk.few
  have hi : i64 no := ⟨by omega, by omega⟩
  have hH := has_calls h.cat no
  rw [decide_eq_true (show 0 <= (no : Int) /\ (no : Int) < blocks from ⟨by omega, hnb⟩)] at hH
  replace hH := hidden hH
  have hT := ctakes_calls h.jat h.cat h.map no hi
  rw [hh] at hT
  replace hT := hidden hT
  have hS := hidden h
  have hV := hidden hv
  have hr := hidden (show ∀ z ∈ zs, 0 <= z /\ z <= 255 by obtain ⟨_, _, _, hr, _⟩ := hv; exact hr)
  obtain ⟨a, vcap, rfl, -⟩ := hv
  replace hat := hidden hat
  clear h
  have hat' : ¬ (128 : Int) - (zs.length : Int) < (at1 : Int) := by have := hat.out; omega
  have hL : zs.length <= 128 := by have := hat.out; omega
  have hA1 : at1 <= 128 := by have := hat.out; omega
  replace hi := hidden hi
  go_enter Tryz.func170, Tryz.ntmps170
  go_wp2_with fail
  refine (hH.out).mono ?_
  rintro ev w1 ⟨rfl, rfl⟩
  go_wp2_with fail
  refine (hT.out).mono ?_
  rintro ev w2 ⟨rfl, hB2⟩
  have hN := hidden (now_calls (hS.out.more hB2) hl no hno)
  have hsz2 := hB2.size
  replace hB2 := hidden hB2
  clear hH hT
  go_wp2_with fail
  refine (hN.out).mono ?_
  rintro ev w3 ⟨b, rfl, hLi, hb, hB3⟩
  have hB13 := hB2.out.trans (hB3.mono hB2.out.size)
  obtain ⟨r, hcp⟩ := copy_row hLi at1 _ zs (hV.out.below hB13) hat.out 3
  have hLi4 := hLi.laid at1 zs hr.out hat.out
  have hA4 : Apart [b] w3 (w3.setCells b at1 (zs.map (Value.int .u8))) := apart_setCells b (by simp) _ _ w3 (Apart.refl _ w3)
  clear hN hB3 hLi
  obtain ⟨nw, hnw⟩ : ∃ nw, layL (nowM mem M no) at1 zs = nw := ⟨_, rfl⟩
  rw [hnw] at hLi4
  replace hnw := hidden hnw
  generalize w3.setCells b at1 (zs.map (Value.int .u8)) = w4 at hcp hLi4 hA4
  replace hLi4 := hidden hLi4
  replace hA4 := hidden hA4
  replace hB13 := hidden hB13
  by_cases e128 : at1 = 128
  · subst e128
    have hc2 := fun p => hcp p (Or.inl rfl)
    simp only [Nat.sub_self] at hc2
    clear hcp
    go_upto_region 9 with fail
    have hS4 := hidden (((hS.out.more hB13.out).turnB hA4.out (by have := hS.out.lts; omega)).more (below_drew1 w4))
    have hz := hLi4.out.row
    obtain ⟨w5, hup, hM5, hA5⟩ := hS4.out.map.store no hi.out nw hz (by omega)
    have hld := (hLi4.out.below (below_drew1 w4)).load
    have c2 := ((hS.out.more hB13.out).turnB hA4.out (by have := hS.out.lts; omega)).cat.c2
    have har : ∀ w, (Instr.arrayAt 193 (.slice (some ⟨b, 0, none⟩) 128 128)).run Tryz.prog w = .ok (.pointer (some ⟨b, 0, none⟩)) w := fun w => run_arrayAt _ _ _ 128 _ 128 128 Tryz.underlying193 (by decide)
    generalize rowC nw = cs at hup hld
    have hE := hidden (And.intro (hS4.out.turn hA5 hM5) (((Apart.of_below hB13.out).trans' hA4.out (by have := hsz2; simp; omega)).trans (Apart.drew (Apart.refl _ _)) |>.trans hA5))
    clear hS4 hM5 hA5 hA4 hLi4 hz
    replace hld := hidden hld
    replace hup := hidden hup
    refine wp_region_any (by kernel_rfl) ?_
    try (change wpAny _ _ _ _ _ _ _ (World.drew _))
    refine wpAny_take (i := 0) (v := ?_) rfl (by kernel_rfl) (by kernel_rfl) (by kernel_rfl) (fun _ _ _ h => h) (Or.inl ⟨by rfl, ?_⟩) ?_
    rotate_left
    · intro w; go_simp; try (with_reducible rfl)
    refine wpAny_take (i := 1) (v := ?_) rfl (by kernel_rfl) (by kernel_rfl) (by kernel_rfl) (fun _ _ _ h => h) (Or.inl ⟨by rfl, ?_⟩) ?_
    rotate_left
    · intro w; go_simp; try (with_reducible rfl)
    refine wpAny_take (i := 2) (v := ?_) rfl (by kernel_rfl) (by kernel_rfl) (by kernel_rfl) (fun _ _ _ h => h) (Or.inl ⟨by rfl, ?_⟩) ?_
    rotate_left
    · intro w; go_simp; try (with_reducible rfl)
    refine wpAny_take (i := 4) (v := ?_) rfl (by kernel_rfl) (by kernel_rfl) (by kernel_rfl) (fun _ _ _ h => h) (Or.inl ⟨by rfl, ?_⟩) ?_
    rotate_left
    · intro w; go_simp; try (with_reducible rfl)
    refine wpAny_take (i := 5) (v := ?_) rfl (by kernel_rfl) (by kernel_rfl) (by kernel_rfl) (fun _ _ _ h => h) (Or.inl ⟨by rfl, ?_⟩) ?_
    rotate_left
    · intro w; go_simp; try (with_reducible rfl)
    refine wpAny_take (i := 6) (v := ?_) rfl (by kernel_rfl) (by kernel_rfl) (by kernel_rfl) (fun _ _ _ h => h) (Or.inl ⟨by rfl, ?_⟩) ?_
    rotate_left
    · intro w; go_simp; try (with_reducible rfl)
    go_simp
    refine wpAny_ready (rs := [3, 7]) (by kernel_rfl) (by simp) ?_
    refine AllReady.cons rfl (fun K hK => ?_) ?_
    · go_simp
      try (refine hK _ _ ?_; clear hK K)
      refine wpAny_ready (rs := [7]) (by kernel_rfl) (by simp) ?_
      refine AllReady.cons rfl (fun K hK => ?_) AllReady.nil
      refine any_load rfl rfl ⟨b, 0, none⟩ rfl (.agg cs) hld.out ?_
      try (refine hK _ _ ?_; clear hK K)
      refine wpAny_ready (rs := [8]) (by kernel_rfl) (by simp) ?_
      refine AllReady.cons rfl (fun K hK => ?_) AllReady.nil
      refine any_update rfl rfl (.map (some mb)) (.int .i64 no) (.agg cs) rfl rfl rfl hup.out ?_
      try (refine hK _ _ ?_; clear hK K)
      refine wpAny_done (by kernel_rfl) ?_ _
      go_wp2
      go_ret
      rw [hnw.out]
      exact ⟨rfl, hE.out⟩
    refine AllReady.cons rfl (fun K hK => ?_) ?_
    · refine any_load rfl rfl ⟨b, 0, none⟩ rfl (.agg cs) hld.out ?_
      try (refine hK _ _ ?_; clear hK K)
      refine wpAny_ready (rs := [3]) (by kernel_rfl) (by simp) ?_
      refine AllReady.cons rfl (fun K hK => ?_) AllReady.nil
      go_simp
      try (refine hK _ _ ?_; clear hK K)
      refine wpAny_ready (rs := [8]) (by kernel_rfl) (by simp) ?_
      refine AllReady.cons rfl (fun K hK => ?_) AllReady.nil
      refine any_update rfl rfl (.map (some mb)) (.int .i64 no) (.agg cs) rfl rfl rfl hup.out ?_
      try (refine hK _ _ ?_; clear hK K)
      refine wpAny_done (by kernel_rfl) ?_ _
      go_wp2
      go_ret
      rw [hnw.out]
      exact ⟨rfl, hE.out⟩
    exact AllReady.nil
  · have hc2 := hcp _ (Or.inr rfl)
    clear hcp
    go_upto_region 9 with fail
    have hS4 := hidden (((hS.out.more hB13.out).turnB hA4.out (by have := hS.out.lts; omega)).more (below_drew1 w4))
    have hz := hLi4.out.row
    obtain ⟨w5, hup, hM5, hA5⟩ := hS4.out.map.store no hi.out nw hz (by omega)
    have hld := (hLi4.out.below (below_drew1 w4)).load
    have c2 := ((hS.out.more hB13.out).turnB hA4.out (by have := hS.out.lts; omega)).cat.c2
    have har : ∀ w, (Instr.arrayAt 193 (.slice (some ⟨b, 0, none⟩) 128 128)).run Tryz.prog w = .ok (.pointer (some ⟨b, 0, none⟩)) w := fun w => run_arrayAt _ _ _ 128 _ 128 128 Tryz.underlying193 (by decide)
    generalize rowC nw = cs at hup hld
    have hE := hidden (And.intro (hS4.out.turn hA5 hM5) (((Apart.of_below hB13.out).trans' hA4.out (by have := hsz2; simp; omega)).trans (Apart.drew (Apart.refl _ _)) |>.trans hA5))
    clear hS4 hM5 hA5 hA4 hLi4 hz
    replace hld := hidden hld
    replace hup := hidden hup
    refine wp_region_any (by kernel_rfl) ?_
    try (change wpAny _ _ _ _ _ _ _ (World.drew _))
    refine wpAny_take (i := 0) (v := ?_) rfl (by kernel_rfl) (by kernel_rfl) (by kernel_rfl) (fun _ _ _ h => h) (Or.inl ⟨by rfl, ?_⟩) ?_
    rotate_left
    · intro w; go_simp; try (with_reducible rfl)
    refine wpAny_take (i := 1) (v := ?_) rfl (by kernel_rfl) (by kernel_rfl) (by kernel_rfl) (fun _ _ _ h => h) (Or.inl ⟨by rfl, ?_⟩) ?_
    rotate_left
    · intro w; go_simp; try (with_reducible rfl)
    refine wpAny_take (i := 2) (v := ?_) rfl (by kernel_rfl) (by kernel_rfl) (by kernel_rfl) (fun _ _ _ h => h) (Or.inl ⟨by rfl, ?_⟩) ?_
    rotate_left
    · intro w; go_simp; try (with_reducible rfl)
    refine wpAny_take (i := 4) (v := ?_) rfl (by kernel_rfl) (by kernel_rfl) (by kernel_rfl) (fun _ _ _ h => h) (Or.inl ⟨by rfl, ?_⟩) ?_
    rotate_left
    · intro w; go_simp; try (with_reducible rfl)
    refine wpAny_take (i := 5) (v := ?_) rfl (by kernel_rfl) (by kernel_rfl) (by kernel_rfl) (fun _ _ _ h => h) (Or.inl ⟨by rfl, ?_⟩) ?_
    rotate_left
    · intro w; go_simp; try (with_reducible rfl)
    refine wpAny_take (i := 6) (v := ?_) rfl (by kernel_rfl) (by kernel_rfl) (by kernel_rfl) (fun _ _ _ h => h) (Or.inl ⟨by rfl, ?_⟩) ?_
    rotate_left
    · intro w; go_simp; try (with_reducible rfl)
    go_simp
    refine wpAny_ready (rs := [3, 7]) (by kernel_rfl) (by simp) ?_
    refine AllReady.cons rfl (fun K hK => ?_) ?_
    · go_simp
      try (refine hK _ _ ?_; clear hK K)
      refine wpAny_ready (rs := [7]) (by kernel_rfl) (by simp) ?_
      refine AllReady.cons rfl (fun K hK => ?_) AllReady.nil
      refine any_load rfl rfl ⟨b, 0, none⟩ rfl (.agg cs) hld.out ?_
      try (refine hK _ _ ?_; clear hK K)
      refine wpAny_ready (rs := [8]) (by kernel_rfl) (by simp) ?_
      refine AllReady.cons rfl (fun K hK => ?_) AllReady.nil
      refine any_update rfl rfl (.map (some mb)) (.int .i64 no) (.agg cs) rfl rfl rfl hup.out ?_
      try (refine hK _ _ ?_; clear hK K)
      refine wpAny_done (by kernel_rfl) ?_ _
      go_wp2
      go_ret
      rw [hnw.out]
      exact ⟨rfl, hE.out⟩
    refine AllReady.cons rfl (fun K hK => ?_) ?_
    · refine any_load rfl rfl ⟨b, 0, none⟩ rfl (.agg cs) hld.out ?_
      try (refine hK _ _ ?_; clear hK K)
      refine wpAny_ready (rs := [3]) (by kernel_rfl) (by simp) ?_
      refine AllReady.cons rfl (fun K hK => ?_) AllReady.nil
      go_simp
      try (refine hK _ _ ?_; clear hK K)
      refine wpAny_ready (rs := [8]) (by kernel_rfl) (by simp) ?_
      refine AllReady.cons rfl (fun K hK => ?_) AllReady.nil
      refine any_update rfl rfl (.map (some mb)) (.int .i64 no) (.agg cs) rfl rfl rfl hup.out ?_
      try (refine hK _ _ ?_; clear hK K)
      refine wpAny_done (by kernel_rfl) ?_ _
      go_wp2
      go_ret
      rw [hnw.out]
      exact ⟨rfl, hE.out⟩
    exact AllReady.nil
end
end Go.Proofs.YtpofmiecjkghgaaGreatDoor
namespace Go.Proofs.YtpofmiecjkghgaaGreatDoor
open Go.RowKit Go.Extern.Stop Go.Stop Go.Extern Go.Maps
set_option maxRecDepth 100000
set_option maxHeartbeats 4000000
theorem lit_bytes (w : World) (zs : List Int) (hr : ∀ z ∈ zs, 0 <= z /\ z <= 255) (hl : zs.length <= 1000) (fz : Nat × Nat) : BytesAt (w.alloc (.cells (zs.map (Value.int .u8)).toArray 5 fz)) (.slice (some ⟨w.heap.size, 0, none⟩) zs.length zs.length) zs :=
  ⟨_, _, rfl, hr, by unfold maxLen; omega, fun e => (by cases e), fun _ => ⟨w.heap.size, 0, rfl, by simp, fun k hk => by
    rw [Nat.zero_add]
    rw [cell_of_row _ _ _ _ _ _ (heap_alloc_new w _), List.getElem?_toArray, getD_map hk]⟩⟩
section
variable {w0 : World} {d g n jb cb mb at_ most : Nat} {blocks : Int} {mem : Nat -> Int} {writes left : Int} {M : Chg} {w w' : World}
theorem cnew_nil (blocks : Int) (hb : i64 blocks) (w : World) (hG : Ground w) :
    Calls Tryz.prog 152 #[.pointer none, .int .i64 blocks] w fun e w' => ∃ b, e = .returned (.tuple #[.pointer none, flt b]) /\ Chain w' [(sCache, itoaB blocks)] (num 1) (flt b) /\ Below w.heap.size w w' := by
  have hC := hidden (cwrong_some blocks hb w hG [] (num 1) _ _ rfl)
  clear hG
  go_enter Tryz.func152, Tryz.ntmps152
  go_wp2_with fail
  refine (hC.out).mono ?_
  rintro ev w2 ⟨b, rfl, hc, -, hB⟩
  have hE := hidden (And.intro hc hB)
  clear hc hB
  go_wp2
  go_ret2
  exact ⟨b, rfl, hE.out⟩
theorem cnew_calls (h : Sys w0 d g n mem writes left w) (hj : JAt jb d at_ most w) (hjd : jb ≠ d /\ jb ≠ g) (blocks : Int) (hb : 1 <= blocks) :
    Calls Tryz.prog 152 #[ptr jb, .int .i64 blocks] w fun e w' => e = .returned (.tuple #[ptr (w.heap.size + 1), .nilIface]) /\ CSt w0 d g n jb (w.heap.size + 1) w.heap.size at_ most blocks mem writes left [] w' /\ Below w.heap.size w w' := by
  have hmm := @run_makeMap Tryz.prog
  have hB0 : Below w.heap.size w (w.alloc (.map #[] 0)) := (Below.refl _ _).alloc (Nat.le_refl _) _
  have hm0 := mapAt_new w
  have hB1 : Below (w.alloc (.map #[] 0)).heap.size (w.alloc (.map #[] 0)) ((w.alloc (.map #[] 0)).alloc (.cells #[ptr jb, .int .i64 blocks, .map (some w.heap.size)] 213)) := (Below.refl _ _).alloc (Nat.le_refl _) _
  have hl := h.disk.lt
  have hjl := hj.lt
  have hs : w0.heap.size <= w.heap.size := h.below.size
  have hE : CSt w0 d g n jb (w.heap.size + 1) w.heap.size at_ most blocks mem writes left [] ((w.alloc (.map #[] 0)).alloc (.cells #[ptr jb, .int .i64 blocks, .map (some w.heap.size)] 213)) :=
    ⟨(h.more hB0).more hB1, (hj.below hB0).below hB1, ⟨by simp, by simp, by simp⟩, hm0.below hB1, hjd, by omega, by omega, by omega, hs⟩
  have hE2 := hidden (And.intro hE (hB0.trans (hB1.mono (by simp))))
  clear h hj hB0 hB1 hm0 hE hl hjl hs
  have hb' : ¬ blocks < 1 := by omega
  go_enter Tryz.func152, Tryz.ntmps152
  go_wp2
  go_ret2
  exact ⟨by simp, hE2.out⟩
end
end Go.Proofs.YtpofmiecjkghgaaGreatDoor
