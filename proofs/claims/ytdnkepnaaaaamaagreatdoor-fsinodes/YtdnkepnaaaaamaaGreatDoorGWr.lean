/- FsInodes: its names, its tree. -/
import Derived.Test.YtdnkepnaaaaamaaGreatDoorGWq
import Derived.Test.YtdnkepnaaaaamaaGreatDoorGXf
import Derived.Test.YtdnkepnaaaaamaaGreatDoorGXi
import Derived.Test.YtdnkepnaaaaamaaGreatDoorGIj
import Derived.Deep.CutBlock
namespace Go.Proofs.YtdnkepnaaaaamaaGreatDoor
open Go.RowKit Go.Extern.Stop Go.Stop Go.Extern Go.Maps Go.Sort Go.Shelf
set_option maxRecDepth 100000

/-- A letter and a number behind it. -/
def nmP (c : UInt8) (i : Nat) : List UInt8 := c :: Lib.itoa (i : Int)
theorem nm_join (c : UInt8) (i : Nat) : (⟨#[c]⟩ : ByteArray) ++ itoaB (i : Int) = mkB (nmP c i) := by
  apply ByteArray.ext
  apply Array.toList_inj.1
  rw [ByteArray.data_append, Array.toList_append]
  simp [mkB, nmP]
def valD (l : List UInt8) : Nat := l.foldl (fun a c => a * 10 + (c.toNat - 48)) 0
theorem val_fin : ∀ i : Fin 128, valD (Lib.itoa ((i.val : Nat) : Int)) = i.val := by decide +kernel
theorem ok_fin : ∀ i : Fin 128, okB (nmP 120 i.val) = true ∧ okB (nmP 102 i.val) = true ∧ okB (nmP 107 i.val) = true := by decide +kernel
theorem size_fin : ∀ i : Fin 128, (Lib.itoa ((i.val : Nat) : Int)).length ≤ 20 := by decide +kernel
theorem nm_inj {c : UInt8} {i j : Nat} (hi : i < 128) (hj : j < 128) (h : nmP c i = nmP c j) : i = j := by
  have h2 := congrArg valD (List.cons.inj h).2
  rw [val_fin ⟨i, hi⟩, val_fin ⟨j, hj⟩] at h2
  exact h2
theorem nm_size {i : Nat} (hi : i < 128) : (itoaB (i : Int)).size ≤ 20 := by
  have := size_fin ⟨i, hi⟩
  simpa [itoaB, ByteArray.size] using this
theorem mem_dropR {L : List Rec} {i : Nat} {r q : Rec} (h : (L.map Rec.s).Nodup) (hr : L[i]? = some r) : q ∈ dropR L i ↔ q ∈ L ∧ q.s ≠ r.s := by
  obtain ⟨hi, er⟩ := List.getElem?_eq_some_iff.1 hr
  obtain ⟨m, hm⟩ : ∃ m, L.length = m + 1 := ⟨L.length - 1, by omega⟩
  obtain ⟨x, hx⟩ : ∃ x, L[m]? = some x := ⟨_, List.getElem?_eq_getElem (by omega)⟩
  have key : ∀ {a b : Nat} {y z : Rec}, L[a]? = some y → L[b]? = some z → a ≠ b → y.s ≠ z.s := fun {a b y z} ha hb hne e => by
    obtain ⟨h1, e1⟩ := List.getElem?_eq_some_iff.1 ha
    obtain ⟨h2, e2⟩ := List.getElem?_eq_some_iff.1 hb
    rcases Nat.lt_or_gt_of_ne hne with hl | hl
    · have hn := List.pairwise_iff_getElem.1 h a b (by simpa using h1) (by simpa using h2) hl
      rw [List.getElem_map, List.getElem_map, e1, e2] at hn
      exact hn e
    · have hn := List.pairwise_iff_getElem.1 h b a (by simpa using h2) (by simpa using h1) hl
      rw [List.getElem_map, List.getElem_map, e1, e2] at hn
      exact hn e.symm
  have hd := dropR_get (i := i) (show L[L.length - 1]? = some x by rw [hm]; exact hx)
  rw [hm, show m + 1 - 1 = m by omega] at hd
  rw [hd]
  constructor
  · intro hq
    obtain ⟨a, ha⟩ := List.getElem?_of_mem hq
    rw [List.getElem?_take] at ha
    split at ha
    · rename_i ham
      rw [List.getElem?_set] at ha
      split at ha
      · rename_i hia
        cases ha
        exact ⟨List.mem_of_getElem? hx, key hx hr (by omega)⟩
      · rename_i hia
        exact ⟨List.mem_of_getElem? ha, key ha hr (fun e => hia e.symm)⟩
    · cases ha
  · rintro ⟨hq, hne⟩
    obtain ⟨a, ha⟩ := List.getElem?_of_mem hq
    have hai : a ≠ i := fun e => by
      subst e
      rw [ha] at hr
      cases hr
      exact hne rfl
    have hal := (List.getElem?_eq_some_iff.1 ha).1
    rcases Nat.lt_or_ge a m with hlt | hge
    · refine List.mem_of_getElem? (i := a) ?_
      rw [List.getElem?_take, if_pos hlt, List.getElem?_set_ne (by omega)]
      exact ha
    · have : a = m := by omega
      subst this
      rw [hx] at ha
      cases ha
      refine List.mem_of_getElem? (i := i) ?_
      rw [List.getElem?_take, if_pos (by omega), List.getElem?_set_self (by omega)]
/-- A path of one name. -/
theorem split_one {s : List UInt8} (h : okB s = true) : splitB (47 :: s) = some [s] := by
  have := split_join (l := [s]) (by simp [mayP, h])
  simpa [joinB, flatB] using this
theorem lookN {L : List Rec} {s : List UInt8} (h : ∀ r ∈ L, r.s ≠ s) : lookT L s = none := List.find?_eq_none.2 fun r hr => by simpa using h r hr
/-- The first k names of FsInodes, with the inodes from 2 on. -/
def xsR (k : Nat) : List Rec := (List.range k).map fun j => ⟨nmP 120 (j + 1), j + 2⟩
theorem xsR_len (k : Nat) : (xsR k).length = k := by simp [xsR]
theorem xsR_get {k i : Nat} (h : i < k) : (xsR k)[i]? = some ⟨nmP 120 (i + 1), i + 2⟩ := by simp [xsR, h]
theorem xsR_succ (k : Nat) : xsR (k + 1) = xsR k ++ [⟨nmP 120 (k + 1), k + 2⟩] := by simp [xsR, List.range_succ]
theorem xsR_mem {k : Nat} {r : Rec} (h : r ∈ xsR k) : ∃ j, j < k ∧ r = ⟨nmP 120 (j + 1), j + 2⟩ := by
  obtain ⟨j, hj, rfl⟩ := List.mem_map.1 h
  exact ⟨j, List.mem_range.1 hj, rfl⟩
theorem xsR_no {k i : Nat} (hk : k ≤ i) (hi : i < 120) : ∀ r ∈ xsR k, r.s ≠ nmP 120 (i + 1) := by
  intro r hr e
  obtain ⟨j, hj, rfl⟩ := xsR_mem hr
  have := nm_inj (c := 120) (i := j + 1) (j := i + 1) (by omega) (by omega) e
  omega
theorem xsR_drop (k : Nat) : dropR (xsR (k + 1)) k = xsR k := by
  have h := dropR_last (L := xsR (k + 1)) (by rw [xsR_len]; omega)
  rw [xsR_len] at h
  rw [show k + 1 - 1 = k by omega] at h
  rw [h, xsR_succ]
  have e := xsR_len k
  rw [List.take_append_of_le_length (by omega), List.take_of_length_le (by omega)]
theorem xsR_nodup {k : Nat} (hk : k < 120) : ((xsR k).map Rec.s).Nodup := by
  have e : (xsR k).map Rec.s = (List.range k).map fun j => nmP 120 (j + 1) := by simp [xsR]
  rw [e]
  refine List.pairwise_map.2 (List.Pairwise.imp_of_mem ?_ (List.nodup_range (n := k)))
  intro a b ha hb hne h
  have := nm_inj (c := 120) (i := a + 1) (j := b + 1) (by have := List.mem_range.1 ha; omega) (by have := List.mem_range.1 hb; omega) h
  omega
theorem bkL_one (n : Nat) (hn : n ≤ 124) : bkL n ≤ bkL (n + 1) ∧ bkL (n + 1) ≤ bkL n + 2 ∧ bkL n ≤ 33 := by
  have e1 := bkL_eq n
  have e2 := bkL_eq (n + 1)
  unfold blk at e1 e2
  split at e1 <;> split at e2 <;> (try split at e1) <;> (try split at e2) <;> (try split at e1) <;> (try split at e2) <;> omega
theorem grow_bk (n : Nat) (hn : n ≤ 123) : growb ((32 * n : Nat) : Int) ((32 * (n + 1) : Nat) : Int) = ((bkL (n + 1) - bkL n : Nat) : Int) := by
  have e1 := bkL_eq n
  have e2 := bkL_eq (n + 1)
  have := bkL_one n (by omega)
  unfold growb
  omega
/-- The kinds, when k things are there. -/
def inK (kd : Nat → Nat) (k : Nat) (j : Nat) : Nat := if j = 1 then 2 else if 2 ≤ j ∧ j ≤ k + 1 then kd (j - 1) else 0
def inT (L : List Rec) : Nat → List Rec := upd (fun _ => []) 1 L
theorem inK_put (kd : Nat → Nat) (k c : Nat) : upd (inK kd k) (k + 2) c = inK (upd kd (k + 1) c) (k + 1) := by
  funext j
  unfold inK
  by_cases e : j = k + 2
  · subst e
    rw [upd_same, if_neg (by omega), if_pos (by omega), show k + 2 - 1 = k + 1 by omega, upd_same]
  · rw [upd_other _ _ e]
    by_cases e1 : j = 1
    · rw [if_pos e1, if_pos e1]
    · rw [if_neg e1, if_neg e1]
      by_cases e2 : 2 ≤ j ∧ j ≤ k + 1
      · rw [if_pos e2, if_pos (by omega), upd_other _ _ (by omega)]
      · rw [if_neg e2, if_neg (by omega)]
theorem inK_take (kd : Nat → Nat) (k : Nat) : upd (inK kd (k + 1)) (k + 2) 0 = inK kd k := by
  funext j
  unfold inK
  by_cases e : j = k + 2
  · subst e
    rw [upd_same, if_neg (by omega), if_neg (by omega)]
  · rw [upd_other _ _ e]
    by_cases e1 : j = 1
    · rw [if_pos e1, if_pos e1]
    · rw [if_neg e1, if_neg e1]
      by_cases e2 : 2 ≤ j ∧ j ≤ k + 1
      · rw [if_pos e2, if_pos (by omega)]
      · rw [if_neg e2, if_neg (by omega)]
theorem inK_congr {kd kd' : Nat → Nat} {k : Nat} (h : ∀ j, 1 ≤ j → j ≤ k → kd j = kd' j) : inK kd k = inK kd' k := by
  funext j
  unfold inK
  by_cases e1 : j = 1
  · rw [if_pos e1, if_pos e1]
  · rw [if_neg e1, if_neg e1]
    by_cases e2 : 2 ≤ j ∧ j ≤ k + 1
    · rw [if_pos e2, if_pos e2, h _ (by omega) (by omega)]
    · rw [if_neg e2, if_neg e2]
end Go.Proofs.YtdnkepnaaaaamaaGreatDoor
/- A law's file system between two calls, whatever it is; FsInodes, call by call. -/
namespace Go.Proofs.YtdnkepnaaaaamaaGreatDoor
open Go.RowKit Go.Extern.Stop Go.Stop Go.Extern Go.Maps Go.Sort Go.Shelf
set_option maxRecDepth 100000

/-- What holds between two calls: the tree, what P says of its bytes and blocks, nobody holds. -/
structure GnR (fb hb xb N dd : Nat) (P : (Nat → List Int) → Nat → Prop) (K : Nat → Nat) (T : Nat → List Rec) (lim : Nat) (E : TE) (w : World) : Prop where
  st : ∃ D f, P D f ∧ Fsz fb 0 hb E K D T f lim w
  no : HNo fb hb E w
  x1 : w.cell? ⟨xb, 1, none⟩ = some (ptr fb)
  xn : xb ≠ E.d ∧ xb ≠ E.g ∧ xb ≠ E.mb ∧ xb ≠ fb
  tn : E.tn = N
  k : E.k = dd
def GnS (fb hb xb N dd : Nat) (P : (Nat → List Int) → Nat → Prop) (K : Nat → Nat) (T : Nat → List Rec) (lim : Nat) (w0 w : World) : Prop := (∃ E, GnR fb hb xb N dd P K T lim E w ∧ E.w0 = w0) ∧ GT w0
/-- An error, as it is. -/
def ErN (op nm : ByteArray) (m : Int) (ev : Value) (w : World) : Prop := ∃ ll b, ev = flt b ∧ Chain w ((op, nm) :: ll) (num m) (flt b)
section
variable {fb hb xb N dd lim lim' : Nat} {P P' : (Nat → List Int) → Nat → Prop} {K K' : Nat → Nat} {T T' : Nat → List Rec} {D D' : Nat → List Int} {f f' : Nat} {E : TE} {w0 w w' : World}
theorem GnR.below (h : GnR fb hb xb N dd P K T lim E w) (hB : Below w.heap.size w w') : GnR fb hb xb N dd P K T lim E w' := by
  obtain ⟨⟨D, f, hp, h0⟩, h1, h2, h3, h4, h5⟩ := h
  exact ⟨⟨D, f, hp, h0.below hB⟩, h1.below hB, (hB.cell (p := ⟨xb, 1, none⟩) (lt_of_cell (a := ⟨xb, 1, none⟩) h2)).trans h2, h3, h4, h5⟩
theorem GnR.turn (h : GnR fb hb xb N dd P K T lim E w) (hT : E.Turns fb w w') (hP : P' D' f') (hz : Fsz fb 0 hb E.rest K' D' T' f' lim' w') : GnR fb hb xb N dd P' K' T' lim' E.rest w' :=
  have hA : Apart [E.d, E.g, E.mb, fb] w w' := hT
  ⟨⟨D', f', hP, hz⟩, ⟨(h.no.turns hT).no, h.no.ne⟩, (hA.cell (p := ⟨xb, 1, none⟩) (lt_of_cell (a := ⟨xb, 1, none⟩) h.x1) (by have := h.xn; simp; omega)).trans h.x1, h.xn, h.tn, h.k⟩
theorem GnS.below (h : GnS fb hb xb N dd P K T lim w0 w) (hB : Below w.heap.size w w') : GnS fb hb xb N dd P K T lim w0 w' := by
  obtain ⟨⟨E, h1, h2⟩, h3⟩ := h
  exact ⟨⟨E, h1.below hB, h2⟩, h3⟩
theorem GnS.x1 (h : GnS fb hb xb N dd P K T lim w0 w) : w.cell? ⟨xb, 1, none⟩ = some (ptr fb) := by
  obtain ⟨⟨E, h1, h2⟩, h3⟩ := h
  exact h1.x1
theorem GnS.bel (h : GnS fb hb xb N dd P K T lim w0 w) : Below w0.heap.size w0 w := by
  obtain ⟨⟨E, ⟨⟨D, f, hp, h0⟩, -⟩, rfl⟩, h3⟩ := h
  exact h0.s.to.below
theorem GnS.gt (h : GnS fb hb xb N dd P K T lim w0 w) : GT w := h.2.below h.bel
theorem GnS.ground (h : GnS fb hb xb N dd P K T lim w0 w) : Ground w := by
  obtain ⟨⟨E, ⟨⟨D, f, hp, h0⟩, -⟩, rfl⟩, h3⟩ := h
  exact h0.s.to.ground
theorem GnS.up (h : GnS fb hb xb N dd P K T lim w0 w) (hl : lim ≤ lim') : GnS fb hb xb N dd P K T lim' w0 w := by
  obtain ⟨⟨E, ⟨⟨D, f, hp, h0⟩, h1, h2, h3, h4, h5⟩, he⟩, hg⟩ := h
  obtain ⟨mem, wr, M, z1, z2, z3, z4, z5⟩ := h0.s
  exact ⟨⟨E, ⟨⟨D, f, hp, ⟨h0.at_, ⟨mem, wr, M, z1, z2, z3, ⟨z4.1, Int.le_trans z4.2 (by omega)⟩, z5⟩, h0.pl, h0.far, h0.tree⟩⟩, h1, h2, h3, h4, h5⟩, he⟩, hg⟩
/-- What New gives. -/
theorem gn_new {n i r : Nat} (hN : New11 n i r dd w0 E fb hb xb w) (hr : r = 0) (hg : GT w0) (hP : P (fun _ => []) dd) : GnS fb hb xb i dd P rootK (fun _ => []) 6000 w0 w := by
  subst hr
  exact ⟨⟨E, ⟨⟨_, _, hP, hN.z⟩, hN.no, hN.x1, hN.xn, hN.tn, hN.k⟩, hN.w0⟩, hg⟩
/-- A call of the law, by what it does to the tree. -/
theorem GnS.step {F : FuncId} {args : Array Value} {R : Ending → World → Prop} (h : GnS fb hb xb N dd P K T lim w0 w)
    (k : ∀ E D f, GnR fb hb xb N dd P K T lim E w → P D f → Fsz fb 0 hb E K D T f lim w → Calls Tryz.prog F args w fun e w' => R e w' ∧ (∃ D' f', P' D' f' ∧ Fsz fb 0 hb E.rest K' D' T' f' lim' w') ∧ E.Turns fb w w') :
    Calls Tryz.prog F args w fun e w' => R e w' ∧ GnS fb hb xb N dd P' K' T' lim' w0 w' := by
  obtain ⟨⟨E, h1, h2⟩, h3⟩ := h
  obtain ⟨D, f, hp, hz⟩ := h1.st
  refine (k E D f h1 hp hz).mono ?_
  rintro e w' ⟨hR, ⟨D', f', hp', hz'⟩, hT⟩
  exact ⟨hR, ⟨⟨E.rest, h1.turn hT hp' hz', h2⟩, h3⟩⟩
/-- A call that is refused. -/
theorem GnS.told {F : FuncId} {args : Array Value} {op nm : ByteArray} {m : Int} (h : GnS fb hb xb N dd P K T lim w0 w)
    (k : ∀ E D f, GnR fb hb xb N dd P K T lim E w → P D f → Fsz fb 0 hb E K D T f lim w → Calls Tryz.prog F args w fun e w' => ∃ ev, e = .returned ev ∧ Told11 fb 0 hb E K D T f lim op nm m w ev w') :
    Calls Tryz.prog F args w fun e w' => ∃ ev, e = .returned ev ∧ ErN op nm m ev w' ∧ GnS fb hb xb N dd P K T lim w0 w' := by
  obtain ⟨⟨E, h1, h2⟩, h3⟩ := h
  obtain ⟨D, f, hp, hz⟩ := h1.st
  refine (k E D f h1 hp hz).mono ?_
  rintro e w' ⟨ev, he, ⟨ll, b, q1, q2⟩, hz', hT⟩
  exact ⟨ev, he, ⟨ll, b, q1, q2⟩, ⟨⟨E.rest, h1.turn hT hp hz', h2⟩, h3⟩⟩
theorem gn_is (hS : GnS fb hb xb N dd P K T lim w0 w) {op nm : ByteArray} {m : Int} {ev : Value} (he : ErN op nm m ev w) (hm : (m == 0) = false) :
    Calls Tryz.prog 9 #[ev, .string op, .string nm, .int .i64 m] w fun e w' => e = .returned (.bool true) ∧ GnS fb hb xb N dd P K T lim w0 w' := by
  obtain ⟨ll, b, rfl, hc⟩ := he
  refine (law_is m hm w op nm ll (flt b) hc hS.gt).mono ?_
  rintro e w' ⟨rfl, hB⟩
  exact ⟨rfl, hS.below hB⟩
end
/-- The blocks and bytes of FsInodes with k things. -/
def inP (dd k : Nat) (D : Nat → List Int) (f : Nat) : Prop := f + bkL k = dd ∧ ∀ j, 2 ≤ j → j ≤ k + 1 → D j = []
section
variable {fb hb xb N dd lim k c : Nat} {kd : Nat → Nat} {w0 w w' : World}
theorem nm_okB {i : Nat} (h : i < 128) : okB (nmP 120 i) = true := (ok_fin ⟨i, h⟩).1
theorem nm_len {i : Nat} (h : i < 128) : (47 :: nmP 120 i).length ≤ 2000 := by
  have := okB_len (nm_okB h)
  rw [List.length_cons]
  omega
def KdsOk (kd : Nat → Nat) (k : Nat) : Prop := ∀ j, 1 ≤ j → j ≤ k → kd j = 1 ∨ kd j = 2
theorem KdsOk.put (h : KdsOk kd k) (hc : c = 1 ∨ c = 2) : KdsOk (upd kd (k + 1) c) (k + 1) := fun j a b => by
  by_cases e : j = k + 1
  · rw [e, upd_same]; exact hc
  · rw [upd_other _ _ e]; exact h j a (by omega)
theorem KdsOk.used (h : KdsOk kd k) {i : Nat} (h1 : 1 ≤ i) (h2 : i ≤ k + 1) : inK kd k i ≠ 0 := by
  unfold inK
  by_cases e : i = 1
  · rw [if_pos e]; decide
  · rw [if_neg e, if_pos (by omega)]
    rcases h (i - 1) (by omega) (by omega) with e | e <;> rw [e] <;> decide
theorem inT_one (L : List Rec) : inT L 1 = L := upd_same _ _ _
theorem inT_upd (L M : List Rec) : upd (inT L) 1 M = inT M := upd_upd _ _ _ _
theorem inT_not {L : List Rec} {q : Nat} (h : q ≠ 1) : inT L q = [] := upd_other _ _ h
/-- Something of one name made, there. -/
theorem in_make (hc : c = 1 ∨ c = 2) {s : List UInt8} {L : List Rec} {K : Nat → Nat} {P P' : (Nat → List Int) → Nat → Prop} {m id : Nat} (h : GnS fb hb xb N dd P K (inT L) lim w0 w) (hs : okB s = true) (hno : ∀ r ∈ L, r.s ≠ s) (hm : L.length = m) (hm1 : m ≤ 60) (h1 : 2 ≤ id) (h2 : id ≤ N) (hK1 : K 1 = 2) (hfree : K id = 0) (hlow : ∀ i, 1 ≤ i → i < id → K i ≠ 0) (hP : ∀ D f, P D f → 74 ≤ f + bkL m) (hP' : ∀ D f f', P D f → D id = [] → f' + bkL (m + 1) = f + bkL m → P' (upd D 1 (recsL (L ++ [⟨s, id⟩]))) f') (hlim : lim ≤ 300000000) :
    Calls Tryz.prog 19 #[ptr fb, .string (mkB (47 :: s)), .int .i64 (c : Nat)] w fun e w' => e = .returned .nilIface ∧ GnS fb hb xb N dd P' (upd K id c) (inT (L ++ [⟨s, id⟩])) (lim + 1000) w0 w' := by
  refine h.step (R := fun e _ => e = .returned .nilIface) (fun E D f hR hp hz => ?_)
  have hb := bkL_one m (by omega)
  have hg := grow_bk m (by omega)
  have h74 := hP D f hp
  have e0z : growb 0 ((0 : Nat) : Int) = 0 := by simp [growb, blk]
  have hD0 : D id = [] := hz.s.to.noBytes (by omega) (by rw [hR.tn]; omega) hfree
  have hlen : (47 :: s).length ≤ 2000 := by have := okB_len hs; rw [List.length_cons]; omega
  have hd : dirT K (inT L) [] = .ok 1 := by simp [dirT, walkT, hK1]
  have kC := create_new hz (path := 47 :: s) (l := []) (s := s) (kind := c) hlen (split_one hs) (p := 1) hd (by rw [inT_one]; exact lookN hno) (by rw [inT_one]; omega) hc (id := id) (by omega) (by rw [hR.tn]; omega) hfree (fun _ => inT_not (by omega)) hlow
    (gn := bkL (m + 1) - bkL m) (by rw [inT_one, hm]; exact hg) (by rw [e0z]; unfold mayB; simp; omega) hlim
  rw [inT_one, inT_upd] at kC
  refine kC.mono ?_
  rintro e w' ⟨rfl, ⟨f', hf', hz'⟩, hT⟩
  exact ⟨rfl, ⟨_, f', hP' D f f' hp hD0 (by omega), hz'⟩, hT⟩
theorem inT_nil : inT [] = fun _ => [] := by
  funext j
  unfold inT upd
  split <;> rfl
theorem inK_nil (kd : Nat → Nat) : inK kd 0 = rootK := by
  funext j
  unfold inK rootK
  by_cases e : j = 1
  · rw [if_pos e, e, upd_same]
  · rw [if_neg e, if_neg (by omega), upd_other _ _ e]
theorem in_create (hc : c = 1 ∨ c = 2) (h : GnS fb hb xb N dd (inP dd k) (inK kd k) (inT (xsR k)) lim w0 w) (hkd : KdsOk kd k) (hk : k + 2 ≤ N) (hN : N ≤ 60) (hdd : 74 ≤ dd) (hlim : lim ≤ 300000000) :
    Calls Tryz.prog 19 #[ptr fb, .string (mkB (47 :: nmP 120 (k + 1))), .int .i64 (c : Nat)] w fun e w' => e = .returned .nilIface ∧ GnS fb hb xb N dd (inP dd (k + 1)) (inK (upd kd (k + 1) c) (k + 1)) (inT (xsR (k + 1))) (lim + 1000) w0 w' := by
  have hf0 : inK kd k (k + 2) = 0 := by unfold inK; rw [if_neg (by omega), if_neg (by omega)]
  rw [← inK_put, xsR_succ]
  exact in_make hc h (nm_okB (by omega)) (xsR_no (Nat.le_refl _) (by omega)) (xsR_len k) (by omega) (by omega) hk (by simp [inK]) hf0 (fun i a b => hkd.used a (by omega)) (fun D f hp => by have := hp.1; omega) (fun D f f' hp hD hf => ⟨by have := hp.1; omega, fun j a b => by
    rw [upd_other _ _ (by omega)]
    by_cases e : j = k + 2
    · rw [e]; exact hD
    · exact hp.2 j a (by omega)⟩) hlim
/-- A file of one name taken away. -/
theorem in_drop {s : List UInt8} {L : List Rec} {K : Nat → Nat} {P P' : (Nat → List Int) → Nat → Prop} {m i id : Nat} (h : GnS fb hb xb N dd P K (inT L) lim w0 w) (hs : okB s = true) (hi : L[i]? = some ⟨s, id⟩) (hm : L.length = m + 1) (hm1 : m ≤ 60) (h1 : 2 ≤ id) (hK1 : K 1 = 2) (hkid : K id = 1 ∨ K id = 2) (hnd : ∀ r ∈ dropR L i, r.id ≠ id) (hP : ∀ D f, P D f → D id = []) (hP' : ∀ D f f', P D f → f' + bkL m = f + bkL (m + 1) → P' (upd (upd D 1 (recsL (dropR L i))) id []) f') (hlim : lim ≤ 300000000) :
    Calls Tryz.prog 20 #[ptr fb, .string (mkB (47 :: s))] w fun e w' => e = .returned .nilIface ∧ GnS fb hb xb N dd P' (upd K id 0) (inT (dropR L i)) (lim + 1000) w0 w' := by
  refine h.step (R := fun e _ => e = .returned .nilIface) (fun E D f hR hp hz => ?_)
  have hlen : (47 :: s).length ≤ 2000 := by have := okB_len hs; rw [List.length_cons]; omega
  have hd : dirT K (inT L) [] = .ok 1 := by simp [dirT, walkT, hK1]
  have hil := (List.getElem?_eq_some_iff.1 hi).1
  have hDi := hP D f hp
  have hdl : (dropR L i).length = m := by rw [dropR_len hil, hm]; omega
  have hn : blk ((D id).length : Int) = ((0 : Nat) : Int) := by rw [hDi]; rfl
  have hu : ∀ q, 1 ≤ q → q ≤ E.tn → K q = 2 → q ≠ id → ∀ x ∈ upd (inT L) 1 (dropR (inT L 1) i) q, x.id ≠ id := fun q _ _ _ _ x hx => by
    rw [inT_one, inT_upd] at hx
    by_cases e : q = 1
    · rw [e, inT_one] at hx; exact hnd x hx
    · rw [inT_not e] at hx; simp at hx
  have hi' : (inT L 1)[i]? = some ⟨s, id⟩ := by rw [inT_one]; exact hi
  have kR : Calls Tryz.prog 20 #[ptr fb, .string (mkB (47 :: s))] w fun e w' => e = .returned .nilIface ∧ (∃ f', f' + bkL (dropR (inT L 1) i).length = f + bkL (inT L 1).length + 0 ∧ Fsz fb 0 hb E.rest (upd K id 0) (upd (upd D 1 (recsL (dropR (inT L 1) i))) id []) (upd (inT L) 1 (dropR (inT L 1) i)) f' (lim + 1000) w') ∧ E.Turns fb w w' := by
    rcases hkid with hk | hk
    · exact remove_file hz hR.no (path := 47 :: s) (l := []) (s := s) hlen (split_one hs) (p := 1) (i := i) (r := ⟨s, id⟩) hd hi' rfl hk hn (by rw [inT_one]; omega) hu hlim
    · exact remove_dir hz hR.no (path := 47 :: s) (l := []) (s := s) hlen (split_one hs) (p := 1) (i := i) (r := ⟨s, id⟩) hd hi' rfl hk (by show id ≠ 1; omega) (by show id ≠ 1; omega) hDi hn (by rw [inT_one]; omega) hu hlim
  rw [inT_one, inT_upd, hdl, hm] at kR
  refine kR.mono ?_
  rintro e w' ⟨rfl, ⟨f', hf', hz'⟩, hT⟩
  exact ⟨rfl, ⟨_, f', hP' D f f' hp (by omega), hz'⟩, hT⟩
/-- The last one taken away. -/
theorem in_remove (h : GnS fb hb xb N dd (inP dd (k + 1)) (inK kd (k + 1)) (inT (xsR (k + 1))) lim w0 w) (hkd : KdsOk kd (k + 1)) (hk : k ≤ 60) (hlim : lim ≤ 300000000) :
    Calls Tryz.prog 20 #[ptr fb, .string (mkB (47 :: nmP 120 (k + 1)))] w fun e w' => e = .returned .nilIface ∧ GnS fb hb xb N dd (inP dd k) (inK kd k) (inT (xsR k)) (lim + 1000) w0 w' := by
  have hx := xsR_drop k
  have := in_drop (P' := inP dd k) (id := k + 2) (i := k) (m := k) h (nm_okB (by omega)) (xsR_get (by omega)) (xsR_len _) hk (by omega) (by simp [inK]) (by unfold inK; rw [if_neg (by omega), if_pos (by omega)]; exact hkd _ (by omega) (by omega)) (fun r hr => by
    rw [hx] at hr
    obtain ⟨j, hj, rfl⟩ := xsR_mem hr
    show j + 2 ≠ k + 2
    omega) (fun D f hp => hp.2 _ (by omega) (by omega)) (fun D f f' hp hf => ⟨by have := hp.1; omega, fun j a b => by rw [upd_other _ _ (by omega), upd_other _ _ (by omega)]; exact hp.2 j a (by omega)⟩) hlim
  rw [hx, inK_take] at this
  exact this
end
end Go.Proofs.YtdnkepnaaaaamaaGreatDoor
/- FsInodes: no inode is free; one is taken away, another made; all is sound. -/
namespace Go.Proofs.YtdnkepnaaaaamaaGreatDoor
open Go.RowKit Go.Extern.Stop Go.Stop Go.Extern Go.Maps Go.Sort Go.Shelf
set_option maxRecDepth 100000

section
variable {fb rs hb : Nat} {E : TE} {w w' : World} {K : Nat → Nat} {D : Nat → List Int} {T : Nat → List Rec} {f u lim tn : Nat}
theorem fMake_ok {path : List UInt8} {Q : World → Prop} (k : Calls Tryz.prog 19 #[ptr fb, .string (mkB path), .int .i64 ((1 : Nat) : Int)] w fun e w' => e = .returned .nilIface ∧ Q w') :
    Calls Tryz.prog 6 #[ptr fb, .string (mkB path)] w fun e w' => e = .returned .nilIface ∧ Q w' := by
  replace k := hidden k
  have kW := hidden (fun (wx : World) => wrap_nil sMake (mkB path) wx)
  unfold sMake at kW
  go_enter Tryz.func6, Tryz.ntmps6
  go_wp2_with fail
  refine (k.out).mono ?_
  rintro ev w1 ⟨rfl, hQ⟩
  replace hQ := hidden hQ
  go_wp2_with fail
  refine (kW.out _).mono ?_
  rintro ev w2 ⟨rfl, hw2⟩
  subst w2
  go_wp2
  go_ret
  exact ⟨rfl, hQ.out⟩
theorem rec_inj : ∀ {L : List Rec}, (L.map Rec.s).Nodup → ∀ {a b : Rec}, a ∈ L → b ∈ L → a.s = b.s → a = b
  | [], _, a, b, ha, _, _ => by simp at ha
  | x :: l, h, a, b, ha, hb, e => by
    rw [List.map_cons, List.nodup_cons] at h
    rcases List.mem_cons.1 ha with ha | ha <;> rcases List.mem_cons.1 hb with hb | hb
    · rw [ha, hb]
    · exact absurd (List.mem_map.2 ⟨b, hb, by rw [← e, ha]⟩) h.1
    · exact absurd (List.mem_map.2 ⟨a, ha, by rw [e, hb]⟩) h.1
    · exact rec_inj h.2 ha hb e
theorem idT_at {L : List Rec} (h : (L.map Rec.s).Nodup) {r : Rec} (hr : r ∈ L) : idT L r.s = r.id := by
  obtain ⟨q, h1, h2⟩ := look_has (L := L) (s := r.s) ⟨r, hr, rfl⟩
  obtain ⟨e, i, hi⟩ := lookT_some h1
  rw [h2, rec_inj h (List.mem_of_getElem? hi) hr e]
/-- The root alone has names; what they name has none below it. -/
theorem sound_root {L : List Rec} (htn : 1 ≤ tn) (hK1 : K 1 = 2) (hT : T 1 = L) (hL : (L.map Rec.s).Nodup) (hids : (L.map Rec.id).Nodup) (hne : L ≠ []) (hin : ∀ r ∈ L, 2 ≤ r.id ∧ r.id ≤ tn) (hleaf : ∀ r ∈ L, T r.id = []) (hall : ∀ id, 1 ≤ id → id ≤ tn → K id ≠ 0 → id = 1 ∨ ∃ r ∈ L, r.id = id) :
    Sound K T tn [[1], kidsT K T 1] := by
  have hks : kidsT K T 1 = (namesT T 1).map (idT L) := by unfold kidsT; rw [if_pos hK1, hT]
  have hp : (kidsT K T 1).Perm (L.map Rec.id) := by
    rw [hks]
    have h1 : (namesT T 1).Perm (L.map Rec.s) := by unfold namesT; rw [hT]; exact List.mergeSort_perm _ _
    have h2 := h1.map (idT L)
    rw [List.map_map] at h2
    refine h2.trans (List.Perm.of_eq (List.map_congr_left fun r hr => ?_))
    exact idT_at hL hr
  have hmem : ∀ x, x ∈ kidsT K T 1 ↔ ∃ r ∈ L, r.id = x := fun x => by rw [hp.mem_iff, List.mem_map]
  generalize hkk : kidsT K T 1 = ks at hp hmem
  have hkid : ∀ x ∈ ks, kidsT K T x = [] := fun x hx => by
    obtain ⟨r, hr, rfl⟩ := (hmem x).1 hx
    unfold kidsT namesT
    rw [hleaf r hr]
    split
    · simp [sortS]
    · rfl
  have hnk : ks ≠ [] := fun e => by rw [e] at hp; exact hne (List.map_eq_nil_iff.1 (List.nil_perm.1 hp))
  have hnd : (1 :: ks).Nodup := by
    refine List.nodup_cons.2 ⟨fun h1 => ?_, hp.nodup_iff.2 hids⟩
    obtain ⟨r, hr, e⟩ := (hmem 1).1 h1
    have := (hin r hr).1
    omega
  refine ⟨⟨rfl, fun j l hl => ?_, by simpa using hnd, fun i hi => ?_⟩, by simp, fun id a b c => ?_⟩
  · match j, hl with
    | 0, hl =>
      obtain rfl : [1] = l := by simpa using hl
      exact ⟨by simp, by simp [hkk]⟩
    | 1, hl =>
      obtain rfl : ks = l := by simpa using hl
      refine ⟨hnk, ?_⟩
      show ks.flatMap (kidsT K T) = []
      rw [List.flatMap_eq_nil_iff]
      exact hkid
    | j + 2, hl => simp at hl
  · simp only [List.flatten_cons, List.flatten_nil, List.append_nil, List.singleton_append, List.mem_cons] at hi
    rcases hi with rfl | hi
    · exact ⟨Nat.le_refl _, htn⟩
    · obtain ⟨r, hr, rfl⟩ := (hmem i).1 hi
      have := hin r hr
      omega
  · simp only [List.flatten_cons, List.flatten_nil, List.append_nil, List.singleton_append, List.mem_cons]
    rcases hall id a b c with e | e
    · exact Or.inl e
    · exact Or.inr ((hmem id).2 e)
end
def sMore : List UInt8 := [109, 111, 114, 101]
theorem more_ok : okB sMore = true := by decide
theorem more_no {r : Rec} {k : Nat} (h : r ∈ xsR k) : r.s ≠ sMore := by
  obtain ⟨j, hj, rfl⟩ := xsR_mem h
  exact fun e => absurd (List.cons.inj e).1 (by decide)
section
variable {fb hb xb N dd lim k : Nat} {kd : Nat → Nat} {w0 w w' : World}
theorem in_fullMake (h : GnS fb hb xb N dd (inP dd k) (inK kd k) (inT (xsR k)) lim w0 w) (hkd : KdsOk kd k) (hk : k + 1 = N) (hN : N ≤ 60) :
    Calls Tryz.prog 6 #[ptr fb, .string ⟨#[47, 109, 111, 114, 101]⟩] w fun e w' => ∃ ev, e = .returned ev ∧ ErN ⟨#[109, 97, 107, 101]⟩ ⟨#[47, 109, 111, 114, 101]⟩ 16 ev w' ∧ GnS fb hb xb N dd (inP dd k) (inK kd k) (inT (xsR k)) lim w0 w' :=
  h.told (fun E D f hR hp hz => fMake_err (path := 47 :: sMore) (create_full hz (path := 47 :: sMore) (l := []) (s := sMore) (kind := 1) (by decide) (split_one more_ok) (p := 1) (by simp [dirT, walkT, inK]) (by rw [inT_one]; exact lookN fun r hr => more_no hr) (by rw [inT_one, xsR_len]; omega) (fun i a b => hkd.used a (by have := hR.tn; omega))))
theorem in_fullPut (h : GnS fb hb xb N dd (inP dd k) (inK kd k) (inT (xsR k)) lim w0 w) (hkd : KdsOk kd k) (hk : k + 1 = N) (hN : N ≤ 60) :
    Calls Tryz.prog 10 #[ptr fb, .string ⟨#[47, 109, 111, 114, 101]⟩, .slice none 0 0] w fun e w' => ∃ ev, e = .returned ev ∧ ErN ⟨#[112, 117, 116]⟩ ⟨#[47, 109, 111, 114, 101]⟩ 16 ev w' ∧ GnS fb hb xb N dd (inP dd k) (inK kd k) (inT (xsR k)) lim w0 w' :=
  h.told (fun E D f hR hp hz => fPut_err (path := 47 :: sMore) (put_full hz (path := 47 :: sMore) (l := []) (s := sMore) (by decide) (split_one more_ok) (zs := []) ⟨none, 0, rfl⟩ (by simp) false (p := 1) (by simp [dirT, walkT, inK]) (by rw [inT_one]; exact lookN fun r hr => more_no hr) (by rw [inT_one, xsR_len]; omega) (fun i a b => hkd.used a (by have := hR.tn; omega))))
theorem in_room (h : GnS fb hb xb N dd (inP dd k) (inK kd k) (inT (xsR k)) lim w0 w) (hkd : KdsOk kd k) (hk : k + 1 = N) (hlim : lim ≤ 300000000) :
    Calls Tryz.prog 11 #[ptr fb] w fun e w' => (∃ f : Nat, e = .returned (.tuple #[rmV f 0 0 dd, .nilIface])) ∧ GnS fb hb xb N dd (inP dd k) (inK kd k) (inT (xsR k)) (lim + 1000) w0 w' :=
  h.step (R := fun e _ => ∃ f : Nat, e = .returned (.tuple #[rmV f 0 0 dd, .nilIface])) (fun E D f hR hp hz => (fRoom_ok hz hlim).mono fun e w' ⟨he, hz', hT⟩ => ⟨⟨f, by
    rw [he, cntN_none fun i a b => hkd.used a (by have := hR.tn; omega), hR.k]
    rfl⟩, ⟨D, f, hp, hz'⟩, hT⟩)
/-- What is left when the third one is gone. -/
def inL (m : Nat) : List Rec := dropR (xsR (m + 1)) 2
theorem inL_mem {m : Nat} (h3 : 2 ≤ m) (hm : m < 110) {r : Rec} : r ∈ inL m ↔ ∃ j, j ≤ m ∧ j ≠ 2 ∧ r = ⟨nmP 120 (j + 1), j + 2⟩ := by
  rw [inL, mem_dropR (xsR_nodup (by omega)) (xsR_get (by omega))]
  constructor
  · rintro ⟨h1, h2⟩
    obtain ⟨j, hj, rfl⟩ := xsR_mem h1
    exact ⟨j, by omega, fun e => h2 (by rw [e]), rfl⟩
  · rintro ⟨j, hj, hne, rfl⟩
    refine ⟨List.mem_of_getElem? (xsR_get (by omega)), fun e => hne ?_⟩
    have := nm_inj (c := 120) (i := j + 1) (j := 2 + 1) (by omega) (by omega) e
    omega
theorem inL_len {m : Nat} (h3 : 2 ≤ m) : (inL m).length = m := by rw [inL, dropR_len (by rw [xsR_len]; omega), xsR_len]; omega
theorem in_rm3 {m : Nat} (h : GnS fb hb xb N dd (inP dd (m + 1)) (inK kd (m + 1)) (inT (xsR (m + 1))) lim w0 w) (hkd : KdsOk kd (m + 1)) (h3 : 2 ≤ m) (hm : m ≤ 60) (hlim : lim ≤ 300000000) :
    Calls Tryz.prog 20 #[ptr fb, .string (mkB (47 :: nmP 120 3))] w fun e w' => e = .returned .nilIface ∧ GnS fb hb xb N dd (fun _ f => f + bkL m = dd) (upd (inK kd (m + 1)) 4 0) (inT (inL m)) (lim + 1000) w0 w' :=
  in_drop (P' := fun _ f => f + bkL m = dd) (id := 4) (i := 2) (m := m) h (nm_okB (by omega)) (xsR_get (by omega)) (xsR_len _) hm (by omega) (by simp [inK]) (by unfold inK; rw [if_neg (by omega), if_pos (by omega)]; exact hkd _ (by omega) (by omega)) (fun r hr => by
    obtain ⟨j, hj, hne, rfl⟩ := (inL_mem h3 (by omega)).1 hr
    show j + 2 ≠ 4
    omega) (fun D f hp => hp.2 _ (by omega) (by omega)) (fun D f f' hp hf => by have := hp.1; omega) hlim
theorem in_more {m : Nat} (h : GnS fb hb xb N dd (fun _ f => f + bkL m = dd) (upd (inK kd (m + 1)) 4 0) (inT (inL m)) lim w0 w) (hkd : KdsOk kd (m + 1)) (h3 : 2 ≤ m) (hm : m ≤ 60) (hN : 4 ≤ N) (hdd : 74 ≤ dd) (hlim : lim ≤ 300000000) :
    Calls Tryz.prog 19 #[ptr fb, .string (mkB (47 :: sMore)), .int .i64 ((2 : Nat) : Int)] w fun e w' => e = .returned .nilIface ∧ GnS fb hb xb N dd (fun _ _ => True) (upd (upd (inK kd (m + 1)) 4 0) 4 2) (inT (inL m ++ [⟨sMore, 4⟩])) (lim + 1000) w0 w' :=
  in_make (P' := fun _ _ => True) (Or.inr rfl) h more_ok (fun r hr => by
    obtain ⟨j, hj, hne, rfl⟩ := (inL_mem h3 (by omega)).1 hr
    exact fun e => absurd (List.cons.inj e).1 (by decide)) (inL_len h3) hm (by omega) hN (by simp [upd_other, inK]) (upd_same _ _ _) (fun i a b => by rw [upd_other _ _ (by omega)]; exact hkd.used a (by omega)) (fun D f hp => by omega) (fun D f f' hp hD hf => trivial) hlim
theorem in_check {m : Nat} (h : GnS fb hb xb N dd (fun _ _ => True) (upd (upd (inK kd (m + 1)) 4 0) 4 2) (inT (inL m ++ [⟨sMore, 4⟩])) lim w0 w) (h3 : 2 ≤ m) (hm : m ≤ 60) (hmN : m + 2 = N) (hdd : dd ≤ 500) (hlim : lim ≤ 300000000) :
    Calls Tryz.prog 12 #[ptr fb] w fun e w' => e = .returned .nilIface ∧ GnS fb hb xb N dd (fun _ _ => True) (upd (upd (inK kd (m + 1)) 4 0) 4 2) (inT (inL m ++ [⟨sMore, 4⟩])) (lim + 1000) w0 w' := by
  have hmem : ∀ r, r ∈ inL m ++ [(⟨sMore, 4⟩ : Rec)] ↔ (∃ j, j ≤ m ∧ j ≠ 2 ∧ r = ⟨nmP 120 (j + 1), j + 2⟩) ∨ r = ⟨sMore, 4⟩ := fun r => by rw [List.mem_append, inL_mem h3 (by omega), List.mem_singleton]
  have hgood : (inL m).map Rec.s |>.Nodup := by
    have hs : ((xsR (m + 1)).map Rec.s).Nodup := xsR_nodup (by omega)
    exact (GoodL.drop (L := xsR (m + 1)) ⟨fun r hr => by
      obtain ⟨j, hj, rfl⟩ := xsR_mem hr
      exact ⟨nm_okB (by omega), by show 1 ≤ j + 2; omega, by show j + 2 < 4294967296; omega⟩, hs⟩ (i := 2) (by rw [xsR_len]; omega)).nodup
  have hS : Sound (upd (upd (inK kd (m + 1)) 4 0) 4 2) (inT (inL m ++ [⟨sMore, 4⟩])) N [[1], kidsT (upd (upd (inK kd (m + 1)) 4 0) 4 2) (inT (inL m ++ [⟨sMore, 4⟩])) 1] := by
    refine sound_root (L := inL m ++ [⟨sMore, 4⟩]) (by omega) (by simp [upd_other, inK]) (inT_one _) ?_ ?_ (by simp) (fun r hr => ?_) (fun r hr => ?_) (fun id a b c => ?_)
    · rw [List.map_append, List.nodup_append]
      refine ⟨hgood, by simp, fun a ha b hb => ?_⟩
      obtain ⟨r, hr, rfl⟩ := List.mem_map.1 ha
      obtain ⟨j, hj, hne, rfl⟩ := (inL_mem h3 (by omega)).1 hr
      simp only [List.map_cons, List.map_nil, List.mem_singleton] at hb
      subst hb
      exact fun e => absurd (List.cons.inj e).1 (by decide)
    · have hx : (inL m).map Rec.id |>.Nodup := by
        refine List.pairwise_map.2 (List.Pairwise.imp_of_mem ?_ (List.pairwise_map.1 hgood))
        intro a b ha hb hne e
        obtain ⟨i, hi, -, rfl⟩ := (inL_mem h3 (by omega)).1 ha
        obtain ⟨j, hj, -, rfl⟩ := (inL_mem h3 (by omega)).1 hb
        have e' : i + 2 = j + 2 := e
        obtain rfl : i = j := by omega
        exact hne rfl
      rw [List.map_append, List.nodup_append]
      refine ⟨hx, by simp, fun a ha b hb => ?_⟩
      obtain ⟨r, hr, rfl⟩ := List.mem_map.1 ha
      obtain ⟨j, hj, hne, rfl⟩ := (inL_mem h3 (by omega)).1 hr
      simp only [List.map_cons, List.map_nil, List.mem_singleton] at hb
      subst hb
      show j + 2 ≠ 4
      omega
    · rcases (hmem r).1 hr with ⟨j, hj, -, rfl⟩ | rfl
      · show 2 ≤ j + 2 ∧ j + 2 ≤ N
        omega
      · show 2 ≤ 4 ∧ 4 ≤ N
        omega
    · rcases (hmem r).1 hr with ⟨j, hj, -, rfl⟩ | rfl
      · exact inT_not (by show j + 2 ≠ 1; omega)
      · exact inT_not (by decide)
    · by_cases e1 : id = 1
      · exact Or.inl e1
      · refine Or.inr ?_
        by_cases e4 : id = 4
        · exact ⟨⟨sMore, 4⟩, (hmem _).2 (Or.inr rfl), e4.symm⟩
        · exact ⟨⟨nmP 120 (id - 2 + 1), id - 2 + 2⟩, (hmem _).2 (Or.inl ⟨id - 2, by omega, by omega, rfl⟩), by show id - 2 + 2 = id; omega⟩
  exact h.step (R := fun e _ => e = .returned .nilIface) (fun E D f hR hp hz => (fCheck_ok hz (by rw [hR.tn]; exact hS) (by rw [hR.k]; exact hdd) hlim).mono fun e w' ⟨he, hz', hT⟩ => ⟨he, ⟨D, f, trivial, hz'⟩, hT⟩)
end
end Go.Proofs.YtdnkepnaaaaamaaGreatDoor
/- FsInodes answers true, whatever it is given, and changes nothing that was there. -/
namespace Go.Proofs.YtdnkepnaaaaamaaGreatDoor
open Go.RowKit Go.Extern.Stop Go.Stop Go.Extern Go.Maps Go.Sort Go.Shelf
set_option maxRecDepth 1000000

theorem x_join (i : Nat) : (⟨#[47, 120]⟩ : ByteArray) ++ itoaB (i : Int) = mkB (47 :: nmP 120 i) := by
  apply ByteArray.ext
  apply Array.toList_inj.1
  rw [ByteArray.data_append, Array.toList_append]
  simp [mkB, nmP]
theorem x3_text : mkB (47 :: nmP 120 3) = ⟨#[47, 120, 51]⟩ := by
  have e : nmP 120 3 = [120, 51] := by decide +kernel
  rw [e]
  rfl
section
variable {fb hb xb N dd lim k : Nat} {kd : Nat → Nat} {w0 w w' : World}
theorem il_make (h : GnS fb hb xb N dd (inP dd k) (inK kd k) (inT (xsR k)) lim w0 w) (hkd : KdsOk kd k) (hk : k + 2 ≤ N) (hN : N ≤ 60) (hdd : 74 ≤ dd) (hlim : lim ≤ 300000000) :
    Calls Tryz.prog 6 #[ptr fb, .string (mkB (47 :: nmP 120 (k + 1)))] w fun e w' => e = .returned .nilIface ∧ GnS fb hb xb N dd (inP dd (k + 1)) (inK (upd kd (k + 1) 1) (k + 1)) (inT (xsR (k + 1))) (lim + 1000) w0 w' := fMake_ok (in_create (Or.inl rfl) h hkd hk hN hdd hlim)
theorem il_mkdir (h : GnS fb hb xb N dd (inP dd k) (inK kd k) (inT (xsR k)) lim w0 w) (hkd : KdsOk kd k) (hk : k + 2 ≤ N) (hN : N ≤ 60) (hdd : 74 ≤ dd) (hlim : lim ≤ 300000000) :
    Calls Tryz.prog 8 #[ptr fb, .string (mkB (47 :: nmP 120 (k + 1)))] w fun e w' => e = .returned .nilIface ∧ GnS fb hb xb N dd (inP dd (k + 1)) (inK (upd kd (k + 1) 2) (k + 1)) (inT (xsR (k + 1))) (lim + 1000) w0 w' := fMkdir_ok (in_create (Or.inr rfl) h hkd hk hN hdd hlim)
theorem il_remove (h : GnS fb hb xb N dd (inP dd (k + 1)) (inK (upd kd (k + 1) 1) (k + 1)) (inT (xsR (k + 1))) lim w0 w) (hkd : KdsOk kd k) (hk : k ≤ 60) (hlim : lim ≤ 300000000) :
    Calls Tryz.prog 7 #[ptr fb, .string (mkB (47 :: nmP 120 (k + 1)))] w fun e w' => e = .returned .nilIface ∧ GnS fb hb xb N dd (inP dd k) (inK kd k) (inT (xsR k)) (lim + 1000) w0 w' := by
  have k1 := fRemove_ok (in_remove h (hkd.put (Or.inl rfl)) hk hlim)
  rw [inK_congr (kd' := kd) fun j a b => upd_other _ _ (by omega)] at k1
  exact k1
theorem il_rm3 {m : Nat} (h : GnS fb hb xb N dd (inP dd (m + 1)) (inK kd (m + 1)) (inT (xsR (m + 1))) lim w0 w) (hkd : KdsOk kd (m + 1)) (h3 : 2 ≤ m) (hm : m ≤ 60) (hlim : lim ≤ 300000000) :
    Calls Tryz.prog 7 #[ptr fb, .string ⟨#[47, 120, 51]⟩] w fun e w' => e = .returned .nilIface ∧ GnS fb hb xb N dd (fun _ f => f + bkL m = dd) (upd (inK kd (m + 1)) 4 0) (inT (inL m)) (lim + 1000) w0 w' := by
  have k1 := fRemove_ok (in_rm3 h hkd h3 hm hlim)
  rw [x3_text] at k1
  exact k1
theorem il_more {m : Nat} (h : GnS fb hb xb N dd (fun _ f => f + bkL m = dd) (upd (inK kd (m + 1)) 4 0) (inT (inL m)) lim w0 w) (hkd : KdsOk kd (m + 1)) (h3 : 2 ≤ m) (hm : m ≤ 60) (hN : 4 ≤ N) (hdd : 74 ≤ dd) (hlim : lim ≤ 300000000) :
    Calls Tryz.prog 8 #[ptr fb, .string ⟨#[47, 109, 111, 114, 101]⟩] w fun e w' => e = .returned .nilIface ∧ GnS fb hb xb N dd (fun _ _ => True) (upd (upd (inK kd (m + 1)) 4 0) 4 2) (inT (inL m ++ [⟨sMore, 4⟩])) (lim + 1000) w0 w' := fMkdir_ok (path := 47 :: sMore) (in_more h hkd h3 hm hN hdd hlim)
end
set_option maxHeartbeats 8000000 in
theorem fsInodes_calls (za zb : Int) (w : World) (hG : Ground w) (hGT : GT w) :
    Calls Tryz.prog 3 #[.int .i64 za, .int .i64 zb] w fun e w' => e = .returned (.bool true) ∧ Below w.heap.size w w' := by
  obtain ⟨mm, hm, hm2⟩ : ∃ m : Nat, bits .and .i64 za 31 = (m : Int) ∧ m ≤ 31 := by
    have : 0 ≤ bits .and .i64 za 31 ∧ bits .and .i64 za 31 ≤ 31 := and_low za 31 (by decide)
    exact ⟨(bits .and .i64 za 31).toNat, by omega, by omega⟩
  obtain ⟨N, hN, hN1, hN2⟩ : ∃ N : Nat, (mm : Int) + 8 = (N : Int) ∧ 8 ≤ N ∧ N ≤ 39 := ⟨mm + 8, by omega, by omega, by omega⟩
  obtain ⟨dd, hdd⟩ : ∃ dd, dd = 153 - N := ⟨_, rfl⟩
  have kM := hidden (New11_calls (n := 250) (i := N) (r := 0) (dd := dd) ⟨by omega, by omega, by omega, by omega, by omega, by omega, by omega, by omega⟩ w hG)
  have hd1 : 74 ≤ dd := by omega
  have hd2 : dd ≤ 500 := by omega
  have hd0 := hidden hdd
  replace hGT := hidden hGT
  clear hG hm2 hdd
  go_enter Tryz.func3, Tryz.ntmps3
  go_wp2_with fail
  refine (kM.out).mono ?_
  rintro ev w1 ⟨E, fb, hb, xb, rfl, hN11⟩
  have h1 := hidden (show GnS fb hb xb N dd (inP dd 0) (inK (fun _ => 1) 0) (inT (xsR 0)) 6000 w w1 from by
    rw [inK_nil, show xsR 0 = [] from rfl, inT_nil]
    exact gn_new hN11 rfl hGT.out ⟨by show dd + bkL 0 = dd; simp [bkL, blk], fun j a b => rfl⟩)
  clear hN11 kM
  go_wp2_with fail
  go_loopg [6] 39 (fun gk q wr => ∃ (i k : Nat) (kd : Nat → Nat), i = k + 1 ∧ i ≤ N ∧ gk = 40 - i ∧ q = .int .i64 (i : Nat) ∧ Hid (KdsOk kd k) ∧ Hid (GnS fb hb xb N dd (inP dd k) (inK kd k) (inT (xsR k)) (6000 + 3000 * k) w wr))
  case atStart => exact ⟨1, 0, fun _ => 1, rfl, by omega, by omega, rfl, hidden (fun j a b => by omega), h1⟩
  case round =>
    obtain ⟨i, k, kd, hik, hiN, hgk, rfl, hkd, hS⟩ := hrel
    have hgk' := hidden hgk
    have hik' := hidden hik
    clear h1 hgk
    by_cases hlt : i < N
    · have hlt' : (i : Int) < (N : Int) := by omega
      have kN := hidden (fun (wx : World) => num_calls (i : Int) ⟨by omega, by omega⟩ wx)
      have hcat := x_join i
      have hsz := nm_size (i := i) (by omega)
      have kK := hidden (il_make hS.out hkd.out (by omega) (by omega) (by omega) (by omega))
      rw [← hik] at kK
      have kR := hidden (fun (wx : World) (lim : Nat) (hl : lim ≤ 300000000) (hx : GnS fb hb xb N dd (inP dd (k + 1)) (inK (upd kd (k + 1) 1) (k + 1)) (inT (xsR (k + 1))) lim w wx) => il_remove hx hkd.out (by omega) hl)
      have kD := hidden (fun (wx : World) (lim : Nat) (hl : lim ≤ 300000000) (hx : GnS fb hb xb N dd (inP dd k) (inK kd k) (inT (xsR k)) lim w wx) => il_mkdir hx hkd.out (by omega) (by omega) (by omega) hl)
      rw [← hik] at kR kD
      have c1 := hS.out.x1
      have l1 := lt_of_cell (a := ⟨xb, 1, none⟩) c1
      generalize itoaB (i : Int) = TX at kN hcat hsz
      generalize mkB (47 :: nmP 120 i) = PX at kK kR kD hcat
      obtain ⟨S, hSd, s0, s1⟩ : ∃ S, bits .and .i64 (i : Int) 31 = S ∧ 0 ≤ S ∧ S ≤ 31 := ⟨_, rfl, and_low _ 31 (by decide)⟩
      have s2 : S ≤ 64 := by omega
      replace hm := hidden hm
      replace hN := hidden hN
      clear hik
      go_wp2_with fail
      refine (kN.out _).mono ?_
      rintro ev w2 ⟨rfl, hw2⟩
      subst w2
      clear kN
      go_wp2_with fail
      refine (kK.out).mono ?_
      rintro ev w3 ⟨rfl, hS3⟩
      replace hS3 := hidden hS3
      clear kK c1 l1 hS
      obtain ⟨B, hB⟩ : ∃ B, bits .and .i64 (zb / 2 ^ S.toNat) 1 = B := ⟨_, rfl⟩
      by_cases hB1 : B = 1
      · have c3 := hS3.out.x1
        have l3 := lt_of_cell (a := ⟨xb, 1, none⟩) c3
        have kR3 := hidden (kR.out w3 _ (by have := hik'.out; omega) hS3.out)
        subst hB1
        go_wp2_with fail
        refine (kR3.out).mono ?_
        rintro ev w4 ⟨rfl, hS4⟩
        have c4 := hS4.x1
        have l4 := lt_of_cell (a := ⟨xb, 1, none⟩) c4
        have kD4 := hidden (kD.out w4 _ (by have := hik'.out; omega) hS4)
        clear kR kD kR3 c3 l3 hS3 hS4
        go_wp2_with fail
        refine (kD4.out).mono ?_
        rintro ev w5 ⟨rfl, hS5⟩
        replace hS5 := hidden hS5
        clear kD4 c4 l4
        go_wp2
        go_roundg (40 - (i + 1))
        case measure => rw [hgk'.out]; omega
        case rel =>
          have hS5' := hS5.out
          rw [hik'.out] at hS5'
          exact ⟨i + 1, k + 1, upd kd (k + 1) 2, by rw [hik'.out], by omega, rfl, by go_num, hidden (hkd.out.put (Or.inr rfl)), hidden (hS5'.up (by omega))⟩
      · clear kR kD
        go_wp2
        go_roundg (40 - (i + 1))
        case measure => rw [hgk'.out]; omega
        case rel =>
          have hS3' := hS3.out
          rw [hik'.out] at hS3'
          exact ⟨i + 1, k + 1, upd kd (k + 1) 1, by rw [hik'.out], by omega, rfl, by go_num, hidden (hkd.out.put (Or.inl rfl)), hidden (hS3'.up (by omega))⟩
    · have hge : ¬ (i : Int) < (N : Int) := by omega
      obtain ⟨m, rfl⟩ : ∃ m, k = m + 1 := ⟨k - 1, by omega⟩
      have hmN : m + 1 + 1 = N := by omega
      have c1 := hS.out.x1
      have l1 := lt_of_cell (a := ⟨xb, 1, none⟩) c1
      have kA := hidden (in_fullMake hS.out hkd.out hmN (by omega))
      have hlim := hidden (show 6000 + 3000 * (m + 1) ≤ 200000 by omega)
      generalize 6000 + 3000 * (m + 1) = lim at hS kA hlim
      have h2m := hidden (show 2 ≤ m ∧ m ≤ 60 by omega)
      have h4N := hidden (show 4 ≤ N ∧ N ≤ 60 by omega)
      replace hmN := hidden hmN
      replace hm := hidden hm
      replace hN := hidden hN
      clear hik
      go_wp2_with fail
      refine (kA.out).mono ?_
      rintro ev w2 ⟨ea, rfl, he2, hS2⟩
      have kI := hidden (gn_is hS2 he2 (by rfl))
      clear kA c1 l1 hS hS2 he2
      go_wp2_with fail
      refine (kI.out).mono ?_
      rintro ev w3 ⟨rfl, hS3⟩
      have c3 := hS3.x1
      have l3 := lt_of_cell (a := ⟨xb, 1, none⟩) c3
      have kP := hidden (in_fullPut hS3 hkd.out hmN.out h4N.out.2)
      clear kI hS3
      go_wp2_with fail
      refine (kP.out).mono ?_
      rintro ev w4 ⟨eb, rfl, he4, hS4⟩
      have kJ := hidden (gn_is hS4 he4 (by rfl))
      clear kP c3 l3 hS4 he4
      go_wp2_with fail
      refine (kJ.out).mono ?_
      rintro ev w5 ⟨rfl, hS5⟩
      have c5 := hS5.x1
      have l5 := lt_of_cell (a := ⟨xb, 1, none⟩) c5
      have kO := hidden (in_room hS5 hkd.out hmN.out (by have := hlim.out; omega))
      clear kJ hS5
      go_wp2_with fail
      refine (kO.out).mono ?_
      rintro ev w6 ⟨⟨f, rfl⟩, hS6⟩
      obtain ⟨w7, hw7, hB7, hr7⟩ : ∃ w7, w6.alloc (Obj.cells #[.int .i64 (f : Nat), .int .i64 0, .int .i64 0, .int .i64 (dd : Nat)] 36) = w7 ∧ Below w6.heap.size w6 w7 ∧ RmAt w7 w6.heap.size (f : Nat) 0 0 (dd : Nat) := ⟨_, rfl, (Below.refl _ _).alloc (Nat.le_refl _) _, rm_new _ _ _ _ _⟩
      have hS7 := hS6.below hB7
      have c7 := hS7.x1
      have l7 := lt_of_cell (a := ⟨xb, 1, none⟩) c7
      have r7 := hr7.c2
      have lr := hr7.lt
      have k3 := hidden (il_rm3 hS7 hkd.out h2m.out.1 h2m.out.2 (by have := hlim.out; omega))
      replace hw7 := hidden hw7
      clear kO c5 l5 hS6 hB7 hr7 hS7
      unfold rmV
      go_upto_region 19 with fail
      rw [hw7.out]
      clear hw7
      generalize w6.heap.size = rb at *
      go_wp2_with fail
      refine (k3.out).mono ?_
      rintro ev w8 ⟨rfl, hS8⟩
      have c8 := hS8.x1
      have l8 := lt_of_cell (a := ⟨xb, 1, none⟩) c8
      have k4 := hidden (il_more hS8 hkd.out h2m.out.1 h2m.out.2 h4N.out.1 hd1 (by have := hlim.out; omega))
      clear k3 c7 l7 r7 lr hS8
      go_wp2_with fail
      refine (k4.out).mono ?_
      rintro ev w9 ⟨rfl, hS9⟩
      have c9 := hS9.x1
      have l9 := lt_of_cell (a := ⟨xb, 1, none⟩) c9
      have k5 := hidden (in_check hS9 h2m.out.1 h2m.out.2 hmN.out hd2 (by have := hlim.out; omega))
      clear k4 c8 l8 hS9
      go_wp2_with fail
      refine (k5.out).mono ?_
      rintro ev wA ⟨rfl, hSA⟩
      have kW := hidden (awake11_calls wA hSA.ground hSA.gt)
      have hbA := hidden hSA.bel
      clear k5 c9 l9 hSA
      go_wp2_with fail
      refine (kW.out).mono ?_
      rintro ev wB ⟨rfl, hBB⟩
      have hE := hidden (hbA.out.trans (hBB.mono hbA.out.size))
      clear kW hBB hbA
      go_wp2
      go_ret
      exact ⟨rfl, hE.out⟩
end Go.Proofs.YtdnkepnaaaaamaaGreatDoor
