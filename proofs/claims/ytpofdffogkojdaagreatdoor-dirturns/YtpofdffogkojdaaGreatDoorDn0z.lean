/- The names that the statements of layer 10 put; what a Drop leaves. -/
import Derived.Test.YtpofdffogkojdaaGreatDoorGDf
import Derived.Test.YtpofdffogkojdaaGreatDoorGIj
namespace Go.Proofs.YtpofdffogkojdaaGreatDoor
open Go.RowKit Go.Extern.Stop Go.Stop Go.Extern Go.Maps Go.Sort Go.Shelf
set_option maxRecDepth 100000

/-- A letter and a number behind it. -/
def nmP (c : UInt8) (i : Nat) : List UInt8 := c :: Lib.itoa (i : Int)
theorem nm_join (c : UInt8) (i : Nat) : (⟨#[c]⟩ : ByteArray) ++ itoaB (i : Int) = mkB (nmP c i) := by
  apply ByteArray.ext
  apply Array.toList_inj.1
  rw [ByteArray.data_append, Array.toList_append]
  simp [mkB, nmP]
def valD (l : List UInt8) : Nat := l.foldl (fun a c => a * 10 + (c.toNat - 48)) 0
theorem val_fin : ∀ i : Fin 128, valD (Lib.itoa ((i.val : Nat) : Int)) = i.val := by decide +kernel
theorem ok_fin : ∀ i : Fin 128, okB (nmP 102 i.val) = true ∧ okB (nmP 110 i.val) = true := by decide +kernel
theorem size_fin : ∀ i : Fin 128, (Lib.itoa ((i.val : Nat) : Int)).length ≤ 20 := by decide +kernel
theorem nm_inj {c : UInt8} {i j : Nat} (hi : i < 128) (hj : j < 128) (h : nmP c i = nmP c j) : i = j := by
  have h2 := congrArg valD (List.cons.inj h).2
  rw [val_fin ⟨i, hi⟩, val_fin ⟨j, hj⟩] at h2
  exact h2
theorem nm_size {i : Nat} (hi : i < 128) : (itoaB (i : Int)).size ≤ 20 := by
  have := size_fin ⟨i, hi⟩
  simpa [itoaB, ByteArray.size] using this
/-- The first k of them, with the ids from 1 on. -/
def rowP (c : UInt8) (k : Nat) : List Rec := (List.range k).map fun i => ⟨nmP c i, i + 1⟩
theorem rowP_len (c : UInt8) (k : Nat) : (rowP c k).length = k := by simp [rowP]
theorem rowP_get (c : UInt8) {k i : Nat} (h : i < k) : (rowP c k)[i]? = some ⟨nmP c i, i + 1⟩ := by simp [rowP, h]
theorem rowP_succ (c : UInt8) (k : Nat) : rowP c (k + 1) = rowP c k ++ [⟨nmP c k, k + 1⟩] := by simp [rowP, List.range_succ]
theorem rowP_no {c : UInt8} {k i : Nat} (hk : k ≤ i) (hi : i < 128) : ∀ r ∈ rowP c k, r.s ≠ nmP c i := by
  intro r hr e
  obtain ⟨j, hj, rfl⟩ := List.mem_map.1 hr
  have hj' := List.mem_range.1 hj
  have := nm_inj (c := c) (i := j) (j := i) (by omega) hi e
  omega
theorem rowP_head {c : UInt8} {k : Nat} : ∀ r ∈ rowP c k, r.s.head? = some c := by
  intro r hr
  obtain ⟨j, -, rfl⟩ := List.mem_map.1 hr
  rfl
theorem mem_dropR {L : List Rec} {i : Nat} {r q : Rec} (h : (L.map Rec.s).Nodup) (hr : L[i]? = some r) : q ∈ dropR L i ↔ q ∈ L ∧ q.s ≠ r.s := by
  obtain ⟨hi, er⟩ := List.getElem?_eq_some_iff.1 hr
  obtain ⟨m, hm⟩ : ∃ m, L.length = m + 1 := ⟨L.length - 1, by omega⟩
  obtain ⟨x, hx⟩ : ∃ x, L[m]? = some x := ⟨_, List.getElem?_eq_getElem (by omega)⟩
  have key : ∀ {a b : Nat} {y z : Rec}, L[a]? = some y → L[b]? = some z → a ≠ b → y.s ≠ z.s := fun {a b y z} ha hb hne e => by
    obtain ⟨h1, e1⟩ := List.getElem?_eq_some_iff.1 ha
    obtain ⟨h2, e2⟩ := List.getElem?_eq_some_iff.1 hb
    rcases Nat.lt_or_gt_of_ne hne with hl | hl
    · have hn := List.pairwise_iff_getElem.1 h a b (by simpa using h1) (by simpa using h2) hl
      rw [List.getElem_map, List.getElem_map, e1, e2] at hn
      exact hn e
    · have hn := List.pairwise_iff_getElem.1 h b a (by simpa using h2) (by simpa using h1) hl
      rw [List.getElem_map, List.getElem_map, e1, e2] at hn
      exact hn e.symm
  have hd := dropR_get (i := i) (show L[L.length - 1]? = some x by rw [hm]; exact hx)
  rw [hm, show m + 1 - 1 = m by omega] at hd
  rw [hd]
  constructor
  · intro hq
    obtain ⟨a, ha⟩ := List.getElem?_of_mem hq
    rw [List.getElem?_take] at ha
    split at ha
    · rename_i ham
      rw [List.getElem?_set] at ha
      split at ha
      · rename_i hia
        cases ha
        exact ⟨List.mem_of_getElem? hx, key hx hr (by omega)⟩
      · rename_i hia
        exact ⟨List.mem_of_getElem? ha, key ha hr (fun e => hia e.symm)⟩
    · cases ha
  · rintro ⟨hq, hne⟩
    obtain ⟨a, ha⟩ := List.getElem?_of_mem hq
    have hai : a ≠ i := fun e => by
      subst e
      rw [ha] at hr
      cases hr
      exact hne rfl
    have hal := (List.getElem?_eq_some_iff.1 ha).1
    rcases Nat.lt_or_ge a m with hlt | hge
    · refine List.mem_of_getElem? (i := a) ?_
      rw [List.getElem?_take, if_pos hlt, List.getElem?_set_ne (by omega)]
      exact ha
    · have : a = m := by omega
      subst this
      rw [hx] at ha
      cases ha
      refine List.mem_of_getElem? (i := i) ?_
      rw [List.getElem?_take, if_pos (by omega), List.getElem?_set_self (by omega)]
theorem dPut_many {E : TE} {db : Nat} {L : List Rec} {w : World} (h : DL E db L w) (e : EOk E) (s : List UInt8) (id : Nat) (hs : okB s = true) (h1 : 1 ≤ id) (h2 : id ≤ 200) (hno : ∀ r ∈ L, r.s ≠ s) (hl : 120 ≤ L.length) :
    Calls Tryz.prog 25 #[ptr db, .string (mkB s), .int .i64 (id : Nat)] w fun e w' => ∃ b, e = .returned (flt b) ∧ Chain w' [(sDir, mkB s)] (num 65) (flt b) ∧ Below w.heap.size w w' := by
  refine dPut_err ((dput_any h e s id hs h1 h2).mono ?_)
  rintro ev w' (⟨⟨r, hr, hrs⟩, -⟩ | ⟨-, -, rfl, hB⟩ | ⟨-, hlt, -⟩)
  · exact absurd hrs (hno r hr)
  · exact ⟨rfl, hB⟩
  · exact absurd hlt (by omega)
end Go.Proofs.YtpofdffogkojdaaGreatDoor
