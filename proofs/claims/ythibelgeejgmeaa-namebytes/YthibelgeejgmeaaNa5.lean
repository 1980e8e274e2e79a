/- Lists of texts held against each other; name.Parent and name.Within. -/
import Derived.Test.YthibelgeejgmeaaNa4
import Derived.Deep.CutBlock
namespace Go.Proofs.Ythibelgeejgmeaa
open Go Go.RowKit
set_option maxRecDepth 100000

theorem below_drewN (w : World) (q : Nat) : Below w.heap.size w (w.drewN q) := by
  induction q with
  | zero => exact Below.refl _ _
  | succ q ih => exact ih.drew
theorem mk_inj {x y : List UInt8} (h : mkB x = mkB y) : x = y := by rw [← mk_list x, h, mk_list]
theorem mk_beq (x y : List UInt8) : ((mkB x).toList == (mkB y).toList) = decide (x = y) := by
  rw [mk_toList, mk_toList]
  by_cases h : x = y
  · simp [h]
  · simp [h]
theorem map_mk (l : List (List UInt8)) (j : Nat) (hj : j < (l.map mkB).length) : (l.map mkB).getD j ByteArray.empty = mkB (l[j]'(by simpa using hj)) := by
  simp at hj
  simp [List.getD, hj]
theorem equal_calls (v u : Value) (l m : List (List UInt8)) (w : World) (h1 : TxtsAt w v l) (h2 : TxtsAt w u m) (hl : l.length ≤ 1000) (hm : m.length ≤ 1000) :
    Calls Try.prog 28 #[v, u] w fun e w' => e = .returned (.bool (decide (l = m))) ∧ Below w.heap.size w w' := by
  obtain ⟨a, cap, rfl, hcap, hc⟩ := h1
  obtain ⟨b, cap2, rfl, hcap2, hc2⟩ := h2
  by_cases hn : l.length = m.length
  · cases l with
    | nil =>
      cases m with
      | nil => exact (Try.slices_Equal_string_empty a b cap 0 cap2 w (by omega)).mono fun e w' ⟨he, hw⟩ => ⟨he, hw ▸ Below.refl _ _⟩
      | cons y r => simp at hn
    | cons x l =>
      cases m with
      | nil => simp at hn
      | cons y m =>
        obtain ⟨b1, o1, rfl, hb1, hx1⟩ := hc (by simp)
        obtain ⟨b2, o2, rfl, hb2, hx2⟩ := hc2 (by simp)
        have hk := Try.slices_Equal_string b1 o1 (x :: l).length cap b2 o2 (y :: m).length cap2 ((x :: l).map mkB) ((y :: m).map mkB) w (by simp) (by simp) (by omega) (by omega)
          (fun j hj => by rw [map_mk _ _ hj]; exact hx1 j _ (List.getElem?_eq_getElem _)) (fun j hj => by rw [map_mk _ _ hj]; exact hx2 j _ (List.getElem?_eq_getElem _))
        refine hk.mono fun e w' ⟨he, q, hw⟩ => ⟨?_, by rw [hw]; exact below_drewN w q⟩
        rw [he]
        have e1 : ∀ z : List (List UInt8), (z.map mkB).take z.length = z.map mkB := fun z => by rw [List.take_of_length_le (by simp)]
        rw [e1, e1]
        have e2 : ((x :: l).map mkB = (y :: m).map mkB) ↔ (x :: l = y :: m) := ⟨fun h => (List.map_inj_right (fun _ _ => mk_inj)).1 h, fun h => by rw [h]⟩
        rw [decide_eq_decide.2 e2]
  · refine (Try.slices_Equal_string_lens a b l.length cap m.length cap2 w hn).mono fun e w' ⟨he, hw⟩ => ⟨?_, hw ▸ Below.refl _ _⟩
    rw [he]
    have : ¬ l = m := fun h => hn (by rw [h])
    simp [this]
set_option maxHeartbeats 4000000 in
theorem same_calls (v u : Value) (l m : List (List UInt8)) (w : World) (h1 : TxtsAt w v l) (h2 : TxtsAt w u m) (hl : l.length ≤ 1000) (hm : m.length ≤ 1000) :
    Calls Try.prog 13 #[v, u] w fun e w' => e = .returned (.bool (decide (l = m))) ∧ Below w.heap.size w w' := by
  obtain ⟨a, cap, rfl, hcap, hc⟩ := h1
  obtain ⟨b, cap2, rfl, hcap2, hc2⟩ := h2
  replace hc := hidden hc
  replace hc2 := hidden hc2
  by_cases hn : l.length = m.length
  · have hn' : ((l.length : Int) != (m.length : Int)) = false := by simp; omega
    have hn2 := hidden hn
    clear hn
    go_enter Try.func13, Try.ntmps13
    go_wp2_with fail
    go_loopg [5] l.length (fun g i wr => ∃ k : Nat, k ≤ l.length ∧ g = l.length - k ∧ i = .int .i64 (k : Int) ∧ Below w.heap.size w wr ∧ ∀ j, j < k → l[j]? = m[j]?)
    case atStart => exact ⟨0, Nat.zero_le _, rfl, rfl, Below.refl _ _, fun j hj => by omega⟩
    case round =>
      obtain ⟨k, hk, hg, rfl, hB, hall⟩ := hrel
      replace hg := hidden hg
      replace hall := hidden hall
      have hB' := hidden hB
      by_cases hlt : k < l.length
      · have hlt2 : k < m.length := by rw [← hn2.out]; exact hlt
        obtain ⟨b1, o1, rfl, hb1, hx1⟩ := hc.out (by rintro rfl; simp at hlt)
        obtain ⟨b2, o2, rfl, hb2, hx2⟩ := hc2.out (by rintro rfl; simp at hlt2)
        have hg1 : l[k]? = some l[k] := List.getElem?_eq_getElem hlt
        have hg2 : m[k]? = some m[k] := List.getElem?_eq_getElem hlt2
        have c1 := ((hB.drew).cell (p := ⟨b1, o1 + k, none⟩) hb1).trans (hx1 k _ hg1)
        have c2 := ((hB.drew).cell (p := ⟨b2, o2 + k, none⟩) hb2).trans (hx2 k _ hg2)
        have c1' := ((hB).cell (p := ⟨b1, o1 + k, none⟩) hb1).trans (hx1 k _ hg1)
        have c2' := ((hB).cell (p := ⟨b2, o2 + k, none⟩) hb2).trans (hx2 k _ hg2)
        replace hg1 := hidden hg1
        replace hg2 := hidden hg2
        generalize l[k] = x at c1 hg1 c1'
        generalize m[k] = y at c2 hg2 c2'
        clear hc hc2 hx1 hx2 hB
        have hxy := hidden (mk_beq x y)
        have hlt' : (k : Int) < (l.length : Int) := by omega
        have hlt2' : (k : Int) < (m.length : Int) := by omega
        by_cases e : x = y
        · have hq : ((mkB x).toList == (mkB y).toList) = true := by rw [mk_beq]; simp [e]
          replace e := hidden e
          go_wp2_with fail
          go_region
          go_wp2
          go_roundg (l.length - (k + 1))
          case measure => rw [hg.out]; omega
          case rel =>
            refine ⟨k + 1, hlt, rfl, by simp, (hB'.out).drew, fun j hj => ?_⟩
            by_cases ej : j = k
            · subst ej; rw [hg1.out, hg2.out, e.out]
            · exact hall.out j (by omega)
        · have hq : ((mkB x).toList == (mkB y).toList) = false := by rw [mk_beq]; simp [e]
          replace e := hidden e
          go_wp2_with fail
          go_region
          go_wp2
          go_ret
          refine ⟨?_, (hB'.out).drew⟩
          have hne : ¬ l = m := fun h => e.out (by subst h; have := hg1.out; rw [hg2.out] at this; cases this; rfl)
          rw [show decide (l = m) = false by simp [hne]]; rfl
      · obtain rfl : k = l.length := by omega
        go_wp2
        go_ret
        refine ⟨?_, hB'.out⟩
        have he : l = m := by
          apply List.ext_getElem?
          intro j
          by_cases hj : j < l.length
          · exact hall.out j hj
          · rw [List.getElem?_eq_none (by omega), List.getElem?_eq_none (by rw [← hn2.out]; omega)]
        rw [show decide (l = m) = true by simp [he]]; rfl
  · have hn' : ((l.length : Int) != (m.length : Int)) = true := by simp; omega
    have e : decide (l = m) = false := by simp; intro h; exact hn (by rw [h])
    rw [e]; clear e hn
    go_enter Try.func13, Try.ntmps13
    go_wp2
    go_ret
    exact ⟨rfl, Below.refl _ _⟩

def namesB (p : List UInt8) : List (List UInt8) := (splitB p).getD []
def parO (p : List UInt8) : Bool := decide (namesB p ≠ [])
def parD (p : List UInt8) : List UInt8 := if namesB p = [] then [] else joinB (namesB p).dropLast
def parN (p : List UInt8) : List UInt8 := (namesB p).getLastD []
theorem names_may (p : List UInt8) : mayB (namesB p) = true := by
  unfold namesB
  cases h : splitB p with
  | none => rfl
  | some l => exact split_may h
theorem told_at {p : List UInt8} {w w' : World} {v : Value} (h : Told p w w' v) : TxtsAt w' v (namesB p) := h.1
theorem dropLast_take (l : List (List UInt8)) : l.dropLast = l.take (l.length - 1) := List.dropLast_eq_take
set_option maxHeartbeats 4000000 in
theorem parent_calls (p : List UInt8) (w : World) (hp : p.length ≤ 2000) : Calls Try.prog 11 #[.string (mkB p)] w fun e w' => e = .returned (.tuple #[.string (mkB (parD p)), .string (mkB (parN p)), .bool (parO p)]) ∧ Below w.heap.size w w' := by
  have kS := hidden (split_calls p w hp)
  have hmay := hidden (names_may p)
  go_enter Try.func11, Try.ntmps11
  go_wp2_with fail
  refine kS.out.mono ?_
  rintro e w1 ⟨v, rfl, ht⟩
  clear kS
  have hB := hidden ht.2
  have hT := hidden (told_at ht)
  clear ht
  by_cases hn : namesB p = []
  · have e1 : mkB (parD p) = ⟨#[]⟩ := by rw [parD, if_pos hn]; rfl
    have e2 : mkB (parN p) = ⟨#[]⟩ := by rw [parN, hn]; rfl
    have e3 : parO p = false := by rw [parO, hn]; rfl
    replace e1 := hidden e1
    replace e2 := hidden e2
    replace e3 := hidden e3
    obtain ⟨a, cap, rfl, -, -⟩ := hT.out
    have hl : (namesB p).length = 0 := by rw [hn]; rfl
    clear hn
    generalize (namesB p).length = n at *
    subst hl
    cases (splitB p).isSome
    · go_wp2
      go_ret3
      exact ⟨by rw [e1.out, e2.out, e3.out]; rfl, hB.out⟩
    · go_wp2
      go_ret3
      exact ⟨by rw [e1.out, e2.out, e3.out]; rfl, hB.out⟩
  · have hs : (splitB p).isSome = true := by
      cases h : splitB p with
      | none => exact absurd (by rw [namesB, h]; rfl) hn
      | some l => rfl
    rw [hs]; clear hs
    have e1 : parD p = joinR ((namesB p).take ((namesB p).length - 1)) := by rw [parD, if_neg hn, joinR, if_pos (may_take hmay.out _), dropLast_take]
    have e2 : (namesB p)[(namesB p).length - 1]? = some (parN p) := by rw [parN, List.getLastD_eq_getLast?, List.getLast?_eq_getElem?, List.getElem?_eq_getElem (by have := List.length_pos_iff.2 hn; omega)]; rfl
    have e3 : parO p = true := by simp [parO, hn]
    have h0 : 0 < (namesB p).length := List.length_pos_iff.2 hn
    have h6 := (may_all hmay.out).1
    have hT2 := hT.out
    obtain ⟨a, cap, rfl, hcap, hc⟩ := hT2
    obtain ⟨b, off, rfl, hb, hx⟩ := hc hn
    have hcell := hx _ _ e2
    have hT3 := hT.out.take ((namesB p).length - 1) (by omega)
    have em : mayB ((namesB p).take ((namesB p).length - 1)) = true := may_take hmay.out _
    have kJ := hidden (join_calls _ _ w1 hT3)
    rw [← e1, em] at kJ
    replace e1 := hidden e1
    replace e2 := hidden e2
    replace e3 := hidden e3
    clear hn hT3 hT hc hx em hmay
    generalize (namesB p).length = n at *
    obtain ⟨k, rfl⟩ : ∃ k, n = k + 1 := ⟨n - 1, by omega⟩
    rw [Nat.add_sub_cancel] at *
    have i1 : ((k : Int) + 1 - 1) = (k : Int) := by omega
    go_wp2_with fail
    refine kJ.out.mono ?_
    rintro e w2 ⟨rfl, hB2⟩
    clear kJ
    have hcell2 := ((hB2.drew).cell (p := ⟨b, off + k, none⟩) hb).trans hcell
    have hcell3 := ((hB2).cell (p := ⟨b, off + k, none⟩) hb).trans hcell
    have hBB := hidden (hB.out.trans (hB2.mono hB.out.size))
    clear hB2
    go_wp2_with fail
    go_region
    go_wp2
    go_ret3
    exact ⟨by rw [e3.out]; rfl, hBB.out.drew⟩

def withinB (p d : List UInt8) : Bool := (splitB p).isSome && (splitB d).isSome && decide ((namesB d).length ≤ (namesB p).length) && decide ((namesB p).take (namesB d).length = namesB d)
theorem within_def (p d : List UInt8) : withinB p d = ((splitB p).isSome && (splitB d).isSome && decide ((namesB d).length ≤ (namesB p).length) && decide ((namesB p).take (namesB d).length = namesB d)) := rfl
set_option maxHeartbeats 4000000 in
theorem within_calls (p d : List UInt8) (w : World) (hp : p.length ≤ 2000) (hd : d.length ≤ 2000) : Calls Try.prog 19 #[.string (mkB p), .string (mkB d)] w fun e w' => e = .returned (.bool (withinB p d)) ∧ Below w.heap.size w w' := by
  have kS := hidden (split_calls p w hp)
  have kS2 := hidden (fun w1 => split_calls d w1 hd)
  have hm1 := (may_all (names_may p)).1
  have hm2 := (may_all (names_may d)).1
  have hW := hidden (within_def p d)
  go_enter Try.func19, Try.ntmps19
  go_wp2_with fail
  refine kS.out.mono ?_
  rintro e w1 ⟨v, rfl, ht⟩
  clear kS
  go_wp2_with fail
  refine (kS2.out w1).mono ?_
  rintro e w2 ⟨u, rfl, ht2⟩
  clear kS2
  have hB := hidden (ht.2.trans (ht2.2.mono ht.2.size))
  have hT := hidden ((told_at ht).below ht2.2)
  have hT2 := hidden (told_at ht2)
  clear ht ht2
  cases h1 : (splitB p).isSome
  · rw [h1] at hW
    go_wp2
    go_ret
    exact ⟨by rw [hW.out]; rfl, hB.out⟩
  cases h2 : (splitB d).isSome
  · rw [h1, h2] at hW
    go_wp2
    go_ret
    exact ⟨by rw [hW.out]; rfl, hB.out⟩
  rw [h1, h2] at hW
  clear h1 h2
  obtain ⟨a, cap, rfl, hcap, -⟩ := hT.out
  obtain ⟨a2, cap2, rfl, -, -⟩ := hT2.out
  by_cases hle : (namesB d).length ≤ (namesB p).length
  · have hle' : ((namesB d).length : Int) ≤ ((namesB p).length : Int) := by omega
    have hc' : ((namesB d).length : Int) ≤ (cap : Int) := by omega
    have kE := hidden (equal_calls _ _ _ _ w2 (hT.out.take (namesB d).length hle) hT2.out (by rw [List.length_take]; omega) (by omega))
    rw [show decide ((namesB d).length ≤ (namesB p).length) = true by simp [hle]] at hW
    clear hle hT hT2
    generalize decide ((namesB p).take (namesB d).length = namesB d) = q at *
    generalize (namesB d).length = n at *
    generalize (namesB p).length = n2 at *
    go_wp2_with fail
    refine kE.out.mono ?_
    rintro e w3 ⟨rfl, hB3⟩
    have hBB := hidden (hB.out.trans (hB3.mono hB.out.size))
    clear kE hB3
    go_wp2
    go_ret
    exact ⟨by rw [hW.out]; rfl, hBB.out⟩
  · have hle' : ¬ ((namesB d).length : Int) ≤ ((namesB p).length : Int) := by omega
    rw [show decide ((namesB d).length ≤ (namesB p).length) = false by simp; omega] at hW
    clear hle
    generalize (namesB d).length = n at *
    generalize (namesB p).length = n2 at *
    go_wp2
    go_ret
    exact ⟨by rw [hW.out]; rfl, hB.out⟩
end Go.Proofs.Ythibelgeejgmeaa
