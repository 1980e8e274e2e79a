/- The document's own Join, Parent and Within. -/
import Derived.Test.YthibelgeejgmeaaNa6
namespace Go.Proofs.Ythibelgeejgmeaa
open Go Go.RowKit
set_option maxRecDepth 100000

theorem flat_succ (l : List (List UInt8)) (k : Nat) (x : List UInt8) (h : l[k]? = some x) : flatB (l.take (k + 1)) = flatB (l.take k) ++ [47] ++ x := by
  have hl : k < l.length := (List.getElem?_eq_some_iff.1 h).1
  rw [List.take_succ_eq_append_getElem hl, (List.getElem?_eq_some_iff.1 h).2]
  simp [flatB]
theorem flat_nil (l : List (List UInt8)) (h : flatB l = []) : l = [] := by
  cases l with
  | nil => rfl
  | cons x l => simp [flatB] at h
set_option maxHeartbeats 4000000 in
theorem rjoin_calls (v : Value) (l : List (List UInt8)) (w : World) (h : TxtsAt w v l) : Calls Try.prog 21 #[v] w fun e w' => e = .returned (.tuple #[.string (mkB (joinR l)), .bool (mayB l)]) ∧ w' = w := by
  have hh := hidden h
  obtain ⟨a, cap, rfl, hcap, hc⟩ := h
  replace hc := hidden hc
  by_cases h6 : 6 < l.length
  · have h6' : (6 : Int) < (l.length : Int) := by omega
    have e : mayB l = false := by unfold mayB; rw [show decide (l.length ≤ 6) = false by simp; omega]; rfl
    have e2 : mkB (joinR l) = ⟨#[]⟩ := by rw [joinR, e]; rfl
    rw [e2, e]; clear e e2 h6
    go_enter Try.func21, Try.ntmps21
    go_wp2
    go_ret2
    exact ⟨rfl, rfl⟩
  have h6' : ¬ (6 : Int) < (l.length : Int) := by omega
  have hmt : (⟨#[]⟩ : ByteArray) = mkB [] := rfl
  go_enter Try.func21, Try.ntmps21
  go_wp2_with fail
  go_loopg [4, 5] l.length (fun g s i wr => ∃ k : Nat, k ≤ l.length ∧ g = l.length - k ∧ i = .int .i64 (k : Int) ∧ wr = w ∧ s = .string (mkB (flatB (l.take k))) ∧ ∀ x ∈ l.take k, okB x = true)
  case atStart => exact ⟨0, Nat.zero_le _, rfl, rfl, rfl, rfl, fun x hx => by simp at hx⟩
  case round =>
    obtain ⟨k, hk, hg, rfl, hw, rfl, hall⟩ := hrel
    subst wr
    clear hmt
    replace hg := hidden hg
    replace hall := hidden hall
    have hfl : (mkB (flatB (l.take k))).size ≤ 200 := by
      rw [mk_size]; have := (flat_len _ hall.out).1; rw [List.length_take] at this; omega
    by_cases hlt : k < l.length
    · obtain ⟨b, off, rfl, hb, hx⟩ := hc.out (by rintro rfl; simp at hlt)
      have hgx : l[k]? = some l[k] := List.getElem?_eq_getElem hlt
      have hcell := hx k _ hgx
      have hfs := hidden (flat_succ l k _ hgx)
      replace hx := hidden hx
      replace hgx := hidden hgx
      generalize l[k] = x at hcell hgx hfs
      have kO := hidden (nameOk_calls (mkB x) w)
      rw [mk_list] at kO
      clear hc
      go_wp2_with fail
      refine kO.out.mono ?_
      rintro e w3 ⟨rfl, hw⟩
      subst w3
      clear kO
      cases ho : okB x
      · have e : mayB l = false := by
          cases hm : mayB l with
          | false => rfl
          | true => have := (may_all hm).2 x (List.mem_of_getElem? hgx.out); rw [ho] at this; cases this
        have e2 : mkB (joinR l) = ⟨#[]⟩ := by rw [joinR, e]; rfl
        replace e := hidden e
        replace e2 := hidden e2
        go_wp2
        go_ret2
        exact ⟨by rw [e.out, e2.out]; rfl, rfl⟩
      · have hxs : (mkB x).size ≤ 27 := by rw [mk_size]; exact (ok_len ho).2
        have hq : mkB (flatB (l.take k)) ++ ⟨#[47]⟩ ++ mkB x = mkB (flatB (l.take (k + 1))) := by rw [hfs.out, mk_stroke, mk_append, mk_append]
        replace hq := hidden hq
        go_wp2
        go_roundg (l.length - (k + 1))
        case measure => rw [hg.out]; omega
        case rel =>
          refine ⟨k + 1, hlt, rfl, by simp, rfl, by rw [hq.out], fun y hy => ?_⟩
          rw [List.take_succ_eq_append_getElem hlt] at hy
          rcases List.mem_append.1 hy with hy | hy
          · exact hall.out y hy
          · simp at hy; rw [hy]
            have := hgx.out; rw [List.getElem?_eq_getElem hlt] at this; cases this; exact ho
    · obtain rfl : k = l.length := by omega
      rw [List.take_length] at *
      have hm : mayB l = true := may_of (by omega) (fun x hx => hall.out x hx)
      by_cases hn : l = []
      · have e : mkB (joinR l) = ⟨#[47]⟩ := by rw [hn]; rfl
        have hem : ((mkB (flatB l)).toList.isEmpty) = true := by rw [mk_toList, hn]; rfl
        replace e := hidden e
        replace hm := hidden hm
        clear hn
        go_wp2
        go_ret2
        exact ⟨by rw [hm.out, e.out]; rfl, rfl⟩
      · have e : joinR l = flatB l := by rw [joinR, if_pos hm, joinB, if_neg hn]
        have hem : ((mkB (flatB l)).toList.isEmpty) = false := by
          rw [mk_toList]
          cases hf : flatB l with
          | nil => exact absurd (flat_nil l hf) hn
          | cons c r => rfl
        replace e := hidden e
        replace hm := hidden hm
        clear hn
        go_wp2
        go_ret2
        exact ⟨by rw [hm.out, e.out]; rfl, rfl⟩
set_option maxHeartbeats 4000000 in
theorem rparent_calls (p : List UInt8) (w : World) (hp : p.length ≤ 1000) : Calls Try.prog 16 #[.string (mkB p)] w fun e w' => e = .returned (.tuple #[.string (mkB (parD p)), .string (mkB (parN p)), .bool (parO p)]) ∧ Below w.heap.size w w' := by
  have kS := hidden (rsplit_calls p w hp)
  have hmay := hidden (names_may p)
  go_enter Try.func16, Try.ntmps16
  go_wp2_with fail
  refine kS.out.mono ?_
  rintro e w1 ⟨v, rfl, ht⟩
  clear kS
  have hB := hidden ht.2
  have hT := hidden (told_at ht)
  clear ht
  by_cases hn : namesB p = []
  · have e1 : mkB (parD p) = ⟨#[]⟩ := by rw [parD, if_pos hn]; rfl
    have e2 : mkB (parN p) = ⟨#[]⟩ := by rw [parN, hn]; rfl
    have e3 : parO p = false := by rw [parO, hn]; rfl
    replace e1 := hidden e1
    replace e2 := hidden e2
    replace e3 := hidden e3
    obtain ⟨a, cap, rfl, -, -⟩ := hT.out
    have hl : (namesB p).length = 0 := by rw [hn]; rfl
    clear hn
    generalize (namesB p).length = n at *
    subst hl
    cases (splitB p).isSome
    · go_wp2
      go_ret3
      exact ⟨by rw [e1.out, e2.out, e3.out]; rfl, hB.out⟩
    · go_wp2
      go_ret3
      exact ⟨by rw [e1.out, e2.out, e3.out]; rfl, hB.out⟩
  · have hs : (splitB p).isSome = true := by
      cases h : splitB p with
      | none => exact absurd (by rw [namesB, h]; rfl) hn
      | some l => rfl
    rw [hs]; clear hs
    have e1 : parD p = joinR ((namesB p).take ((namesB p).length - 1)) := by rw [parD, if_neg hn, joinR, if_pos (may_take hmay.out _), dropLast_take]
    have e2 : (namesB p)[(namesB p).length - 1]? = some (parN p) := by rw [parN, List.getLastD_eq_getLast?, List.getLast?_eq_getElem?, List.getElem?_eq_getElem (by have := List.length_pos_iff.2 hn; omega)]; rfl
    have e3 : parO p = true := by simp [parO, hn]
    have h0 : 0 < (namesB p).length := List.length_pos_iff.2 hn
    have h6 := (may_all hmay.out).1
    have hT2 := hT.out
    obtain ⟨a, cap, rfl, hcap, hc⟩ := hT2
    obtain ⟨b, off, rfl, hb, hx⟩ := hc hn
    have hcell := hx _ _ e2
    have hT3 := hT.out.take ((namesB p).length - 1) (by omega)
    have em : mayB ((namesB p).take ((namesB p).length - 1)) = true := may_take hmay.out _
    have kJ := hidden (rjoin_calls _ _ w1 hT3)
    rw [← e1, em] at kJ
    replace e1 := hidden e1
    replace e2 := hidden e2
    replace e3 := hidden e3
    clear hn hT3 hT hc hx em hmay
    generalize (namesB p).length = n at *
    obtain ⟨k, rfl⟩ : ∃ k, n = k + 1 := ⟨n - 1, by omega⟩
    rw [Nat.add_sub_cancel] at *
    have i1 : ((k : Int) + 1 - 1) = (k : Int) := by omega
    go_wp2_with fail
    refine kJ.out.mono ?_
    rintro e w2 ⟨rfl, hw2⟩
    subst w2
    clear kJ
    have hcell2 : w1.drew.cell? ⟨b, off + k, none⟩ = _ := hcell
    have hBB := hB
    go_wp2_with fail
    go_region
    go_wp2
    go_ret3
    exact ⟨by rw [e3.out]; rfl, hBB.out.drew⟩
set_option maxHeartbeats 4000000 in
theorem rwithin_calls (p d : List UInt8) (w : World) (hp : p.length ≤ 1000) (hd : d.length ≤ 1000) : Calls Try.prog 20 #[.string (mkB p), .string (mkB d)] w fun e w' => e = .returned (.bool (withinB p d)) ∧ Below w.heap.size w w' := by
  have kS := hidden (rsplit_calls p w hp)
  have kS2 := hidden (fun w1 => rsplit_calls d w1 hd)
  have hm1 := (may_all (names_may p)).1
  have hm2 := (may_all (names_may d)).1
  have hW := hidden (within_def p d)
  go_enter Try.func20, Try.ntmps20
  go_wp2_with fail
  refine kS.out.mono ?_
  rintro e w1 ⟨v, rfl, ht⟩
  clear kS
  go_wp2_with fail
  refine (kS2.out w1).mono ?_
  rintro e w2 ⟨u, rfl, ht2⟩
  clear kS2
  have hB := hidden (ht.2.trans (ht2.2.mono ht.2.size))
  have hT := hidden ((told_at ht).below ht2.2)
  have hT2 := hidden (told_at ht2)
  clear ht ht2
  cases h1 : (splitB p).isSome
  · rw [h1] at hW
    go_wp2
    go_ret
    exact ⟨by rw [hW.out]; rfl, hB.out⟩
  cases h2 : (splitB d).isSome
  · rw [h1, h2] at hW
    go_wp2
    go_ret
    exact ⟨by rw [hW.out]; rfl, hB.out⟩
  rw [h1, h2] at hW
  clear h1 h2
  obtain ⟨a, cap, rfl, hcap, hc⟩ := hT.out
  obtain ⟨a2, cap2, rfl, hcap2, hc2⟩ := hT2.out
  clear hT hT2
  replace hc := hidden hc
  replace hc2 := hidden hc2
  by_cases hle : (namesB d).length ≤ (namesB p).length
  · have hle' : ¬ ((namesB p).length : Int) < ((namesB d).length : Int) := by omega
    rw [show decide ((namesB d).length ≤ (namesB p).length) = true by simp [hle]] at hW
    have hle2 := hidden hle
    clear hle
    generalize namesB d = m at *
    generalize namesB p = l at *
    go_wp2_with fail
    go_loopg [9] m.length (fun g i wr => ∃ k : Nat, k ≤ m.length ∧ g = m.length - k ∧ i = .int .i64 (k : Int) ∧ Below w2.heap.size w2 wr ∧ ∀ j, j < k → l[j]? = m[j]?)
    case atStart => exact ⟨0, Nat.zero_le _, rfl, rfl, Below.refl _ _, fun j hj => by omega⟩
    case round =>
      obtain ⟨k, hk, hg, rfl, hBr, hall⟩ := hrel
      replace hg := hidden hg
      replace hall := hidden hall
      have hB' := hidden (hB.out.trans (hBr.mono hB.out.size))
      have hBr' := hidden hBr
      by_cases hlt2 : k < m.length
      · have hlt : k < l.length := Nat.lt_of_lt_of_le hlt2 hle2.out
        obtain ⟨b1, o1, rfl, hb1, hx1⟩ := hc.out (by rintro rfl; simp at hlt)
        obtain ⟨b2, o2, rfl, hb2, hx2⟩ := hc2.out (by rintro rfl; simp at hlt2)
        have hg1 : l[k]? = some l[k] := List.getElem?_eq_getElem hlt
        have hg2 : m[k]? = some m[k] := List.getElem?_eq_getElem hlt2
        have c1 := ((hBr.drew).cell (p := ⟨b1, o1 + k, none⟩) hb1).trans (hx1 k _ hg1)
        have c2 := ((hBr.drew).cell (p := ⟨b2, o2 + k, none⟩) hb2).trans (hx2 k _ hg2)
        have c1' := ((hBr).cell (p := ⟨b1, o1 + k, none⟩) hb1).trans (hx1 k _ hg1)
        have c2' := ((hBr).cell (p := ⟨b2, o2 + k, none⟩) hb2).trans (hx2 k _ hg2)
        replace hg1 := hidden hg1
        replace hg2 := hidden hg2
        generalize l[k] = x at c1 hg1 c1'
        generalize m[k] = y at c2 hg2 c2'
        clear hc hc2 hx1 hx2 hBr
        have hlt' : (k : Int) < (l.length : Int) := by omega
        have hlt2' : (k : Int) < (m.length : Int) := by omega
        by_cases e : x = y
        · have hq : ((mkB x).toList == (mkB y).toList) = true := by rw [mk_beq]; simp [e]
          replace e := hidden e
          go_wp2_with fail
          go_region
          go_wp2
          go_roundg (m.length - (k + 1))
          case measure => rw [hg.out]; omega
          case rel =>
            refine ⟨k + 1, hlt2, rfl, by simp, (hBr'.out).drew, fun j hj => ?_⟩
            by_cases ej : j = k
            · subst ej; rw [hg1.out, hg2.out, e.out]
            · exact hall.out j (by omega)
        · have hq : ((mkB x).toList == (mkB y).toList) = false := by rw [mk_beq]; simp [e]
          replace e := hidden e
          go_wp2_with fail
          go_region
          go_wp2
          go_ret
          refine ⟨?_, (hB'.out).drew⟩
          have hne : ¬ l.take m.length = m := fun h => e.out (by
            have h3 := hg2.out
            rw [← h, List.getElem?_take, if_pos hlt2, hg1.out] at h3
            cases h3; rfl)
          rw [hW.out, show decide (l.take m.length = m) = false by simp [hne]]; rfl
      · obtain rfl : k = m.length := by omega
        go_wp2
        go_ret
        refine ⟨?_, hB'.out⟩
        have he : l.take m.length = m := by
          apply List.ext_getElem?
          intro j
          by_cases hj : j < m.length
          · rw [List.getElem?_take, if_pos hj]; exact hall.out j hj
          · rw [List.getElem?_eq_none (by rw [List.length_take]; omega), List.getElem?_eq_none (by omega)]
        rw [hW.out, show decide (l.take m.length = m) = true by simp [he]]; rfl
  · have hle' : ((namesB p).length : Int) < ((namesB d).length : Int) := by omega
    rw [show decide ((namesB d).length ≤ (namesB p).length) = false by simp; omega] at hW
    clear hle
    generalize (namesB d).length = n at *
    generalize (namesB p).length = n2 at *
    go_wp2
    go_ret
    exact ⟨by rw [hW.out]; rfl, hB.out⟩
end Go.Proofs.Ythibelgeejgmeaa
