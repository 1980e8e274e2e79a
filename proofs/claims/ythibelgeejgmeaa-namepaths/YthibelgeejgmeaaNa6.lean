/- The document's own Split and Join: they part and put together as name's do. -/
import Derived.Test.YthibelgeejgmeaaNb0
namespace Go.Proofs.Ythibelgeejgmeaa
open Go Go.RowKit
set_option maxRecDepth 100000

theorem ext_one (p : List UInt8) (i : Nat) (c : UInt8) (h : p[i]? = some c) : (mkB p).extract i (i + 1) = mkB [c] := by
  have hl : i < p.length := (List.getElem?_eq_some_iff.1 h).1
  have e : ((mkB p).extract i (i + 1)).data.toList = [c] := by
    rw [Lib.extract_eq]
    simp only [mk_list]
    rw [List.drop_eq_getElem_cons hl]
    have : p[i] = c := (List.getElem?_eq_some_iff.1 h).2
    simp [this, show i + 1 - i = 1 by omega]
  rw [← mk_back ((mkB p).extract i (i + 1)), e]
theorem strokes_mid (u r : List UInt8) (h : (47 : UInt8) ∉ u) : strokes (u ++ 47 :: r) = u :: strokes r := by
  induction u with
  | nil => rw [List.nil_append, strokes, if_pos rfl]
  | cons c u ih =>
    have hc : c ≠ 47 := fun e => h (by simp [e])
    rw [List.cons_append, strokes, if_neg hc, ih (fun h2 => h (by simp [h2]))]
theorem strokes_end (u : List UInt8) (h : (47 : UInt8) ∉ u) : strokes u = [u] := by
  have := strokes_flat u [] h (by simp)
  simpa [flatB] using this
theorem may_snoc (l : List (List UInt8)) (u : List UInt8) (h : ¬ l.length = 6) (hl : mayB l = true) (hok : okB u = true) : mayB (l ++ [u]) = true := by
  obtain ⟨h1, h2⟩ := may_all hl
  refine may_of (by simp; omega) (fun x hx => ?_)
  rcases List.mem_append.1 hx with hx | hx
  · exact h2 x hx
  · simp at hx; rw [hx]; exact hok
theorem may_not (l : List (List UInt8)) (u : List UInt8) (r : List (List UInt8)) (h : l.length = 6 ∨ okB u = false) : mayB (l ++ u :: r) = false := by
  cases hm : mayB (l ++ u :: r) with
  | false => rfl
  | true =>
    obtain ⟨h1, h2⟩ := may_all hm
    rcases h with h | h
    · simp at h1; omega
    · have := h2 u (by simp)
      rw [h] at this; cases this
/-- What stands at the head of a round: the names so far, the bytes of the next, where it is. -/
structure Walked (p : List UInt8) (l : List (List UInt8)) (u : List UInt8) (i : Nat) : Prop where
  lo : 1 ≤ i
  hi : i ≤ p.length + 1
  len : u.length ≤ i
  no : (47 : UInt8) ∉ u
  may : mayB l = true
  mid : i ≤ p.length → splitB p = if mayB (l ++ strokes (u ++ p.drop i)) = true then some (l ++ strokes (u ++ p.drop i)) else none
  fin : i = p.length + 1 → splitB p = some l
theorem Walked.start (r : List UInt8) (h : (47 : UInt8) :: r ≠ [47]) : Walked (47 :: r) [] [] 1 := by
  refine ⟨by omega, by simp, by simp, by simp, rfl, fun _ => ?_, fun h2 => ?_⟩
  · rw [splitB, if_neg h]; rfl
  · simp at h2
theorem Walked.byte {p : List UInt8} {l : List (List UInt8)} {u : List UInt8} {i : Nat} (h : Walked p l u i) (c : UInt8) (hc : p[i]? = some c) (hn : c ≠ 47) : Walked p l (u ++ [c]) (i + 1) := by
  have hl : i < p.length := (List.getElem?_eq_some_iff.1 hc).1
  have hd : p.drop i = c :: p.drop (i + 1) := by
    rw [List.drop_eq_getElem_cons hl, (List.getElem?_eq_some_iff.1 hc).2]
  refine ⟨by omega, by omega, by have := h.len; simp; omega, ?_, h.may, fun _ => ?_, fun h2 => by omega⟩
  · intro hm
    rcases List.mem_append.1 hm with hm | hm
    · exact h.no hm
    · simp at hm; exact hn hm.symm
  · rw [h.mid (by omega), hd, List.append_assoc]; rfl
theorem Walked.stroke {p : List UInt8} {l : List (List UInt8)} {u : List UInt8} {i : Nat} (h : Walked p l u i) (hi : i ≤ p.length) (hc : i < p.length → p[i]? = some 47) (h6 : ¬ l.length = 6) (hok : okB u = true) : Walked p (l ++ [u]) [] (i + 1) := by
  have hm := may_snoc l u h6 h.may hok
  by_cases hl : i < p.length
  · have hc := hc hl
    have hd : p.drop i = 47 :: p.drop (i + 1) := by
      rw [List.drop_eq_getElem_cons hl, (List.getElem?_eq_some_iff.1 hc).2]
    refine ⟨by omega, by omega, by simp, by simp, hm, fun _ => ?_, fun h2 => by omega⟩
    rw [h.mid hi, hd, strokes_mid u _ h.no, List.nil_append, List.append_assoc]; rfl
  · obtain rfl : i = p.length := by omega
    refine ⟨by omega, by omega, by simp, by simp, hm, fun h2 => by omega, fun _ => ?_⟩
    rw [h.mid hi, List.drop_length, List.append_nil, strokes_end u h.no, if_pos hm]
theorem Walked.bad {p : List UInt8} {l : List (List UInt8)} {u : List UInt8} {i : Nat} (h : Walked p l u i) (hi : i ≤ p.length) (hc : i < p.length → p[i]? = some 47) (hb : l.length = 6 ∨ okB u = false) : splitB p = none := by
  by_cases hl : i < p.length
  · have hc := hc hl
    have hd : p.drop i = 47 :: p.drop (i + 1) := by
      rw [List.drop_eq_getElem_cons hl, (List.getElem?_eq_some_iff.1 hc).2]
    rw [h.mid hi, hd, strokes_mid u _ h.no, may_not _ _ _ hb]; rfl
  · obtain rfl : i = p.length := by omega
    rw [h.mid hi, List.drop_length, List.append_nil, strokes_end u h.no, may_not _ _ _ hb]; rfl
set_option maxHeartbeats 4000000 in
theorem rsplit_calls (p : List UInt8) (w : World) (hp : p.length ≤ 1000) : Calls Try.prog 15 #[.string (mkB p)] w fun e w' => ∃ v, e = .returned (.tuple #[v, .bool (splitB p).isSome]) ∧ Told p w w' v := by
  by_cases h1 : ((mkB p).toList == [47]) = true
  · have e : splitB p = some [] := by
      rw [mk_toList] at h1
      have : p = [47] := by simpa using h1
      subst this; rfl
    have ht : Told p w w (.slice none 0 0) := ⟨by rw [e]; exact TxtsAt.nil _ _ _, Below.refl _ _⟩
    rw [e]; clear e
    replace ht := hidden ht
    go_enter Try.func15, Try.ntmps15
    go_wp2
    go_ret2
    exact ⟨_, rfl, ht.out⟩
  replace h1 : ((mkB p).toList == [47]) = false := by simpa using h1
  have hn : p ≠ [47] := by rw [mk_toList] at h1; simpa using h1
  by_cases h2 : (mkB p).toList.isEmpty = true
  · have e : splitB p = none := by
      rw [mk_toList] at h2
      have : p = [] := by simpa using h2
      subst this; rfl
    have ht : Told p w w (.slice none 0 0) := ⟨by rw [e]; exact TxtsAt.nil _ _ _, Below.refl _ _⟩
    rw [e]; clear e
    replace ht := hidden ht
    clear hn
    go_enter Try.func15, Try.ntmps15
    go_wp2
    go_ret2
    exact ⟨_, rfl, ht.out⟩
  replace h2 : (mkB p).toList.isEmpty = false := by simpa using h2
  have hne : p ≠ [] := by rintro rfl; rw [mk_toList] at h2; simp at h2
  have hsz := mk_size p
  have h0 : 0 < (mkB p).size := by rw [hsz]; exact List.length_pos_iff.2 hne
  have hb0 := get_byte (mkB p) 0 h0
  rw [mk_list] at hb0
  by_cases h3 : (mkB p)[0]'h0 = 47
  · have h3' : ((((mkB p)[0]'h0).toNat : Int) != 47) = false := by rw [h3]; rfl
    obtain ⟨r, rfl⟩ : ∃ r, p = 47 :: r := by
      cases p with
      | nil => exact absurd rfl hne
      | cons c r => simp at hb0; exact ⟨r, by rw [hb0, h3]⟩
    have hW := hidden (Walked.start r hn)
    have h1000 : ¬ (1000 : Int) < ((mkB (47 :: r)).size : Int) := by rw [mk_size]; omega
    generalize hP : (47 : UInt8) :: r = p at *
    clear hP hb0 h3 hne hn
    have hsz' := hidden hsz
    have hp' := hidden hp
    clear hsz hp
    have kN := hidden (fun (u : List UInt8) w => (by have h := nameOk_calls (mkB u) w; rw [mk_list] at h; exact h : Calls Try.prog 18 #[.string (mkB u)] w fun e w' => e = .returned (.bool (okB u)) ∧ w' = w))
    go_enter Try.func15, Try.ntmps15
    go_wp2_with fail
    clear h1 h2 h3' h1000
    go_loopg [4, 5, 6] (p.length + 1) (fun g sl su si wr => ∃ (l : List (List UInt8)) (u : List UInt8) (i : Nat), su = .string (mkB u) ∧ si = .int .i64 (i : Int) ∧ KeptT w.heap.size wr sl l ∧ Below w.heap.size w wr ∧ Walked p l u i ∧ g = p.length + 2 - i)
    case atStart => exact ⟨[], [], 1, rfl, rfl, KeptT.nil _ _, Below.refl _ _, hW.out, rfl⟩
    case round =>
      obtain ⟨l, u, i, rfl, rfl, hk, hB, hw, hg⟩ := hrel
      clear hW
      replace hB := hidden hB
      replace hg := hidden hg
      have hlo := hw.lo
      have hhi := hw.hi
      rw [← hsz'.out] at hhi
      have hul : (mkB u).size ≤ 1001 := by rw [mk_size]; have := hw.len; have := hp'.out; have := hsz'.out; omega
      have hs1000 : (mkB p).size ≤ 1000 := by rw [hsz'.out]; exact hp'.out
      have hk2 := hidden hk
      obtain ⟨a, cap, rfl, -, -⟩ := hk.at
      clear hk
      replace hw := hidden hw
      by_cases hle : i ≤ (mkB p).size
      · have hle' : (i : Int) ≤ ((mkB p).size : Int) := by omega
        by_cases hl : i < (mkB p).size
        · have hl' : (i : Int) < ((mkB p).size : Int) := by omega
          have hb := get_byte (mkB p) i hl
          rw [mk_list] at hb
          by_cases h47 : (mkB p)[i]'hl = 47
          · have h47' : ((((mkB p)[i]'hl).toNat : Int) != 47) = false := by rw [h47]; rfl
            have hc := hidden (fun (_ : i < p.length) => by rw [hb, h47] : i < p.length → p[i]? = some 47)
            clear hb h47
            go_wp2_with fail
            refine (kN.out u wr).mono ?_
            rintro e w1 ⟨rfl, hw1⟩
            subst w1
            clear kN
            cases ho : okB u
            · have e := hidden (hw.out.bad (by rw [← hsz'.out]; exact hle) hc.out (Or.inr ho))
              have ht : Told p w wr (.slice none 0 0) := ⟨by rw [e.out]; exact TxtsAt.nil _ _ _, hB.out⟩
              replace ht := hidden ht
              go_wp2
              go_ret2
              exact ⟨_, by rw [e.out]; rfl, ht.out⟩
            · by_cases h6 : l.length = 6
              · have e := hidden (hw.out.bad (by rw [← hsz'.out]; exact hle) hc.out (Or.inl h6))
                have ht : Told p w wr (.slice none 0 0) := ⟨by rw [e.out]; exact TxtsAt.nil _ _ _, hB.out⟩
                replace ht := hidden ht
                have h6' : (l.length : Int) = 6 := by omega
                clear h6
                go_wp2
                go_ret2
                exact ⟨_, by rw [e.out]; rfl, ht.out⟩
              · have h6' : ¬ (l.length : Int) = 6 := by omega
                have hnext := hidden (hw.out.stroke (by rw [← hsz'.out]; exact hle) hc.out h6 ho)
                have hal := hidden ((Below.refl wr.heap.size wr).alloc (Nat.le_refl _) (.cells #[.string (mkB u)] 9))
                have hk4 := hidden (hk2.out.below hal.out)
                have hcell : (wr.alloc (.cells #[.string (mkB u)] 9)).cell? ⟨wr.heap.size, 0, none⟩ = some (.string (mkB u)) := by simp
                have s1 := hB.out.size
                have s5 := hal.out.size
                have hlm := (may_all hw.out.may).1
                obtain ⟨v5, w5, hrun, hk5, hB5⟩ := keptT_append hk4.out ⟨wr.heap.size, 0, none⟩ 1 u hcell (by omega) (by omega) 22
                replace hrun := hidden hrun
                replace hk5 := hidden hk5
                have hBB := hidden (hB.out.trans ((hal.out.mono (by omega)).trans hB5))
                clear hcell s1 s5 hlm hB5 hal h6
                go_wp2_with (at_builtin; refine wpList_append_eq _ _ 22 rfl _ _ v5 w5 rfl rfl hrun.out rfl ?_)
                go_roundg (p.length + 2 - (i + 1))
                case measure => rw [hg.out]; have := hsz'.out; omega
                case rel => exact ⟨l ++ [u], [], i + 1, rfl, by simp, hk5.out, hBB.out, hnext.out, rfl⟩
          · have h47' : ((((mkB p)[i]'hl).toNat : Int) != 47) = true := by
              simp
              intro e
              apply h47
              have e2 : ((mkB p)[i]'hl).toNat = 47 := by omega
              exact UInt8.toNat_inj.1 e2
            have hnext := hidden (hw.out.byte _ hb h47)
            have hex := hidden (ext_one p i _ hb)
            have hap := hidden (mk_append u [(mkB p)[i]'hl])
            have hes : ((mkB p).extract i (i + 1)).size = 1 := by rw [hex.out]; rfl
            clear hb h47
            go_wp2
            go_roundg (p.length + 2 - (i + 1))
            case measure => rw [hg.out]; have := hsz'.out; omega
            case rel => exact ⟨l, u ++ [(mkB p)[i]'hl], i + 1, by rw [← hap.out, ← hex.out], by simp, hk2.out, hB.out, hnext.out, rfl⟩
        · have hl' : ¬ (i : Int) < ((mkB p).size : Int) := by omega
          have hc := hidden (fun (h : i < p.length) => absurd (by rw [hsz'.out]; exact h) hl : i < p.length → p[i]? = some 47)
          go_wp2_with fail
          refine (kN.out u wr).mono ?_
          rintro e w1 ⟨rfl, hw1⟩
          subst w1
          clear kN
          cases ho : okB u
          · have e := hidden (hw.out.bad (by rw [← hsz'.out]; exact hle) hc.out (Or.inr ho))
            have ht : Told p w wr (.slice none 0 0) := ⟨by rw [e.out]; exact TxtsAt.nil _ _ _, hB.out⟩
            replace ht := hidden ht
            go_wp2
            go_ret2
            exact ⟨_, by rw [e.out]; rfl, ht.out⟩
          · by_cases h6 : l.length = 6
            · have e := hidden (hw.out.bad (by rw [← hsz'.out]; exact hle) hc.out (Or.inl h6))
              have ht : Told p w wr (.slice none 0 0) := ⟨by rw [e.out]; exact TxtsAt.nil _ _ _, hB.out⟩
              replace ht := hidden ht
              have h6' : (l.length : Int) = 6 := by omega
              clear h6
              go_wp2
              go_ret2
              exact ⟨_, by rw [e.out]; rfl, ht.out⟩
            · have h6' : ¬ (l.length : Int) = 6 := by omega
              have hnext := hidden (hw.out.stroke (by rw [← hsz'.out]; exact hle) hc.out h6 ho)
              have hal := hidden ((Below.refl wr.heap.size wr).alloc (Nat.le_refl _) (.cells #[.string (mkB u)] 9))
              have hk4 := hidden (hk2.out.below hal.out)
              have hcell : (wr.alloc (.cells #[.string (mkB u)] 9)).cell? ⟨wr.heap.size, 0, none⟩ = some (.string (mkB u)) := by simp
              have s1 := hB.out.size
              have s5 := hal.out.size
              have hlm := (may_all hw.out.may).1
              obtain ⟨v5, w5, hrun, hk5, hB5⟩ := keptT_append hk4.out ⟨wr.heap.size, 0, none⟩ 1 u hcell (by omega) (by omega) 22
              replace hrun := hidden hrun
              replace hk5 := hidden hk5
              have hBB := hidden (hB.out.trans ((hal.out.mono (by omega)).trans hB5))
              clear hcell s1 s5 hlm hB5 hal h6
              go_wp2_with (at_builtin; refine wpList_append_eq _ _ 22 rfl _ _ v5 w5 rfl rfl hrun.out rfl ?_)
              go_roundg (p.length + 2 - (i + 1))
              case measure => rw [hg.out]; have := hsz'.out; omega
              case rel => exact ⟨l ++ [u], [], i + 1, rfl, by simp, hk5.out, hBB.out, hnext.out, rfl⟩
      · obtain rfl : i = (mkB p).size + 1 := by omega
        have hle' : ¬ (((mkB p).size + 1 : Nat) : Int) ≤ ((mkB p).size : Int) := by omega
        have e := hidden (hw.out.fin (by rw [hsz'.out]))
        have ht : Told p w wr _ := ⟨by rw [e.out]; exact hk2.out.at, hB.out⟩
        replace ht := hidden ht
        go_wp2
        go_ret2
        exact ⟨_, by rw [e.out]; rfl, ht.out⟩
  · have h3' : ((((mkB p)[0]'h0).toNat : Int) != 47) = true := by
      simp
      intro e
      apply h3
      have e2 : ((mkB p)[0]'h0).toNat = 47 := by omega
      exact UInt8.toNat_inj.1 e2
    have e : splitB p = none := by
      cases p with
      | nil => exact absurd rfl hne
      | cons c r =>
        have hc : ¬ c = 47 := by simp at hb0; rw [hb0]; exact h3
        unfold splitB
        rw [if_neg hn]
        simp only [hc, if_false]
    have ht : Told p w w (.slice none 0 0) := ⟨by rw [e]; exact TxtsAt.nil _ _ _, Below.refl _ _⟩
    replace e := hidden e
    replace ht := hidden ht
    clear hn hne hb0 h3 hsz
    go_enter Try.func15, Try.ntmps15
    go_wp2
    go_ret2
    exact ⟨_, by rw [e.out]; rfl, ht.out⟩
end Go.Proofs.Ythibelgeejgmeaa
