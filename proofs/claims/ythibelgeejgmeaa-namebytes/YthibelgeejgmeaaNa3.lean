/- name.Split parts a path as the document says. -/
import Derived.Test.YthibelgeejgmeaaNa2
namespace Go.Proofs.Ythibelgeejgmeaa
open Go Go.RowKit
set_option maxRecDepth 100000

theorem split_go (l : List (List UInt8)) (r : List UInt8) (h : ¬ l.length = 6) (hl : mayB l = true) (hok : okB (Lib.cut r [47]).1 = true) :
    mayB (l ++ [(Lib.cut r [47]).1]) = true := by
  obtain ⟨h1, h2⟩ := may_all hl
  refine may_of (by simp; omega) (fun x hx => ?_)
  rcases List.mem_append.1 hx with hx | hx
  · exact h2 x hx
  · simp at hx; rw [hx]; exact hok
theorem split_no (l : List (List UInt8)) (r : List UInt8) (h : l.length = 6 ∨ okB (Lib.cut r [47]).1 = false) : mayB (l ++ strokes r) = false := by
  rw [strokes_cut]
  cases hm : mayB (l ++ ((Lib.cut r [47]).1 :: if (Lib.cut r [47]).2.2 = true then strokes (Lib.cut r [47]).2.1 else [])) with
  | false => rfl
  | true =>
    obtain ⟨h1, h2⟩ := may_all hm
    rcases h with h | h
    · simp at h1; omega
    · have := h2 (Lib.cut r [47]).1 (by simp)
      rw [h] at this; cases this
def Told (p : List UInt8) (w w' : World) (v : Value) : Prop := TxtsAt w' v ((splitB p).getD []) ∧ Below w.heap.size w w'
set_option maxHeartbeats 4000000 in
theorem split_calls (p : List UInt8) (w : World) (hp : p.length ≤ 2000) : Calls Try.prog 12 #[.string (mkB p)] w fun e w' => ∃ v, e = .returned (.tuple #[v, .bool (splitB p).isSome]) ∧ Told p w w' v := by
  by_cases h1 : ((mkB p).toList == [47]) = true
  · have e : splitB p = some [] := by
      rw [mk_toList] at h1
      have : p = [47] := by simpa using h1
      subst this; rfl
    have ht : Told p w w (.slice none 0 0) := ⟨by rw [e]; exact TxtsAt.nil _ _ _, Below.refl _ _⟩
    rw [e]; clear e
    replace ht := hidden ht
    go_enter Try.func12, Try.ntmps12
    go_wp2
    go_ret2
    exact ⟨_, rfl, ht.out⟩
  replace h1 : ((mkB p).toList == [47]) = false := by simpa using h1
  have hn : p ≠ [47] := by rw [mk_toList] at h1; simpa using h1
  have kP := hidden (Try.strings_CutPrefix (mkB p) ⟨#[47]⟩ w)
  rw [mk_list, show (⟨#[47]⟩ : ByteArray).data.toList = [47] from rfl] at kP
  by_cases h2 : Lib.hasPrefix p [47] = true
  · obtain ⟨r, rfl⟩ : ∃ r, p = 47 :: r := by
      cases p with
      | nil => simp [Lib.hasPrefix] at h2
      | cons c r => simp [Lib.hasPrefix] at h2; exact ⟨r, by rw [h2]⟩
    have e1 : Lib.trimPrefix (47 :: r) [47] = r := by simp [Lib.trimPrefix, h2]
    rw [e1, h2] at kP
    have hs : splitB (47 :: r) = if mayB ([] ++ strokes r) = true then some ([] ++ strokes r) else none := by
      rw [splitB, if_neg hn]; simp
    have hr : r.length ≤ 2000 := by simp at hp; omega
    generalize hP : (47 : UInt8) :: r = p at *
    clear e1 h2 hn hP
    replace hs := hidden hs
    replace hr := hidden hr
    replace hp := hidden hp
    have hfold : (⟨r.toArray⟩ : ByteArray) = mkB r := rfl
    rw [hfold] at kP; clear hfold
    go_enter Try.func12, Try.ntmps12
    go_wp2_with fail
    refine kP.out.mono ?_
    rintro e w1 ⟨rfl, hw⟩
    subst w1
    clear kP h1
    go_wp2_with fail
    go_loopg [4, 6, 7] (r.length + 1) (fun g sr sl sm wr => ∃ (r' : List UInt8) (l : List (List UInt8)) (m : Bool), sr = .string (mkB r') ∧ sm = .bool m ∧ KeptT w.heap.size wr sl l ∧ Below w.heap.size w wr ∧ r'.length ≤ 2000 ∧ mayB l = true ∧ (m = true → g = r'.length + 1 ∧ splitB p = if mayB (l ++ strokes r') = true then some (l ++ strokes r') else none) ∧ (m = false → splitB p = some l))
    case atStart => exact ⟨r, [], true, rfl, rfl, KeptT.nil _ _, Below.refl _ _, hr.out, rfl, fun _ => ⟨rfl, hs.out⟩, fun h => by cases h⟩
    case round =>
      obtain ⟨r', l, m, rfl, rfl, hk, hB, hr', hl, hyes, hno⟩ := hrel
      clear hs hr
      replace hB := hidden hB
      replace hl := hidden hl
      replace hyes := hidden hyes
      replace hno := hidden hno
      cases m
      · have e := hidden (hno.out rfl)
        have ht : Told p w wr _ := ⟨by rw [e.out]; exact hk.at, hB.out⟩
        replace ht := hidden ht
        replace hk := hidden hk
        go_wp2
        go_ret2
        exact ⟨_, by rw [e.out]; rfl, ht.out⟩
      · obtain ⟨hg, hsp⟩ := hyes.out rfl
        clear hyes hno
        replace hg := hidden hg
        replace hsp := hidden hsp
        have hcl := hidden (cut_len r')
        have kC := hidden (cut_calls r' wr (by omega))
        have hgo := hidden (split_go l r')
        have hnn := hidden (split_no l r')
        have hsc := hidden (strokes_cut r')
        replace hr' := hidden hr'
        have hk2 := hidden hk
        obtain ⟨a, cap, rfl, -, -⟩ := hk.at
        clear hk
        generalize (Lib.cut r' [47]).1 = c1 at *
        generalize (Lib.cut r' [47]).2.1 = c2 at *
        generalize (Lib.cut r' [47]).2.2 = c3 at *
        go_wp2_with fail
        refine kC.out.mono ?_
        rintro e w2 ⟨rfl, hB2⟩
        clear kC
        have hB2' := hidden hB2
        by_cases h6 : l.length = 6
        · have h6' : (l.length : Int) = 6 := by omega
          have e : splitB p = none := by rw [hsp.out, hnn.out (Or.inl h6)]; rfl
          have ht : Told p w w2 (.slice none 0 0) := ⟨by rw [e]; exact TxtsAt.nil _ _ _, hB.out.trans (hB2'.out.mono hB.out.size)⟩
          replace e := hidden e
          clear hB2 h6
          replace ht := hidden ht
          go_wp2
          go_ret2
          exact ⟨_, by rw [e.out]; rfl, ht.out⟩
        · have h6' : ¬ (l.length : Int) = 6 := by omega
          have kO := hidden (ok_calls (mkB c1) w2)
          rw [mk_list] at kO
          clear hB2
          go_wp2_with fail
          refine kO.out.mono ?_
          rintro e w3 ⟨rfl, hw⟩
          subst w3
          clear kO
          cases ho : okB c1
          · have e : splitB p = none := by rw [hsp.out, hnn.out (Or.inr ho)]; rfl
            have ht : Told p w w2 (.slice none 0 0) := ⟨by rw [e]; exact TxtsAt.nil _ _ _, hB.out.trans (hB2'.out.mono hB.out.size)⟩
            replace e := hidden e
            replace ht := hidden ht
            go_wp2
            go_ret2
            exact ⟨_, by rw [e.out]; rfl, ht.out⟩
          · have kN := hidden (clone_calls c1 w2 (by have := ok_len ho; omega))
            go_wp2_with fail
            refine kN.out.mono ?_
            rintro e w4 ⟨rfl, hB4⟩
            clear kN
            have hB4' := hidden hB4
            clear hB4
            have hal := hidden ((Below.refl w4.heap.size w4).alloc (Nat.le_refl _) (.cells #[.string (mkB c1)] 9))
            have hk4 := hidden (((hk2.out.below hB2'.out).below (hB4'.out)).below hal.out)
            have hcell : (w4.alloc (.cells #[.string (mkB c1)] 9)).cell? ⟨w4.heap.size, 0, none⟩ = some (.string (mkB c1)) := by simp
            have s1 := hB.out.size
            have s2 := hB2'.out.size
            have s4 := hB4'.out.size
            have s5 := hal.out.size
            have hlm := (may_all hl.out).1
            obtain ⟨v5, w5, hrun, hk5, hB5⟩ := keptT_append hk4.out ⟨w4.heap.size, 0, none⟩ 1 c1 hcell (by omega) (by omega) 22
            replace hrun := hidden hrun
            replace hk5 := hidden hk5
            have hBB := hidden (((hB.out.trans (hB2'.out.mono s1)).trans (hB4'.out.mono (by omega))).trans ((hal.out.mono (by omega)).trans hB5))
            clear hcell s1 s2 s4 s5 hlm hB5 hal
            go_wp2_with (at_builtin; refine wpList_append_eq _ _ 22 rfl _ _ v5 w5 rfl rfl hrun.out rfl ?_)
            go_roundg (if c3 = true then c2.length + 1 else 0)
            case measure =>
              have h1 := hg.out
              have h2 := hcl.out.2.2
              split
              · rename_i h; have := h2 h; omega
              · omega
            case rel =>
              have hm := hgo.out h6 hl.out ho
              refine ⟨c2, l ++ [c1], c3, rfl, rfl, hk5.out, hBB.out, Nat.le_trans hcl.out.2.1 hr'.out, hm, fun h3 => ⟨by rw [if_pos h3], ?_⟩, fun h3 => ?_⟩
              · have h4 := hsc.out
                rw [if_pos h3] at h4
                rw [hsp.out, h4, List.append_assoc]; rfl
              · have h4 := hsc.out
                rw [if_neg (by rw [h3]; decide)] at h4
                rw [hsp.out, h4, if_pos hm]
  · replace h2 : Lib.hasPrefix p [47] = false := by simpa using h2
    have e : splitB p = none := by
      cases p with
      | nil => rfl
      | cons c r =>
        have hc : ¬ c = 47 := by rintro rfl; simp [Lib.hasPrefix] at h2
        unfold splitB
        rw [if_neg hn]
        simp only [hc, if_false]
    have ht : Told p w w (.slice none 0 0) := ⟨by rw [e]; exact TxtsAt.nil _ _ _, Below.refl _ _⟩
    replace e := hidden e
    replace ht := hidden ht
    rw [h2] at kP
    clear hn h2
    go_enter Try.func12, Try.ntmps12
    go_wp2_with fail
    refine kP.out.mono ?_
    rintro e1 w1 ⟨rfl, hw⟩
    subst w1
    go_wp2
    go_ret2
    exact ⟨_, by rw [e.out]; rfl, ht.out⟩
end Go.Proofs.Ythibelgeejgmeaa
