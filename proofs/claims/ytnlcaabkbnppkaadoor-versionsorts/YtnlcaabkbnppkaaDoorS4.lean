/- slices.insertionSortCmpFunc at texts, by version.Compare. -/
import Derived.Test.YtnlcaabkbnppkaaDoorS3
namespace Go.Proofs.YtnlcaabkbnppkaaDoor
open Go Go.RowKit
set_option maxRecDepth 100000

theorem txt_app (a b : List TT) : txt (a ++ b) = txt a ++ txt b := by unfold txt; exact List.map_append
theorem txt_len (a : List TT) : (txt a).length = a.length := by unfold txt; exact List.length_map _
/-- A text goes one place down. -/
theorem step_down (P M1 : List TT) (y x : TT) (M2 R : List TT) (j : Nat) (hj : j = P.length + M1.length) :
    (txt (P ++ ((M1 ++ [y]) ++ (x :: (M2 ++ R)))))[j]? = some y.1 ∧ (txt (P ++ ((M1 ++ [y]) ++ (x :: (M2 ++ R)))))[j + 1]? = some x.1 ∧
    ((txt (P ++ ((M1 ++ [y]) ++ (x :: (M2 ++ R))))).set (j + 1) y.1).set j x.1 = txt (P ++ (M1 ++ (x :: ((y :: M2) ++ R)))) ∧
    ((txt (P ++ ((M1 ++ [y]) ++ (x :: (M2 ++ R))))).set j x.1).set (j + 1) y.1 = txt (P ++ (M1 ++ (x :: ((y :: M2) ++ R)))) := by
  have e1 : txt (P ++ ((M1 ++ [y]) ++ (x :: (M2 ++ R)))) = txt (P ++ M1) ++ y.1 :: ([] ++ x.1 :: txt (M2 ++ R)) := by
    simp [txt]
  have e2 : txt (P ++ (M1 ++ (x :: ((y :: M2) ++ R)))) = txt (P ++ M1) ++ x.1 :: ([] ++ y.1 :: txt (M2 ++ R)) := by
    simp [txt]
  obtain ⟨h1, h2, h3, h4⟩ := swap_two (txt (P ++ M1)) y.1 [] x.1 (txt (M2 ++ R)) j (j + 1) (by rw [txt_len, List.length_append]; exact hj) (by rw [txt_len, List.length_append]; simp; omega)
  rw [e1, e2]
  exact ⟨h1, h2, h4, h3⟩
set_option maxHeartbeats 16000000 in
theorem insertion_calls (b n A0 B0 : Nat) (P A S : List TT) (hA : A0 = P.length) (hB : B0 = P.length + A.length) (hn : n = P.length + A.length + S.length) (hs : n ≤ 1000) (hbig : ∀ t ∈ A, t.1.length ≤ 1000000) (hT : A.Pairwise (fun y z => y.2 < z.2)) (w : World) (h : TRow w b (txt (P ++ (A ++ S)))) :
    Calls Tryd.prog 27 #[.slice (some ⟨b, 0, none⟩) n n, .int .i64 (A0 : Int), .int .i64 (B0 : Int), cmpF] w fun e w' => e = .returned (.tuple #[]) ∧ (∃ M : List TT, M.Perm A ∧ Srt M ∧ TRow w' b (txt (P ++ (M ++ S)))) ∧ Apart [b] w w' := by
  have hlow := hidden (fun (k : Nat) (x : TT) (hx : A[k]? = some x) => (show ∀ z ∈ A.take k, z.2 < x.2 by
    intro z hz
    have h1 : (A.take k ++ A.drop k).Pairwise (fun y z => y.2 < z.2) := by rw [List.take_append_drop]; exact hT
    rw [List.pairwise_append] at h1
    obtain ⟨hk, rfl⟩ := List.getElem?_eq_some_iff.1 hx
    exact h1.2.2 z hz _ (by rw [List.drop_eq_getElem_cons hk]; exact List.mem_cons_self)))
  have hst := hidden (show TRow w b (txt (P ++ (A.take 1 ++ (A.drop 1 ++ S)))) by rw [← List.append_assoc (A.take 1), List.take_append_drop]; exact h)
  have hs1 := hidden (show Srt (A.take 1) by
    cases A with
    | nil => simp [Srt]
    | cons a r => simp [Srt])
  have hnA := hidden (show A0 + A.length ≤ n ∧ B0 ≤ n ∧ B0 = A0 + A.length from ⟨by omega, by omega, by omega⟩)
  have hAP := hidden hA
  replace hbig := hidden hbig
  have hA1 : A0 ≤ 1000 := by omega
  have hB1 : B0 ≤ 1000 := by omega
  clear h hT hA hB hn
  go_enter Tryd.func27, Tryd.ntmps27
  go_wp2_with fail
  go_loopg [8] A.length (fun g si wr => ∃ (k : Nat) (M : List TT), g = A.length + 1 - k ∧ 1 ≤ k ∧ k ≤ 1001 ∧ si = .int .i64 ((A0 : Int) + (k : Int)) ∧ Hid (M.Perm (A.take k) ∧ Srt M ∧ TRow wr b (txt (P ++ (M ++ (A.drop k ++ S)))) ∧ Apart [b] w wr))
  case atStart => exact ⟨1, A.take 1, rfl, Nat.le_refl _, by omega, rfl, hidden ⟨List.Perm.refl _, hs1.out, hst.out, Apart.refl _ _⟩⟩
  case round =>
    clear hst hs1
    obtain ⟨k, M, hg, hk1, hk2, rfl, hI⟩ := hrel
    obtain ⟨hP, hS, hR, hAp⟩ := hI.out
    replace hg := hidden hg
    have hn3 := hnA.out
    by_cases hlt : k < A.length
    · have hltI : (A0 : Int) + (k : Int) < (B0 : Int) := by omega
      obtain ⟨x, hx⟩ : ∃ x, A[k]? = some x := ⟨_, List.getElem?_eq_getElem hlt⟩
      have hd : A.drop k = x :: A.drop (k + 1) := by
        obtain ⟨h1, rfl⟩ := List.getElem?_eq_some_iff.1 hx
        exact List.drop_eq_getElem_cons h1
      have hlo := hidden (hlow.out k x hx)
      have hML : M.length = k := by have := hP.length_eq; rw [List.length_take] at this; omega
      rw [hd] at hR
      have hR0 := hidden (show TRow wr b (txt (P ++ (M ++ (x :: ([] ++ (A.drop (k + 1) ++ S)))))) by simpa using hR)
      have hI0 := hidden (InsI.start (x := x) hP hS)
      have hxb := hidden (hbig.out x (List.mem_of_getElem? hx))
      have hMb := hidden (fun (y : TT) (hy : y ∈ A.take k) => hbig.out y (List.mem_of_mem_take hy))
      replace hAp := hidden hAp
      have hkn : A0 + k < n := by omega
      replace hx := hidden hx
      clear hI hP hS hR hd
      replace hn3 := hidden hn3
      go_upto_block 2 with fail
      go_wp2_with fail
      go_loopg [9] (k + 1) (fun g sj wx => ∃ (j : Nat) (M1 M2 : List TT), g = j + 1 ∧ j = M1.length ∧ j ≤ k ∧ sj = .int .i64 ((A0 : Int) + (j : Int)) ∧ Hid (InsI A k x M1 M2 ∧ TRow wx b (txt (P ++ (M1 ++ (x :: (M2 ++ (A.drop (k + 1) ++ S)))))) ∧ Apart [b] w wx))
      case atStart => exact ⟨k, M, [], rfl, hML.symm, Nat.le_refl _, rfl, hidden ⟨hI0.out, hR0.out, hAp.out⟩⟩
      case round =>
        clear hI0 hR0 hAp
        obtain ⟨j, M1, M2, hgj, hj, hjk, rfl, hJ⟩ := hrel
        replace hgj := hidden hgj
        obtain ⟨hI1, hR1, hA1'⟩ := hJ.out
        clear hJ
        by_cases hj0 : j = 0
        · subst hj0
          have hM1 : M1 = [] := List.length_eq_zero_iff.1 hj.symm
          subst hM1
          obtain ⟨e1, e2⟩ := hI1.end_ hx.out (fun y hy => by cases hy)
          have hgt : decide ((A0 : Int) < (A0 : Int)) = false := by simp
          have hfin0 := hidden (fun q => (show ∃ M' : List TT, M'.Perm (A.take (k + 1)) ∧ Srt M' ∧ TRow (wr.drewN q) b (txt (P ++ (M' ++ (A.drop (k + 1) ++ S)))) ∧ Apart [b] w (wr.drewN q) from ⟨_, e1, e2, by
            have h2 : TRow (wr.drewN q) b _ := hR1.heap rfl
            simpa using h2, hA1'.drewN q⟩))
          clear hI1 hR1 hA1' hj hML hjk
          go_upto_region 4 with fail
          go_quiet (fail)
          have hfin := hidden (hfin0.out nq)
          generalize wr.drewN nq = w5 at hfin ⊢
          go_wp2
          go_roundg (A.length + 1 - (k + 1))
          case measure => rw [hg.out]; omega
          case rel =>
            obtain ⟨M', f1, f2, f3, f4⟩ := hfin.out
            exact ⟨k + 1, M', rfl, by omega, by omega, by go_num, hidden ⟨f1, f2, f3, f4⟩⟩
        · obtain ⟨M1', y, hM1⟩ : ∃ M1' y, M1 = M1' ++ [y] := by
            rcases List.eq_nil_or_concat M1 with h | ⟨l, a, h⟩
            · rw [h] at hj; exact absurd hj hj0
            · exact ⟨l, a, by simpa using h⟩
          subst hM1
          have hjl : j = M1'.length + 1 := by rw [hj]; simp
          obtain ⟨p, hp⟩ : ∃ p, P.length + M1'.length = p := ⟨_, rfl⟩
          obtain ⟨s1, s2, s3, s4⟩ := step_down P M1' y x M2 (A.drop (k + 1) ++ S) p hp.symm
          have hA0 := hAP.out
          obtain ⟨q, hq⟩ : ∃ q, p + 1 = q := ⟨_, rfl⟩
          rw [hq] at s2 s3 s4
          have eq1 : (A0 : Int) + (j : Int) = (q : Int) := by omega
          have eq2 : (q : Int) - 1 = (p : Int) := by omega
          have bq0 : (A0 : Int) < (q : Int) := by omega
          have bq : (q : Int) < (n : Int) := by omega
          have bp : (p : Int) < (n : Int) := by omega
          have c0 := hR1.cell s2
          have c1 := hR1.cell s1
          have hyt : y ∈ A.take k := hI1.perm.subset (by simp)
          have cC := hidden (cmp_grown x.1 y.1 wr hxb.out (hMb.out y hyt))
          have r0 := cell_regrown c0
          have r1 := cell_regrown c1
          obtain ⟨z, hz⟩ : ∃ z, cmpV x.1 y.1 = z := ⟨_, rfl⟩
          rw [hz] at cC
          have s1' := s1
          have s2' := s2
          have hR1' := hidden (fun (wx : World) (hx : Below wr.heap.size wr wx) => And.intro (hR1.below hx) (hA1'.trans (Apart.of_below hx)))
          have hI1' := hidden hI1
          replace hz := hidden hz
          have hsw := hidden (And.intro s3 s4)
          have hgl := hidden (show M1'.length + 1 < j + 1 by omega)
          have hMj := hidden (show M1'.length ≤ k ∧ (A0 : Int) + (M1'.length : Int) = (q : Int) - 1 from ⟨by omega, by omega⟩)
          clear hR1 hA1' hI1 hj hjl hj0 hp hq s1 s2 s3 s4 hML hyt hA0 hjk
          go_upto_region 4 with fail
          refine wp_region_quiet_below (by kernel_rfl) (by kernel_rfl) ?_
          repeat (go_big_quiet_step (first | exact cC.out _ _))
          refine wpQuiet_nil ?_
          intro _ hw'
          obtain ⟨⟨dq, osq⟩, hw''⟩ := hw'
          subst hw''
          have hR5 := hidden (hR1'.out _ (below_regrown wr dq osq))
          generalize Go.Sort.grow (redrawn wr dq) osq = w5 at hR5 ⊢
          clear c0 c1 r0 r1 cC hR1'
          obtain ⟨hR6, hA6⟩ := hR5.out
          by_cases hz0 : z < 0
          · have q0 := hR6.cell s2'
            have q1 := hR6.cell s1'
            have f0 := hR6.free q
            have f1 := hR6.free p
            have g0 : (w5.setCell ⟨b, p, none⟩ (.string (mkB x.1))).cell? ⟨b, q, none⟩ = some (.string (mkB x.1)) := (World.cell?_setCell_other _ _ _ _ (by intro e; injection e with e1 e2; omega)).trans q0
            have g1 : (w5.setCell ⟨b, q, none⟩ (.string (mkB y.1))).cell? ⟨b, p, none⟩ = some (.string (mkB y.1)) := (World.cell?_setCell_other _ _ _ _ (by intro e; injection e with e1 e2; omega)).trans q1
            have hS1 := hidden (show TRow ((w5.setCell ⟨b, q, none⟩ (.string (mkB y.1))).setCell ⟨b, p, none⟩ (.string (mkB x.1))) b (txt (P ++ (M1' ++ (x :: ((y :: M2) ++ (A.drop (k + 1) ++ S)))))) from hsw.out.1 ▸ (hR6.set q y.1).set p x.1)
            have hS2 := hidden (show TRow ((w5.setCell ⟨b, p, none⟩ (.string (mkB x.1))).setCell ⟨b, q, none⟩ (.string (mkB y.1))) b (txt (P ++ (M1' ++ (x :: ((y :: M2) ++ (A.drop (k + 1) ++ S)))))) from hsw.out.2 ▸ (hR6.set p x.1).set q y.1)
            have hA7 := hidden (fun (u v : Value) (s t : Nat) => (hA6.setCell (p := ⟨b, s, none⟩) (by simp) u).setCell (p := ⟨b, t, none⟩) (by simp) v)
            have hI2 := hidden (hI1'.out.down (by rw [hz.out]; exact hz0))
            clear hR6 hA6 hR5 hI1' hsw s1' s2'
            go_upto_region 6 with fail
            go_region
            all_goals
              go_wp2
              go_roundg (M1'.length + 1)
              case measure => rw [hgj.out]; exact hgl.out
              case rel =>
                have hm := hMj.out
                first
                  | exact ⟨M1'.length, M1', y :: M2, rfl, rfl, hm.1, by rw [hm.2]; go_num, hidden ⟨hI2.out, ⟨hS1.out.hp⟩, (hA7.out _ _ _ _).trans (Apart.of_below (below_drewN (Below.refl _ _) 1))⟩⟩
                  | exact ⟨M1'.length, M1', y :: M2, rfl, rfl, hm.1, by rw [hm.2]; go_num, hidden ⟨hI2.out, ⟨hS2.out.hp⟩, (hA7.out _ _ _ _).trans (Apart.of_below (below_drewN (Below.refl _ _) 1))⟩⟩
          · have hE := hidden (show (M1' ++ [y] ++ x :: M2).Perm (A.take (k + 1)) ∧ Srt (M1' ++ [y] ++ x :: M2) from hI1'.out.end_ hx.out (hI1'.out.low (by rw [hz.out]; exact hz0) hlo.out))
            have hfin := hidden (show ∃ M' : List TT, M'.Perm (A.take (k + 1)) ∧ Srt M' ∧ TRow w5 b (txt (P ++ (M' ++ (A.drop (k + 1) ++ S)))) ∧ Apart [b] w w5 from ⟨_, hE.out.1, hE.out.2, by simpa using hR6, hA6⟩)
            clear hR6 hA6 hR5 hE hI1' hsw
            go_wp2
            go_roundg (A.length + 1 - (k + 1))
            case measure => rw [hg.out]; omega
            case rel =>
              obtain ⟨M', f1, f2, f3, f4⟩ := hfin.out
              exact ⟨k + 1, M', rfl, by omega, by omega, by go_num, hidden ⟨f1, f2, f3, f4⟩⟩
    · have h1 : ¬ (A0 : Int) + (k : Int) < (B0 : Int) := by omega
      have hF := hidden (show ∃ M : List TT, M.Perm A ∧ Srt M ∧ TRow wr b (txt (P ++ (M ++ S))) from ⟨M, by rw [List.take_of_length_le (by omega)] at hP; exact hP, hS, by rw [List.drop_eq_nil_of_le (by omega)] at hR; simpa using hR⟩)
      replace hAp := hidden hAp
      clear hI hP hS hR hn3
      go_wp2
      go_end0
      exact ⟨rfl, hF.out, hAp.out⟩
end Go.Proofs.YtnlcaabkbnppkaaDoor
