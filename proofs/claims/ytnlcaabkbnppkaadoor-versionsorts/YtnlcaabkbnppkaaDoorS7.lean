/- slices.symMergeCmpFunc at texts: one text behind a row in order. -/
import Derived.Test.YtnlcaabkbnppkaaDoorS6
namespace Go.Proofs.YtnlcaabkbnppkaaDoor
open Go Go.RowKit
set_option maxRecDepth 100000
attribute [local go_sem ↓] shr_u64

set_option maxHeartbeats 16000000 in
theorem merge_last (b n A0 M0 B0 : Nat) (P A : List TT) (x : TT) (S : List TT) (w : World) (h : MgPre w b n A0 M0 B0 P A [x] S) (hA : 1 < A.length) :
    Calls Tryd.prog 28 #[.slice (some ⟨b, 0, none⟩) n n, .int .i64 (A0 : Int), .int .i64 (M0 : Int), .int .i64 (B0 : Int), cmpF] w (MgPost w b P A [x] S) := by
  have ha := h.ha
  have hm : M0 = A0 + A.length := by have := h.hm; omega
  have hb : B0 = M0 + 1 := by have := h.hb; have := h.hm; simp at *; omega
  have hn : n = B0 + S.length := by have := h.hn; have := h.hb; simp at *; omega
  have hs := h.few
  have hH := hidden h
  have e0 : ((M0 : Int) - (A0 : Int) == 1) = false := by
    rw [beq_eq_false_iff_ne]; omega
  have e1 : (B0 : Int) - (M0 : Int) = 1 := by omega
  have hA1 : A0 ≤ 1000 := by omega
  have hM1 : M0 ≤ 1000 := by omega
  have hB1 : B0 ≤ 1000 := by omega
  have hnum := hidden (show M0 = A0 + A.length ∧ B0 = M0 + 1 ∧ B0 ≤ n ∧ A0 = P.length from ⟨hm, hb, by omega, ha⟩)
  have hxt := hidden (fun (y : TT) (hy : y ∈ A) => h.tag y hy x (by simp))
  clear h ha hm hb hn hA
  unfold MgPost
  go_enter Tryd.func28, Tryd.ntmps28
  go_wp2_with fail
  go_loopg [14, 15] A.length (fun g si sj wr => ∃ (I J u v : Nat), si = .int .i64 (I : Int) ∧ sj = .int .i64 (J : Int) ∧ I = A0 + u ∧ J = A0 + v ∧ u ≤ v ∧ v ≤ A.length ∧ g = v - u ∧ Hid ((∀ t y, t < u → A[t]? = some y → ltT y x) ∧ (∀ t y, v ≤ t → A[t]? = some y → ltT x y) ∧ TRow wr b (txt (P ++ (A ++ ([x] ++ S)))) ∧ Apart [b] w wr))
  case atStart => exact ⟨A0, M0, 0, A.length, rfl, rfl, rfl, hnum.out.1, Nat.zero_le _, Nat.le_refl _, rfl, hidden ⟨fun t y ht => by omega, fun t y ht hy => by have := (List.getElem?_eq_some_iff.1 hy).1; omega, hH.out.row, Apart.refl _ _⟩⟩
  case round =>
    obtain ⟨I, J, u, v, rfl, rfl, hI, hJ, huv, hvl, hg, hV⟩ := hrel
    obtain ⟨v1, v2, hR, hAp⟩ := hV.out
    obtain ⟨n1, n2, n3, n4⟩ := hnum.out
    replace hg := hidden hg
    clear hV
    by_cases hlt : (I : Int) < (J : Int)
    · obtain ⟨H, hdiv, hd1, hd2⟩ := half_of ((I : Int) + (J : Int)) (by omega) (by omega)
      obtain ⟨c, hc⟩ : ∃ c, H = A0 + c := ⟨H - A0, by omega⟩
      obtain ⟨y, hy⟩ : ∃ y, A[c]? = some y := ⟨_, List.getElem?_eq_getElem (by omega)⟩
      have q1 := hH.out.getA hy
      have q2 := hH.out.getB (t := 0) (x := x) rfl
      rw [← hc] at q1
      rw [Nat.add_zero] at q2
      have c0 := hR.cell q1
      have c1 := hR.cell q2
      have hys := List.mem_of_getElem? hy
      have cC := hidden (cmp_grown x.1 y.1 wr (hH.out.big x (by simp)) (hH.out.big y (by simp [hys])))
      have r0 := cell_regrown c0
      have r1 := cell_regrown c1
      have hcs := hidden (cmp_second (hxt.out y hys))
      obtain ⟨z, hz⟩ : ∃ z, cmpV x.1 y.1 = z := ⟨_, rfl⟩
      rw [hz] at cC hcs
      have hR1' := hidden (fun (wx : World) (hx : Below wr.heap.size wr wx) => And.intro (hR.below hx) (hAp.trans (Apart.of_below hx)))
      have hij1 : (0 : Int) ≤ (I : Int) + (J : Int) := by omega
      have hij2 : (I : Int) + (J : Int) ≤ 2000 := by omega
      have hHn : (H : Int) < (n : Int) := by omega
      have hAn : (M0 : Int) < (n : Int) := by omega
      have hH2 : (H : Int) ≤ 1000 := by omega
      have hmv := hidden (And.intro v1 v2)
      have hnn := hidden (show H + 1 = A0 + (c + 1) ∧ c + 1 ≤ v ∧ u ≤ c ∧ v - (c + 1) < v - u ∧ c - u < v - u ∧ c ≤ A.length from ⟨by omega, by omega, by omega, by omega, by omega, by omega⟩)
      have hup := hidden (show ltT y x → ∀ t y', t < c + 1 → A[t]? = some y' → ltT y' x from fun hl t y' ht hy' => by
        rcases Nat.lt_or_eq_of_le (show t ≤ c by omega) with h1 | h1
        · exact ltT_trans (srt_get hH.out.sa h1 hy' hy) hl
        · subst h1; rw [hy] at hy'; obtain rfl := Option.some.inj hy'; exact hl)
      have hdn := hidden (show ltT x y → ∀ t y', c ≤ t → A[t]? = some y' → ltT x y' from fun hl t y' ht hy' => by
        rcases Nat.lt_or_eq_of_le ht with h1 | h1
        · exact ltT_trans hl (srt_get hH.out.sa h1 hy hy')
        · subst h1; rw [hy] at hy'; obtain rfl := Option.some.inj hy'; exact hl)
      replace hy := hidden hy
      replace hc := hidden hc
      replace hz := hidden hz
      have hIJ := hidden (And.intro hI hJ)
      clear v1 v2 hR hAp q1 q2 hys hd1 hd2 n1 n2 n3 n4 hI hJ
      go_upto_region 17 with fail
      refine wp_region_quiet_below (by kernel_rfl) (by kernel_rfl) ?_
      repeat (go_big_quiet_step (first | exact cC.out _ _))
      refine wpQuiet_nil ?_
      intro _ hw'
      obtain ⟨⟨dq, osq⟩, hw''⟩ := hw'
      subst hw''
      have hR5 := hidden (hR1'.out _ (below_regrown wr dq osq))
      generalize Go.Sort.grow (redrawn wr dq) osq = w5 at hR5 ⊢
      clear c0 c1 r0 r1 cC hR1'
      generalize hzd : decide (z < 0) = bz
      cases bz
      rotate_left
      · have hz0 : z < 0 := of_decide_eq_true hzd
        go_wp2
        go_roundg (c - u)
        case measure => rw [hg.out]; exact hnn.out.2.2.2.2.1
        case rel => exact ⟨I, H, u, c, rfl, rfl, hIJ.out.1, hc.out, hnn.out.2.2.1, hnn.out.2.2.2.2.2, rfl, hidden ⟨hmv.out.1, hdn.out (hcs.out.1.1 hz0), hR5.out.1, hR5.out.2⟩⟩
      · have hz0 : ¬ z < 0 := of_decide_eq_false hzd
        go_wp2
        go_roundg (v - (c + 1))
        case measure => rw [hg.out]; exact hnn.out.2.2.2.1
        case rel => exact ⟨H + 1, J, c + 1, v, by go_num, rfl, hnn.out.1, hIJ.out.2, hnn.out.2.1, hvl, rfl, hidden ⟨hup.out (hcs.out.2.1 hz0), hmv.out.2, hR5.out.1, hR5.out.2⟩⟩
    · obtain rfl : v = u := by omega
      have hIJ : I = J := by omega
      subst hIJ
      have hMu := hidden (show (A.take v ++ x :: A.drop v).Perm (A ++ [x]) ∧ Srt (A.take v ++ x :: A.drop v) from by
        have hsb := hH.out.sa
        rw [← List.take_append_drop v A] at hsb
        have hsb' := hsb
        rw [Srt, List.pairwise_append] at hsb'
        refine ⟨?_, ?_⟩
        · refine List.perm_middle.trans ?_
          rw [List.take_append_drop]
          exact (List.perm_append_comm (l₁ := [x]) (l₂ := A))
        · rw [Srt, List.pairwise_append]
          refine ⟨hsb'.1, List.pairwise_cons.2 ⟨fun y hy => ?_, hsb'.2.1⟩, fun a ha y hy => ?_⟩
          · obtain ⟨i, hi⟩ := List.getElem?_of_mem hy
            rw [List.getElem?_drop] at hi
            exact v2 _ y (by omega) hi
          · rcases List.mem_cons.1 hy with rfl | hy
            · obtain ⟨i, hi⟩ := List.getElem?_of_mem ha
              rw [List.getElem?_take] at hi
              split at hi
              · exact v1 i a (by assumption) hi
              · cases hi
            · exact hsb'.2.2 a ha y hy)
      obtain ⟨D, hD⟩ : ∃ D, A.length - v = D := ⟨_, rfl⟩
      have hlA : (A.take v).length = v := by rw [List.length_take]; omega
      have hlD : (A.drop v).length = D := by rw [List.length_drop]; exact hD
      have hR0 := hidden (show TRow wr b (txt ((P ++ (A.take v ++ (A.drop v).take D)) ++ x :: ((A.drop v).drop D ++ S))) from by
        have : P ++ (A ++ ([x] ++ S)) = (P ++ (A.take v ++ (A.drop v).take D)) ++ x :: ((A.drop v).drop D ++ S) := by
          have h1 : (A.drop v).take D = A.drop v := List.take_of_length_le (by rw [hlD]; exact Nat.le_refl _)
          have h2 : (A.drop v).drop D = [] := List.drop_eq_nil_of_le (by rw [hlD]; exact Nat.le_refl _)
          rw [h1, h2, List.take_append_drop]; simp
        rw [← this]; exact hR)
      have hMI : M0 = I + D := by omega
      have hIv := hidden (show I = P.length + v ∧ I + D < n ∧ I ≤ 1000 ∧ D ≤ 1000 from ⟨by omega, by omega, by omega, by omega⟩)
      have hI1000 : I ≤ 1000 := by omega
      generalize A.take v = B1 at *
      generalize A.drop v = B2 at *
      replace hAp := hidden hAp
      replace hlA := hidden hlA
      replace hlD := hidden hlD
      replace hMI := hidden hMI
      clear v1 v2 hR n1 n2 n3 n4 hI hJ hvl huv hlt hD
      go_wp2_with fail
      go_loopg [17] D (fun g sk wx => ∃ (t K : Nat), g = t ∧ t ≤ D ∧ K = I + t ∧ sk = .int .i64 (K : Int) ∧ Hid (TRow wx b (txt ((P ++ (B1 ++ B2.take t)) ++ x :: (B2.drop t ++ S))) ∧ Apart [b] w wx))
      case atStart => exact ⟨D, M0, rfl, Nat.le_refl _, hMI.out, rfl, hidden ⟨hR0.out, hAp.out⟩⟩
      case round =>
        clear hR0 hAp
        obtain ⟨t, K, hgt, htv, hK, rfl, hV⟩ := hrel
        obtain ⟨hR2, hAp2⟩ := hV.out
        replace hgt := hidden hgt
        clear hV
        by_cases hlt2 : 0 < t
        · have hlt3 : (I : Int) < (K : Int) := by omega
          obtain ⟨s, hs1⟩ : ∃ s, t = s + 1 := ⟨t - 1, by omega⟩
          obtain ⟨y, hy⟩ : ∃ y, B2[s]? = some y := ⟨_, List.getElem?_eq_getElem (by rw [hlD.out]; omega)⟩
          have hd : B2.drop s = y :: B2.drop (s + 1) := by
            obtain ⟨h1, rfl⟩ := List.getElem?_eq_some_iff.1 hy
            exact List.drop_eq_getElem_cons h1
          have ht : B2.take (s + 1) = B2.take s ++ [y] := by rw [List.take_add_one, hy]; rfl
          obtain ⟨p, hp⟩ : ∃ p, I + s = p := ⟨_, rfl⟩
          have hpq : p + 1 = K := by omega
          have hpL : p = (P ++ (B1 ++ B2.take s)).length := by
            have h1 := hIv.out.1
            have h2 := hlA.out
            have h3 := hlD.out
            rw [List.length_append, List.length_append, List.length_take]; omega
          have hold : (P ++ (B1 ++ B2.take t)) ++ x :: (B2.drop t ++ S) = (P ++ (B1 ++ B2.take s)) ++ y :: x :: (B2.drop t ++ S) := by
            rw [hs1, ht]; simp only [List.append_assoc, List.cons_append, List.nil_append]
          have hnew : (P ++ (B1 ++ B2.take s)) ++ x :: y :: (B2.drop t ++ S) = (P ++ (B1 ++ B2.take s)) ++ x :: (B2.drop s ++ S) := by
            rw [hs1, hd]; simp only [List.cons_append]
          rw [hold] at hR2
          obtain ⟨q1, q2, q3, q4, q5, q6⟩ := row_swapped hR2 hpL hpq
          have f1 := hR2.free p
          have f2 := hR2.free K
          have hS1 := hidden q1
          have hS2 := hidden q2
          have hA7 := hidden (fun (u v : Value) (s t : Nat) => (hAp2.setCell (p := ⟨b, s, none⟩) (by simp) u).setCell (p := ⟨b, t, none⟩) (by simp) v)
          rw [hnew] at hS1 hS2
          have eq1 : (K : Int) - 1 = (p : Int) := by omega
          have hv2 := hIv.out
          have bq : (K : Int) < (n : Int) := by omega
          have bp : (p : Int) < (n : Int) := by omega
          have hK1000 : (K : Int) ≤ 2000 := by omega
          have hnx := hidden (show p = I + s ∧ s ≤ D ∧ s < t from ⟨by omega, by omega, by omega⟩)
          clear hR2 hAp2 q1 q2 hd ht hnew hold hpL hpq hy hlt2 hK hv2 hs1 hp htv
          go_upto_region 23 with fail
          go_region
          all_goals
            go_wp2
            go_roundg s
            case measure => rw [hgt.out]; exact hnx.out.2.2
            case rel =>
              first
                | exact ⟨s, p, rfl, hnx.out.2.1, hnx.out.1, by go_num, hidden ⟨⟨hS1.out.hp⟩, (hA7.out _ _ _ _).trans (Apart.of_below (below_drewN (Below.refl _ _) 1))⟩⟩
                | exact ⟨s, p, rfl, hnx.out.2.1, hnx.out.1, by go_num, hidden ⟨⟨hS2.out.hp⟩, (hA7.out _ _ _ _).trans (Apart.of_below (below_drewN (Below.refl _ _) 1))⟩⟩
        · obtain rfl : t = 0 := by omega
          have hF := hidden (show ∃ M : List TT, M.Perm (A ++ [x]) ∧ Srt M ∧ TRow wr b (txt (P ++ (M ++ S))) from ⟨B1 ++ x :: B2, hMu.out.1, hMu.out.2, by
            have h3 := hR2
            simpa using h3⟩)
          have hKe : ¬ (I : Int) < (K : Int) := by omega
          replace hAp2 := hidden hAp2
          clear hR2
          go_wp2
          refine bodyPost_ret (results_none rfl _ _ _) rfl ?_
          exact ⟨rfl, hF.out, hAp2.out⟩
end Go.Proofs.YtnlcaabkbnppkaaDoor
