/- slices.symMergeCmpFunc at texts: one text into a row in order. -/
import Derived.Test.YtnlcaabkbnppkaaDoorS5
namespace Go.Proofs.YtnlcaabkbnppkaaDoor
open Go Go.RowKit
set_option maxRecDepth 100000
attribute [local go_sem ↓] shr_u64

/-- Two neighbouring texts change places. -/
theorem adj_swap (L : List TT) (x y : TT) (R : List TT) (p q : Nat) (hp : p = L.length) (hq : p + 1 = q) :
    (txt (L ++ x :: y :: R))[p]? = some x.1 ∧ (txt (L ++ x :: y :: R))[q]? = some y.1 ∧ ((txt (L ++ x :: y :: R)).set p y.1).set q x.1 = txt (L ++ y :: x :: R) ∧ ((txt (L ++ x :: y :: R)).set q x.1).set p y.1 = txt (L ++ y :: x :: R) := by
  have e : ∀ a b : TT, txt (L ++ a :: b :: R) = txt L ++ a.1 :: ([] ++ b.1 :: txt R) := fun a b => by simp [txt]
  rw [e, e]
  exact swap_two (txt L) x.1 [] y.1 (txt R) p q (by rw [txt_len]; exact hp) (by rw [txt_len]; simp; omega)
/-- The row behind the exchange, whichever text is laid first. -/
theorem row_swapped {w : World} {b : Nat} {L : List TT} {x y : TT} {R : List TT} {p q : Nat} (h : TRow w b (txt (L ++ x :: y :: R))) (hp : p = L.length) (hq : p + 1 = q) :
    TRow ((w.setCell ⟨b, p, none⟩ (.string (mkB y.1))).setCell ⟨b, q, none⟩ (.string (mkB x.1))) b (txt (L ++ y :: x :: R)) ∧ TRow ((w.setCell ⟨b, q, none⟩ (.string (mkB x.1))).setCell ⟨b, p, none⟩ (.string (mkB y.1))) b (txt (L ++ y :: x :: R)) ∧
    w.cell? ⟨b, p, none⟩ = some (.string (mkB x.1)) ∧ w.cell? ⟨b, q, none⟩ = some (.string (mkB y.1)) ∧ (w.setCell ⟨b, p, none⟩ (.string (mkB y.1))).cell? ⟨b, q, none⟩ = some (.string (mkB y.1)) ∧ (w.setCell ⟨b, q, none⟩ (.string (mkB x.1))).cell? ⟨b, p, none⟩ = some (.string (mkB x.1)) := by
  obtain ⟨s1, s2, s3, s4⟩ := adj_swap L x y R p q hp hq
  have c1 := h.cell s1
  have c2 := h.cell s2
  refine ⟨s3 ▸ (h.set p y.1).set q x.1, s4 ▸ (h.set q x.1).set p y.1, c1, c2, ?_, ?_⟩
  · exact (World.cell?_setCell_other _ _ _ _ (by intro e; injection e with e1 e2; omega)).trans c2
  · exact (World.cell?_setCell_other _ _ _ _ (by intro e; injection e with e1 e2; omega)).trans c1
theorem txt_get (l : List TT) (i : Nat) : (txt l)[i]? = (l[i]?).map Prod.fst := by unfold txt; exact List.getElem?_map
/-- What a merge is handed. -/
structure MgPre (w : World) (b n A0 M0 B0 : Nat) (P A B S : List TT) : Prop where
  ha : A0 = P.length
  hm : M0 = P.length + A.length
  hb : B0 = P.length + A.length + B.length
  hn : n = P.length + A.length + B.length + S.length
  few : n ≤ 1000
  big : ∀ t ∈ A ++ B, t.1.length ≤ 1000000
  sa : Srt A
  sb : Srt B
  tag : ∀ x ∈ A, ∀ y ∈ B, x.2 < y.2
  row : TRow w b (txt (P ++ (A ++ (B ++ S))))
def MgPost (w : World) (b : Nat) (P A B S : List TT) (e : Ending) (w' : World) : Prop := e = .returned (.tuple #[]) ∧ (∃ M : List TT, M.Perm (A ++ B) ∧ Srt M ∧ TRow w' b (txt (P ++ (M ++ S)))) ∧ Apart [b] w w'
theorem MgPre.getA {w : World} {b n A0 M0 B0 : Nat} {P A B S : List TT} (h : MgPre w b n A0 M0 B0 P A B S) {t : Nat} {x : TT} (hx : A[t]? = some x) : (txt (P ++ (A ++ (B ++ S))))[A0 + t]? = some x.1 := by
  have hl := (List.getElem?_eq_some_iff.1 hx).1
  rw [txt_get, h.ha, List.getElem?_append_right (by omega), show P.length + t - P.length = t by omega, List.getElem?_append_left hl, hx]; rfl
theorem MgPre.getB {w : World} {b n A0 M0 B0 : Nat} {P A B S : List TT} (h : MgPre w b n A0 M0 B0 P A B S) {t : Nat} {x : TT} (hx : B[t]? = some x) : (txt (P ++ (A ++ (B ++ S))))[M0 + t]? = some x.1 := by
  have hl := (List.getElem?_eq_some_iff.1 hx).1
  rw [txt_get, h.hm, List.getElem?_append_right (by omega), List.getElem?_append_right (by omega), show P.length + A.length + t - P.length - A.length = t by omega, List.getElem?_append_left hl, hx]; rfl
set_option maxHeartbeats 16000000 in
theorem merge_first (b n A0 M0 B0 : Nat) (P : List TT) (x : TT) (B S : List TT) (w : World) (h : MgPre w b n A0 M0 B0 P [x] B S) (hB : 0 < B.length) :
    Calls Tryd.prog 28 #[.slice (some ⟨b, 0, none⟩) n n, .int .i64 (A0 : Int), .int .i64 (M0 : Int), .int .i64 (B0 : Int), cmpF] w (MgPost w b P [x] B S) := by
  have ha := h.ha
  have hm : M0 = A0 + 1 := by have := h.hm; simp at this; omega
  have hb : B0 = M0 + B.length := by have := h.hb; simp at this; omega
  have hn : n = B0 + S.length := by have := h.hn; have := h.hb; simp at *; omega
  have hs := h.few
  have hH := hidden h
  have e1 : (M0 : Int) - (A0 : Int) = 1 := by omega
  have hA1 : A0 ≤ 1000 := by omega
  have hM1 : M0 ≤ 1000 := by omega
  have hB1 : B0 ≤ 1000 := by omega
  have hnum := hidden (show M0 = A0 + 1 ∧ B0 = M0 + B.length ∧ B0 ≤ n ∧ A0 = P.length from ⟨hm, hb, by omega, ha⟩)
  have hxt := hidden (fun (y : TT) (hy : y ∈ B) => h.tag x (by simp) y hy)
  clear h ha hm hb hn hB
  unfold MgPost
  go_enter Tryd.func28, Tryd.ntmps28
  go_wp2_with fail
  go_loopg [10, 11] B.length (fun g si sj wr => ∃ (I J u v : Nat), si = .int .i64 (I : Int) ∧ sj = .int .i64 (J : Int) ∧ I = M0 + u ∧ J = M0 + v ∧ u ≤ v ∧ v ≤ B.length ∧ g = v - u ∧ Hid ((∀ t y, t < u → B[t]? = some y → ltT y x) ∧ (∀ t y, v ≤ t → B[t]? = some y → ltT x y) ∧ TRow wr b (txt (P ++ ([x] ++ (B ++ S)))) ∧ Apart [b] w wr))
  case atStart => exact ⟨M0, B0, 0, B.length, rfl, rfl, rfl, hnum.out.2.1, Nat.zero_le _, Nat.le_refl _, rfl, hidden ⟨fun t y ht => by omega, fun t y ht hy => by have := (List.getElem?_eq_some_iff.1 hy).1; omega, hH.out.row, Apart.refl _ _⟩⟩
  case round =>
    obtain ⟨I, J, u, v, rfl, rfl, hI, hJ, huv, hvl, hg, hV⟩ := hrel
    obtain ⟨v1, v2, hR, hAp⟩ := hV.out
    obtain ⟨n1, n2, n3, n4⟩ := hnum.out
    replace hg := hidden hg
    clear hV
    by_cases hlt : (I : Int) < (J : Int)
    · obtain ⟨H, hdiv, hd1, hd2⟩ := half_of ((I : Int) + (J : Int)) (by omega) (by omega)
      obtain ⟨c, hc⟩ : ∃ c, H = M0 + c := ⟨H - M0, by omega⟩
      obtain ⟨y, hy⟩ : ∃ y, B[c]? = some y := ⟨_, List.getElem?_eq_getElem (by omega)⟩
      have q1 := hH.out.getB hy
      have q2 := hH.out.getA (t := 0) (x := x) rfl
      rw [← hc] at q1
      rw [Nat.add_zero] at q2
      have c0 := hR.cell q1
      have c1 := hR.cell q2
      have hys := List.mem_of_getElem? hy
      have cC := hidden (cmp_grown y.1 x.1 wr (hH.out.big y (by simp [hys])) (hH.out.big x (by simp)))
      have r0 := cell_regrown c0
      have r1 := cell_regrown c1
      have hcs := hidden (cmp_second (hxt.out y hys))
      obtain ⟨z, hz⟩ : ∃ z, cmpV y.1 x.1 = z := ⟨_, rfl⟩
      rw [hz] at cC hcs
      have hR1' := hidden (fun (wx : World) (hx : Below wr.heap.size wr wx) => And.intro (hR.below hx) (hAp.trans (Apart.of_below hx)))
      have hij1 : (0 : Int) ≤ (I : Int) + (J : Int) := by omega
      have hij2 : (I : Int) + (J : Int) ≤ 2000 := by omega
      have hHn : (H : Int) < (n : Int) := by omega
      have hAn : (A0 : Int) < (n : Int) := by omega
      have hH2 : (H : Int) ≤ 1000 := by omega
      have hmv := hidden (And.intro v1 v2)
      have hnn := hidden (show H + 1 = M0 + (c + 1) ∧ c + 1 ≤ v ∧ u ≤ c ∧ v - (c + 1) < v - u ∧ c - u < v - u ∧ c ≤ B.length from ⟨by omega, by omega, by omega, by omega, by omega, by omega⟩)
      have hup := hidden (show ltT y x → ∀ t y', t < c + 1 → B[t]? = some y' → ltT y' x from fun hl t y' ht hy' => by
        rcases Nat.lt_or_eq_of_le (show t ≤ c by omega) with h1 | h1
        · exact ltT_trans (srt_get hH.out.sb h1 hy' hy) hl
        · subst h1; rw [hy] at hy'; obtain rfl := Option.some.inj hy'; exact hl)
      have hdn := hidden (show ltT x y → ∀ t y', c ≤ t → B[t]? = some y' → ltT x y' from fun hl t y' ht hy' => by
        rcases Nat.lt_or_eq_of_le ht with h1 | h1
        · exact ltT_trans hl (srt_get hH.out.sb h1 hy hy')
        · subst h1; rw [hy] at hy'; obtain rfl := Option.some.inj hy'; exact hl)
      replace hy := hidden hy
      replace hc := hidden hc
      replace hz := hidden hz
      have hIJ := hidden (And.intro hI hJ)
      clear v1 v2 hR hAp q1 q2 hys hd1 hd2 n1 n2 n3 n4 hI hJ
      go_upto_region 5 with fail
      refine wp_region_quiet_below (by kernel_rfl) (by kernel_rfl) ?_
      repeat (go_big_quiet_step (first | exact cC.out _ _))
      refine wpQuiet_nil ?_
      intro _ hw'
      obtain ⟨⟨dq, osq⟩, hw''⟩ := hw'
      subst hw''
      have hR5 := hidden (hR1'.out _ (below_regrown wr dq osq))
      generalize Go.Sort.grow (redrawn wr dq) osq = w5 at hR5 ⊢
      clear c0 c1 r0 r1 cC hR1'
      by_cases hz0 : z < 0
      · go_wp2
        go_roundg (v - (c + 1))
        case measure => rw [hg.out]; exact hnn.out.2.2.2.1
        case rel => exact ⟨H + 1, J, c + 1, v, by go_num, rfl, hnn.out.1, hIJ.out.2, hnn.out.2.1, hvl, rfl, hidden ⟨hup.out (hcs.out.1.1 hz0), hmv.out.2, hR5.out.1, hR5.out.2⟩⟩
      · go_wp2
        go_roundg (c - u)
        case measure => rw [hg.out]; exact hnn.out.2.2.2.2.1
        case rel => exact ⟨I, H, u, c, rfl, rfl, hIJ.out.1, hc.out, hnn.out.2.2.1, hnn.out.2.2.2.2.2, rfl, hidden ⟨hmv.out.1, hdn.out (hcs.out.2.1 hz0), hR5.out.1, hR5.out.2⟩⟩
    · obtain rfl : v = u := by omega
      have hIJ : I = J := by omega
      subst hIJ
      have hMu := hidden (show (B.take v ++ x :: B.drop v).Perm ([x] ++ B) ∧ Srt (B.take v ++ x :: B.drop v) from by
        have hsb := hH.out.sb
        rw [← List.take_append_drop v B] at hsb
        have hsb' := hsb
        rw [Srt, List.pairwise_append] at hsb'
        refine ⟨?_, ?_⟩
        · conv => rhs; rw [← List.take_append_drop v B]
          exact List.perm_middle
        · rw [Srt, List.pairwise_append]
          refine ⟨hsb'.1, List.pairwise_cons.2 ⟨fun y hy => ?_, hsb'.2.1⟩, fun a ha y hy => ?_⟩
          · obtain ⟨i, hi⟩ := List.getElem?_of_mem hy
            rw [List.getElem?_drop] at hi
            exact v2 _ y (by omega) hi
          · rcases List.mem_cons.1 hy with rfl | hy
            · obtain ⟨i, hi⟩ := List.getElem?_of_mem ha
              rw [List.getElem?_take] at hi
              split at hi
              · exact v1 i a (by assumption) hi
              · cases hi
            · exact hsb'.2.2 a ha y hy)
      have hR0 := hidden (show TRow wr b (txt ((P ++ (B.take v).take 0) ++ x :: ((B.take v).drop 0 ++ (B.drop v ++ S)))) from by
        have : P ++ ([x] ++ (B ++ S)) = (P ++ (B.take v).take 0) ++ x :: ((B.take v).drop 0 ++ (B.drop v ++ S)) := by
          rw [← List.append_assoc (List.drop 0 _), List.drop_zero, List.take_append_drop]; simp
        rw [← this]; exact hR)
      have hvl' : (B.take v).length = v := by rw [List.length_take]; omega
      have hI1 : (I : Int) - 1 = (A0 : Int) + (v : Int) := by omega
      have hvn := hidden (show A0 + 1 + v ≤ n ∧ v ≤ 1000 from ⟨by omega, by omega⟩)
      have hn4 := hidden n4
      have hI1000 : I ≤ 1000 := by omega
      generalize B.take v = B1 at *
      generalize B.drop v = B2 at *
      replace hAp := hidden hAp
      replace hvl' := hidden hvl'
      clear v1 v2 hR n1 n2 n3 n4 hI hJ hvl huv hlt
      go_wp2_with fail
      go_loopg [13] v (fun g sk wx => ∃ (t K : Nat), g = v - t ∧ t ≤ v ∧ K = A0 + t ∧ sk = .int .i64 (K : Int) ∧ Hid (TRow wx b (txt ((P ++ B1.take t) ++ x :: (B1.drop t ++ (B2 ++ S)))) ∧ Apart [b] w wx))
      case atStart => exact ⟨0, A0, rfl, Nat.zero_le _, rfl, rfl, hidden ⟨hR0.out, hAp.out⟩⟩
      case round =>
        clear hR0 hAp
        obtain ⟨t, K, hgt, htv, hK, rfl, hV⟩ := hrel
        obtain ⟨hR2, hAp2⟩ := hV.out
        replace hgt := hidden hgt
        clear hV
        by_cases hlt2 : t < v
        · have hlt3 : (K : Int) < (A0 : Int) + (v : Int) := by omega
          obtain ⟨y, hy⟩ : ∃ y, B1[t]? = some y := ⟨_, List.getElem?_eq_getElem (by rw [hvl'.out]; exact hlt2)⟩
          have hd : B1.drop t = y :: B1.drop (t + 1) := by
            obtain ⟨h1, rfl⟩ := List.getElem?_eq_some_iff.1 hy
            exact List.drop_eq_getElem_cons h1
          have ht : B1.take (t + 1) = B1.take t ++ [y] := by rw [List.take_add_one, hy]; rfl
          obtain ⟨p, hp⟩ : ∃ p, K = p := ⟨_, rfl⟩
          obtain ⟨q, hpq⟩ : ∃ q, p + 1 = q := ⟨_, rfl⟩
          have hpL : p = (P ++ B1.take t).length := by
            have := hn4.out
            have := hvl'.out
            rw [List.length_append, List.length_take]; omega
          rw [hd, List.cons_append] at hR2
          obtain ⟨q1, q2, q3, q4, q5, q6⟩ := row_swapped hR2 hpL hpq
          have f1 := hR2.free p
          have f2 := hR2.free q
          have hS1 := hidden q1
          have hS2 := hidden q2
          have hA7 := hidden (fun (u v : Value) (s t : Nat) => (hAp2.setCell (p := ⟨b, s, none⟩) (by simp) u).setCell (p := ⟨b, t, none⟩) (by simp) v)
          have hnew : (P ++ B1.take t) ++ y :: x :: (B1.drop (t + 1) ++ (B2 ++ S)) = (P ++ B1.take (t + 1)) ++ x :: (B1.drop (t + 1) ++ (B2 ++ S)) := by rw [ht]; simp only [List.append_assoc, List.cons_append, List.nil_append]
          rw [hnew] at hS1 hS2
          subst hp
          have eq1 : (K : Int) + 1 = (q : Int) := by omega
          have hv2 := hvn.out
          have bq : (q : Int) < (n : Int) := by omega
          have bp : (K : Int) < (n : Int) := by omega
          have hnx := hidden (show q = A0 + (t + 1) ∧ t + 1 ≤ v ∧ v - (t + 1) < v - t from ⟨by omega, by omega, by omega⟩)
          clear hR2 hAp2 q1 q2 hd ht hnew hpL hpq hy hlt2 hK hv2
          go_upto_region 11 with fail
          go_region
          all_goals
            go_wp2
            go_roundg (v - (t + 1))
            case measure => rw [hgt.out]; exact hnx.out.2.2
            case rel =>
              first
                | exact ⟨t + 1, q, rfl, hnx.out.2.1, hnx.out.1, by go_num, hidden ⟨⟨hS1.out.hp⟩, (hA7.out _ _ _ _).trans (Apart.of_below (below_drewN (Below.refl _ _) 1))⟩⟩
                | exact ⟨t + 1, q, rfl, hnx.out.2.1, hnx.out.1, by go_num, hidden ⟨⟨hS2.out.hp⟩, (hA7.out _ _ _ _).trans (Apart.of_below (below_drewN (Below.refl _ _) 1))⟩⟩
        · obtain rfl : v = t := by omega
          have hF := hidden (show ∃ M : List TT, M.Perm ([x] ++ B) ∧ Srt M ∧ TRow wr b (txt (P ++ (M ++ S))) from ⟨B1 ++ x :: B2, hMu.out.1, hMu.out.2, by
            have h3 := hR2
            rw [List.take_of_length_le (by rw [hvl'.out]; exact Nat.le_refl _), List.drop_eq_nil_of_le (by rw [hvl'.out]; exact Nat.le_refl _)] at h3
            simpa using h3⟩)
          have hKe : ¬ (K : Int) < (A0 : Int) + (v : Int) := by omega
          replace hAp2 := hidden hAp2
          clear hR2
          go_wp2
          refine bodyPost_ret (results_none rfl _ _ _) rfl ?_
          exact ⟨rfl, hF.out, hAp2.out⟩
end Go.Proofs.YtnlcaabkbnppkaaDoor
