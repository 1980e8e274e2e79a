/- slices.symMergeCmpFunc at texts: two rows in order, the long way. -/
import Derived.Test.YtnlcaabkbnppkaaDoorS8
import Derived.Deep.Cut
import Derived.Deep.CutBlock
import Derived.Deep.CutRange
namespace Go.Proofs.YtnlcaabkbnppkaaDoor
open Go Go.RowKit
set_option maxRecDepth 100000
attribute [local go_sem ↓] shr_u64

set_option maxHeartbeats 16000000 in
theorem merge_long (b n A0 M0 B0 : Nat) (P A B S : List TT) (w : World) (h : MgPre w b n A0 M0 B0 P A B S) (hA : 1 < A.length) (hB : 1 < B.length)
    (IH : ∀ (A0' M0' B0' : Nat) (P' A' B' S' : List TT) (wx : World), A'.length + B'.length < A.length + B.length → 0 < A'.length → 0 < B'.length → MgPre wx b n A0' M0' B0' P' A' B' S' → Calls Tryd.prog 28 #[.slice (some ⟨b, 0, none⟩) n n, .int .i64 (A0' : Int), .int .i64 (M0' : Int), .int .i64 (B0' : Int), cmpF] wx (MgPost wx b P' A' B' S')) :
    Calls Tryd.prog 28 #[.slice (some ⟨b, 0, none⟩) n n, .int .i64 (A0 : Int), .int .i64 (M0 : Int), .int .i64 (B0 : Int), cmpF] w (MgPost w b P A B S) := by
  have ha := h.ha
  have hm : M0 = A0 + A.length := by have := h.hm; omega
  have hb : B0 = M0 + B.length := by have := h.hb; have := h.hm; omega
  have hn : n = B0 + S.length := by have := h.hn; have := h.hb; omega
  have hs := h.few
  have hH := hidden h
  have kI := hidden IH
  have e0 : ((M0 : Int) - (A0 : Int) == 1) = false := by
    rw [beq_eq_false_iff_ne]; omega
  have e1 : ((B0 : Int) - (M0 : Int) == 1) = false := by
    rw [beq_eq_false_iff_ne]; omega
  have hA1 : A0 ≤ 1000 := by omega
  have hM1 : M0 ≤ 1000 := by omega
  have hB1 : B0 ≤ 1000 := by omega
  obtain ⟨H0, hdv0, hv1, hv2⟩ := half_of ((A0 : Int) + (B0 : Int)) (by omega) (by omega)
  have hw1 : (0 : Int) ≤ (A0 : Int) + (B0 : Int) := by omega
  have hw2 : (A0 : Int) + (B0 : Int) ≤ 2000 := by omega
  obtain ⟨hh, hhe⟩ : ∃ hh, H0 = A0 + hh := ⟨H0 - A0, by omega⟩
  obtain ⟨N0, hN0⟩ : ∃ N0, H0 + M0 = N0 := ⟨_, rfl⟩
  obtain ⟨Q, hQ⟩ : ∃ Q, N0 = Q + 1 := ⟨N0 - 1, by omega⟩
  have eN : (H0 : Int) + (M0 : Int) = (N0 : Int) := by omega
  have eQ : (N0 : Int) - 1 = (Q : Int) := by omega
  have hH0 : H0 ≤ 1000 := by omega
  have hN1 : N0 ≤ 2000 := by omega
  have hnum := hidden (show M0 = A0 + A.length ∧ B0 = M0 + B.length ∧ B0 ≤ n ∧ A0 = P.length ∧ H0 = A0 + hh ∧ N0 = A0 + hh + M0 ∧ N0 = Q + 1 ∧ 2 * hh ≤ A.length + B.length ∧ A.length + B.length < 2 * hh + 2 ∧ 1 < A.length ∧ 1 < B.length from ⟨hm, hb, by omega, ha, hhe, by omega, hQ, by omega, by omega, hA, hB⟩)
  have hxt := hidden (fun (x : TT) (hx : x ∈ A) (y : TT) (hy : y ∈ B) => h.tag x hx y hy)
  clear h ha hm hb hn hA hB IH hv1 hv2 hhe hN0 hQ
  unfold MgPost
  go_enter Tryd.func28, Tryd.ntmps28
  go_upto_if 140 with fail
  go_cut [20, 21] from 138 to 146 (fun p q wx => (∃ (I J u v : Nat), p = .int .i64 (I : Int) ∧ q = .int .i64 (J : Int) ∧ I = A0 + u ∧ J = A0 + v ∧ Cuts A.length B.length hh u v) ∧ wx = w)
  case first =>
    obtain ⟨n1, n2, n3, n4, n5, n6, n7, n8, n9, n10, n11⟩ := hnum.out
    by_cases hlt : (H0 : Int) < (M0 : Int)
    · obtain ⟨S1, hS1⟩ : ∃ S1, N0 = S1 + B0 := ⟨N0 - B0, by omega⟩
      have e5 : (N0 : Int) - (B0 : Int) = (S1 : Int) := by omega
      have hC := hidden (show ∃ (I J u v : Nat), Value.int .i64 (S1 : Int) = .int .i64 (I : Int) ∧ Value.int .i64 (H0 : Int) = .int .i64 (J : Int) ∧ I = A0 + u ∧ J = A0 + v ∧ Cuts A.length B.length hh u v from ⟨S1, H0, hh - B.length, hh, rfl, rfl, by omega, n5, Cuts.long n8 n9 (by omega)⟩)
      clear n1 n2 n3 n4 n5 n6 n7 n8 n9 n10 n11 hS1
      go_wp2
      go_meet
      case rel => exact ⟨hC.out, rfl⟩
    · have hC := hidden (show ∃ (I J u v : Nat), Value.int .i64 (A0 : Int) = .int .i64 (I : Int) ∧ Value.int .i64 (M0 : Int) = .int .i64 (J : Int) ∧ I = A0 + u ∧ J = A0 + v ∧ Cuts A.length B.length hh u v from ⟨A0, M0, 0, A.length, rfl, rfl, rfl, n1, Cuts.short n8 (by omega)⟩)
      clear n1 n2 n3 n4 n5 n6 n7 n8 n9 n10 n11
      go_wp2
      go_meet
      case rel => exact ⟨hC.out, rfl⟩
  case rest =>
    obtain ⟨⟨I0, J0, s0, r0, rfl, rfl, hI0, hJ0, hCu⟩, hwx⟩ := hcut
    replace hwx := hwx.symm
    subst hwx
    replace hCu := hidden hCu
    have hIJ0 := hidden (And.intro hI0 hJ0)
    have hI0k : I0 ≤ 3000 := by have := hCu.out.le; have := hCu.out.rA; have := hnum.out; omega
    clear hI0 hJ0 hw1 hw2 hdv0
    go_wp2_with fail
    go_loopg [20, 21] (r0 - s0) (fun g si sj wr => ∃ (I J u v : Nat), si = .int .i64 (I : Int) ∧ sj = .int .i64 (J : Int) ∧ I = A0 + u ∧ J = A0 + v ∧ u ≤ v ∧ s0 ≤ u ∧ v ≤ r0 ∧ g = v - u ∧ Hid ((∀ t x y, s0 ≤ t → t < u → A[t]? = some x → B[hh - 1 - t]? = some y → ltT x y) ∧ (∀ t x y, v ≤ t → t < r0 → A[t]? = some x → B[hh - 1 - t]? = some y → ltT y x) ∧ TRow wr b (txt (P ++ (A ++ (B ++ S)))) ∧ Apart [b] w wr))
    case atStart => exact ⟨I0, J0, s0, r0, rfl, rfl, hIJ0.out.1, hIJ0.out.2, hCu.out.le, Nat.le_refl _, Nat.le_refl _, rfl, hidden ⟨fun t x y h1 h2 => by omega, fun t x y h1 h2 => by omega, hH.out.row, Apart.refl _ _⟩⟩
    case round =>
      obtain ⟨I, J, u, v, rfl, rfl, hI, hJ, huv, hsu, hvr, hg, hV⟩ := hrel
      obtain ⟨v1, v2, hR, hAp⟩ := hV.out
      obtain ⟨n1, n2, n3, n4, n5, n6, n7, n8, n9, n10, n11⟩ := hnum.out
      obtain ⟨k1, k2, k3, k4, k5, k6⟩ := hCu.out
      replace hg := hidden hg
      clear hV
      by_cases hlt : (I : Int) < (J : Int)
      · obtain ⟨C, hdiv, hd1, hd2⟩ := half_of ((I : Int) + (J : Int)) (by omega) (by omega)
        obtain ⟨c, hc⟩ : ∃ c, C = A0 + c := ⟨C - A0, by omega⟩
        obtain ⟨D, hD⟩ : ∃ D, D = M0 + (hh - 1 - c) := ⟨_, rfl⟩
        obtain ⟨x, hx⟩ : ∃ x, A[c]? = some x := ⟨_, List.getElem?_eq_getElem (by omega)⟩
        obtain ⟨y, hy⟩ : ∃ y, B[hh - 1 - c]? = some y := ⟨_, List.getElem?_eq_getElem (by omega)⟩
        have q1 := hH.out.getA hx
        have q2 := hH.out.getB hy
        rw [← hc] at q1
        rw [← hD] at q2
        have c0 := hR.cell q1
        have c1 := hR.cell q2
        have hxs := List.mem_of_getElem? hx
        have hys := List.mem_of_getElem? hy
        have cC := hidden (cmp_grown y.1 x.1 wr (hH.out.big y (by simp [hys])) (hH.out.big x (by simp [hxs])))
        have r0' := cell_regrown c0
        have r1' := cell_regrown c1
        have hcs := hidden (cmp_second (hxt.out x hxs y hys))
        obtain ⟨z, hz⟩ : ∃ z, cmpV y.1 x.1 = z := ⟨_, rfl⟩
        rw [hz] at cC hcs
        have hR1' := hidden (fun (wx : World) (hx : Below wr.heap.size wr wx) => And.intro (hR.below hx) (hAp.trans (Apart.of_below hx)))
        have hij1 : (0 : Int) ≤ (I : Int) + (J : Int) := by omega
        have hij2 : (I : Int) + (J : Int) ≤ 4000 := by omega
        have hCn : (C : Int) < (n : Int) := by omega
        have hDn : (D : Int) < (n : Int) := by omega
        have eD : (Q : Int) - (C : Int) = (D : Int) := by omega
        have hC2 : (C : Int) ≤ 4000 := by omega
        have hmv := hidden (And.intro v1 v2)
        have hnn := hidden (show C + 1 = A0 + (c + 1) ∧ c + 1 ≤ v ∧ u ≤ c ∧ v - (c + 1) < v - u ∧ c - u < v - u ∧ s0 ≤ c + 1 ∧ c ≤ r0 from ⟨by omega, by omega, by omega, by omega, by omega, by omega, by omega⟩)
        have hup := hidden (fun hl : ltT x y => search_up (s0 := s0) hH.out.sa hH.out.sb hx hy (by omega) hl)
        have hdn := hidden (fun hl : ltT y x => search_down (r0 := r0) hH.out.sa hH.out.sb hx hy k2 hl)
        replace hc := hidden hc
        replace hz := hidden hz
        have hIJ := hidden (And.intro hI hJ)
        clear v1 v2 hR hAp q1 q2 hxs hys hx hy hd1 hd2 n1 n2 n3 n4 n5 n6 n7 n8 n9 n10 n11 k1 k2 k3 k4 k5 k6 hI hJ hD
        go_upto_region 35 with fail
        refine wp_region_quiet_below (by kernel_rfl) (by kernel_rfl) ?_
        repeat (go_big_quiet_step (first | exact cC.out _ _))
        refine wpQuiet_nil ?_
        intro _ hw'
        obtain ⟨⟨dq, osq⟩, hw''⟩ := hw'
        subst hw''
        have hR5 := hidden (hR1'.out _ (below_regrown wr dq osq))
        generalize Go.Sort.grow (redrawn wr dq) osq = w5 at hR5 ⊢
        clear c0 c1 r0' r1' cC hR1'
        generalize hzd : decide (z < 0) = bz
        cases bz
        rotate_left
        · have hz0 : z < 0 := of_decide_eq_true hzd
          go_wp2
          go_roundg (c - u)
          case measure => rw [hg.out]; exact hnn.out.2.2.2.2.1
          case rel => exact ⟨I, C, u, c, rfl, rfl, hIJ.out.1, hc.out, hnn.out.2.2.1, hsu, hnn.out.2.2.2.2.2.2, rfl, hidden ⟨hmv.out.1, hdn.out (hcs.out.1.1 hz0), hR5.out.1, hR5.out.2⟩⟩
        · have hz0 : ¬ z < 0 := of_decide_eq_false hzd
          go_wp2
          go_roundg (v - (c + 1))
          case measure => rw [hg.out]; exact hnn.out.2.2.2.1
          case rel => exact ⟨C + 1, J, c + 1, v, by go_num, rfl, hnn.out.1, hIJ.out.2, hnn.out.2.1, hnn.out.2.2.2.2.2.1, hvr, rfl, hidden ⟨hup.out (hcs.out.2.1 hz0), hmv.out.2, hR5.out.1, hR5.out.2⟩⟩
      · obtain rfl : v = u := by omega
        have hIJ : I = J := by omega
        subst hIJ
        obtain ⟨e, he⟩ : ∃ e, hh = v + e := ⟨hh - v, by omega⟩
        obtain ⟨A1, hA1e⟩ : ∃ A1, A.take v = A1 := ⟨_, rfl⟩
        obtain ⟨A2, hA2e⟩ : ∃ A2, A.drop v = A2 := ⟨_, rfl⟩
        obtain ⟨B1, hB1e⟩ : ∃ B1, B.take e = B1 := ⟨_, rfl⟩
        obtain ⟨B2, hB2e⟩ : ∃ B2, B.drop e = B2 := ⟨_, rfl⟩
        have hAA : A = A1 ++ A2 := by rw [← hA1e, ← hA2e, List.take_append_drop]
        have hBB : B = B1 ++ B2 := by rw [← hB1e, ← hB2e, List.take_append_drop]
        have l1 : A1.length = v := by rw [← hA1e, List.length_take]; omega
        have l2 : A2.length = A.length - v := by rw [← hA2e, List.length_drop]
        have l3 : B1.length = e := by rw [← hB1e, List.length_take]; omega
        have l4 : B2.length = B.length - e := by rw [← hB2e, List.length_drop]
        have hlt2 : ∀ x ∈ A1 ++ B1, ∀ y ∈ A2 ++ B2, ltT x y := by
          have := parts_below hH.out.sa hH.out.sb hsu hvr k1 k2 k3 k4 k5 v1 v2
          rw [show hh - v = e by omega, hA1e, hA2e, hB1e, hB2e] at this
          exact this
        obtain ⟨E, hE⟩ : ∃ E, E = H0 + A2.length := ⟨_, rfl⟩
        have hF := hidden (mg_facts hH.out hAA hBB (I := I) (Mid := H0) (E := E) (by omega) (by omega) hE hlt2)
        have eE : (N0 : Int) - (I : Int) = (E : Int) := by omega
        have hnm := hidden (show I = A0 + A1.length ∧ H0 = I + B1.length ∧ E = H0 + A2.length ∧ B0 = E + B2.length ∧ M0 = I + A2.length ∧ E = M0 + B1.length ∧ B0 ≤ n ∧ A0 = P.length ∧ n = B0 + S.length ∧ A1.length + A2.length = A.length ∧ B1.length + B2.length = B.length ∧ (0 < H0 - A0 ∧ A1.length + B1.length < A.length + B.length) ∧ n ≤ 1000 from ⟨by omega, by omega, by omega, by omega, by omega, by omega, by omega, n4, by have := hH.out.hn; omega, by omega, by omega, by omega, hs⟩)
        have hR0 := hidden (show TRow wr b (txt (P ++ (A1 ++ A2 ++ (B1 ++ B2 ++ S)))) from by rw [← hAA, ← hBB]; exact hR)
        have hI1000 : I ≤ 1000 := by omega
        have hE1000 : E ≤ 1000 := by omega
        replace hAp := hidden hAp
        clear v1 v2 hR n1 n2 n3 n4 n5 n6 n7 n8 n9 n10 n11 k1 k2 k3 k4 k5 k6 hI hJ hsu hvr huv hlt hlt2 hA1e hA2e hB1e hB2e hAA hBB l1 l2 l3 l4 hE he
        go_upto_region 39 with fail
        go_cut [185] from 178 to 185 (fun p wx => (∃ q : Bool, p = .bool q ∧ (q = true ↔ 0 < A2.length ∧ 0 < B1.length)) ∧ wx = wr)
        case first =>
          obtain ⟨m1, m2, m3, m4, m5, m6, m7, m8, m9, m10, m11, m12, m13⟩ := hnm.out
          clear hR0
          by_cases h1 : 0 < A2.length
          · have i1 : (I : Int) < (M0 : Int) := by omega
            by_cases h2 : 0 < B1.length
            · have i2 : (M0 : Int) < (E : Int) := by omega
              clear m1 m2 m3 m4 m5 m6 m7 m8 m9 m10 m11 m12 m13
              go_wp2
              go_meet
              case rel => exact ⟨⟨true, rfl, by simp [h1, h2]⟩, rfl⟩
            · have i2 : ¬ (M0 : Int) < (E : Int) := by omega
              clear m1 m2 m3 m4 m5 m6 m7 m8 m9 m10 m11 m12 m13
              go_wp2
              go_meet
              case rel => exact ⟨⟨false, rfl, by simp [h1, h2]⟩, rfl⟩
          · have i1 : ¬ (I : Int) < (M0 : Int) := by omega
            clear m1 m2 m3 m4 m5 m6 m7 m8 m9 m10 m11 m12 m13
            go_wp2
            go_meet
            case rel => exact ⟨⟨false, rfl, by simp [h1]⟩, rfl⟩
        case rest =>
          obtain ⟨⟨qa, rfl, hqa⟩, hwx⟩ := hcut
          replace hwx := hwx.symm
          subst hwx
          replace hqa := hidden hqa
          go_upto_if 185 with fail
          go_cut [] from 186 to 191 (fun wx => Hid (TRow wx b (txt (P ++ (A1 ++ (B1 ++ (A2 ++ (B2 ++ S)))))) ∧ Apart [b] w wx))
          case first =>
            obtain ⟨t1, t2⟩ := txt_rot P A1 A2 B1 B2 S
            have hR0' := hR0.out
            rw [t1] at hR0'
            cases qa
            · have hz : ¬ (0 < A2.length ∧ 0 < B1.length) := fun h => by have := hqa.out.2 h; cases this
              have hT := hidden (show TRow wr b (txt (P ++ (A1 ++ (B1 ++ (A2 ++ (B2 ++ S)))))) from by
                rcases Nat.eq_zero_or_pos A2.length with h1 | h1
                · have : A2 = [] := List.length_eq_zero_iff.1 h1
                  subst this
                  have h2 := hR0.out
                  simpa [List.append_assoc] using h2
                · have : B1 = [] := List.length_eq_zero_iff.1 (by omega)
                  subst this
                  have h2 := hR0.out
                  simpa [List.append_assoc] using h2)
              clear hR0' t1 t2 hz hR0
              go_wp2
              go_meet
              case rel => exact hidden ⟨hT.out, hAp.out⟩
            · obtain ⟨h1, h2⟩ := hqa.out.1 rfl
              obtain ⟨m1, m2, m3, m4, m5, m6, m7, m8, m9, m10, m11, m12, m13⟩ := hnm.out
              have kc := hidden (rotate_calls b n I M0 E (txt (P ++ A1)) (txt A2) (txt B1) (txt (B2 ++ S)) (by rw [txt_len, List.length_append]; omega) (by rw [txt_len, txt_len, List.length_append]; omega) (by rw [txt_len, txt_len, txt_len, List.length_append]; omega) (by rw [txt_len, txt_len, txt_len, txt_len, List.length_append, List.length_append]; omega) (by rw [txt_len]; exact h1) (by rw [txt_len]; exact h2) (by omega) cmpF wr hR0')
              rw [t2] at kc
              clear hR0' t1 t2 h1 h2 hR0 m1 m2 m3 m4 m5 m6 m7 m8 m9 m10 m11 m12 m13
              go_wp2_with fail
              refine kc.out.mono ?_
              rintro ex w6 ⟨rfl, hr6, ha6⟩
              have h6 := hidden (And.intro hr6 (hAp.out.trans ha6))
              clear hr6 ha6
              go_wp2
              go_meet
              case rel => exact h6
          case rest =>
            rename World => w7
            have hR7 := hidden hcut.out.1
            have hA7 := hidden hcut.out.2
            clear hcut hR0 hAp hqa
            go_upto_region 41 with fail
            go_cut [199] from 192 to 199 (fun p wx => (∃ q : Bool, p = .bool q ∧ (q = true ↔ 0 < A1.length ∧ 0 < B1.length)) ∧ wx = w7)
            case first =>
              obtain ⟨m1, m2, m3, m4, m5, m6, m7, m8, m9, m10, m11, m12, m13⟩ := hnm.out
              by_cases h1 : 0 < A1.length
              · have i1 : (A0 : Int) < (I : Int) := by omega
                by_cases h2 : 0 < B1.length
                · have i2 : (I : Int) < (H0 : Int) := by omega
                  clear m1 m2 m3 m4 m5 m6 m7 m8 m9 m10 m11 m12 m13
                  go_wp2
                  go_meet
                  case rel => exact ⟨⟨true, rfl, by simp [h1, h2]⟩, rfl⟩
                · have i2 : ¬ (I : Int) < (H0 : Int) := by omega
                  clear m1 m2 m3 m4 m5 m6 m7 m8 m9 m10 m11 m12 m13
                  go_wp2
                  go_meet
                  case rel => exact ⟨⟨false, rfl, by simp [h1, h2]⟩, rfl⟩
              · have i1 : ¬ (A0 : Int) < (I : Int) := by omega
                clear m1 m2 m3 m4 m5 m6 m7 m8 m9 m10 m11 m12 m13
                go_wp2
                go_meet
                case rel => exact ⟨⟨false, rfl, by simp [h1]⟩, rfl⟩
            case rest =>
              obtain ⟨⟨qb, rfl, hqb⟩, hwx⟩ := hcut
              replace hwx := hwx.symm
              subst hwx
              replace hqb := hidden hqb
              go_upto_if 199 with fail
              go_cut [] from 200 to 205 (fun wx => Hid (∃ M1 : List TT, M1.Perm (A1 ++ B1) ∧ Srt M1 ∧ TRow wx b (txt (P ++ (M1 ++ (A2 ++ (B2 ++ S))))) ∧ Apart [b] w wx))
              case first =>
                cases qb
                · have hz : ¬ (0 < A1.length ∧ 0 < B1.length) := fun h => by have := hqb.out.2 h; cases this
                  have hT := hidden (show ∃ M1 : List TT, M1.Perm (A1 ++ B1) ∧ Srt M1 ∧ TRow w7 b (txt (P ++ (M1 ++ (A2 ++ (B2 ++ S))))) ∧ Apart [b] w w7 from by
                    rcases Nat.eq_zero_or_pos A1.length with h1 | h1
                    · have : A1 = [] := List.length_eq_zero_iff.1 h1
                      subst this
                      exact ⟨B1, by simp, hF.out.t1, by have h2 := hR7.out; simpa using h2, hA7.out⟩
                    · have : B1 = [] := List.length_eq_zero_iff.1 (by omega)
                      subst this
                      exact ⟨A1, by simp, hF.out.s1, by have h2 := hR7.out; simpa using h2, hA7.out⟩)
                  clear hz hR7 hA7
                  go_wp2
                  go_meet
                  case rel => exact hT
                · obtain ⟨h1, h2⟩ := hqb.out.1 rfl
                  obtain ⟨m1, m2, m3, m4, m5, m6, m7, m8, m9, m10, m11, m12, m13⟩ := hnm.out
                  have kc := hidden (kI.out A0 I H0 P A1 B1 (A2 ++ (B2 ++ S)) w7 (by omega) h1 h2 (hF.out.pre1 w7 hR7.out))
                  unfold MgPost at kc
                  clear h1 h2 hR7 m1 m2 m3 m4 m5 m6 m7 m8 m9 m10 m11 m12 m13
                  go_wp2_with fail
                  refine kc.out.mono ?_
                  rintro ex w8 ⟨rfl, ⟨M1, p1, p2, p3⟩, ha8⟩
                  have h8 := hidden (show ∃ M1 : List TT, M1.Perm (A1 ++ B1) ∧ Srt M1 ∧ TRow w8 b (txt (P ++ (M1 ++ (A2 ++ (B2 ++ S))))) ∧ Apart [b] w w8 from ⟨M1, p1, p2, p3, hA7.out.trans ha8⟩)
                  clear p1 p2 p3 ha8
                  go_wp2
                  go_meet
                  case rel => exact h8
              case rest =>
                rename World => w9
                obtain ⟨M1, p1, p2, p3, p4⟩ := hcut.out
                have hR9 := hidden p3
                have hA9 := hidden p4
                replace p1 := hidden p1
                replace p2 := hidden p2
                clear hcut hR7 hA7 hqb p3 p4
                go_upto_region 43 with fail
                go_cut [213] from 206 to 213 (fun p wx => (∃ q : Bool, p = .bool q ∧ (q = true ↔ 0 < A2.length ∧ 0 < B2.length)) ∧ wx = w9)
                case first =>
                  obtain ⟨m1, m2, m3, m4, m5, m6, m7, m8, m9, m10, m11, m12, m13⟩ := hnm.out
                  by_cases h1 : 0 < A2.length
                  · have i1 : (H0 : Int) < (E : Int) := by omega
                    by_cases h2 : 0 < B2.length
                    · have i2 : (E : Int) < (B0 : Int) := by omega
                      clear m1 m2 m3 m4 m5 m6 m7 m8 m9 m10 m11 m12 m13
                      go_wp2
                      go_meet
                      case rel => exact ⟨⟨true, rfl, by simp [h1, h2]⟩, rfl⟩
                    · have i2 : ¬ (E : Int) < (B0 : Int) := by omega
                      clear m1 m2 m3 m4 m5 m6 m7 m8 m9 m10 m11 m12 m13
                      go_wp2
                      go_meet
                      case rel => exact ⟨⟨false, rfl, by simp [h1, h2]⟩, rfl⟩
                  · have i1 : ¬ (H0 : Int) < (E : Int) := by omega
                    clear m1 m2 m3 m4 m5 m6 m7 m8 m9 m10 m11 m12 m13
                    go_wp2
                    go_meet
                    case rel => exact ⟨⟨false, rfl, by simp [h1]⟩, rfl⟩
                case rest =>
                  obtain ⟨⟨qc, rfl, hqc⟩, hwx⟩ := hcut
                  replace hwx := hwx.symm
                  subst hwx
                  replace hqc := hidden hqc
                  cases qc
                  · have hz : ¬ (0 < A2.length ∧ 0 < B2.length) := fun h => by have := hqc.out.2 h; cases this
                    have hT := hidden (show ∃ M : List TT, M.Perm (A ++ B) ∧ Srt M ∧ TRow w9 b (txt (P ++ (M ++ S))) from by
                      rcases Nat.eq_zero_or_pos A2.length with h1 | h1
                      · have : A2 = [] := List.length_eq_zero_iff.1 h1
                        subst this
                        obtain ⟨f1, f2⟩ := hF.out.fin M1 B2 p1.out p2.out (by simp) hF.out.t2
                        exact ⟨M1 ++ B2, f1, f2, by have h2 := hR9.out; simpa [List.append_assoc] using h2⟩
                      · have : B2 = [] := List.length_eq_zero_iff.1 (by omega)
                        subst this
                        obtain ⟨f1, f2⟩ := hF.out.fin M1 A2 p1.out p2.out (by simp) hF.out.s2
                        exact ⟨M1 ++ A2, f1, f2, by have h2 := hR9.out; simpa [List.append_assoc] using h2⟩)
                    clear hz hR9
                    go_wp2
                    first
                      | (refine bodyPost_ret (results_none rfl _ _ _) rfl ?_; exact ⟨rfl, hT.out, hA9.out⟩)
                      | (go_end0; exact ⟨rfl, hT.out, hA9.out⟩)
                  · obtain ⟨h1, h2⟩ := hqc.out.1 rfl
                    obtain ⟨m1, m2, m3, m4, m5, m6, m7, m8, m9, m10, m11, m12, m13⟩ := hnm.out
                    have kc := hidden (kI.out H0 E B0 (P ++ M1) A2 B2 S w9 (by omega) h1 h2 (hF.out.pre2 M1 w9 p1.out hR9.out))
                    unfold MgPost at kc
                    clear h1 h2 hR9 m1 m2 m3 m4 m5 m6 m7 m8 m9 m10 m11 m12 m13
                    go_wp2_with fail
                    refine kc.out.mono ?_
                    rintro ex w8 ⟨rfl, ⟨M2, r1, r2, r3⟩, ha8⟩
                    have hT := hidden (show ∃ M : List TT, M.Perm (A ++ B) ∧ Srt M ∧ TRow w8 b (txt (P ++ (M ++ S))) from by
                      obtain ⟨f1, f2⟩ := hF.out.fin M1 M2 p1.out p2.out r1 r2
                      exact ⟨M1 ++ M2, f1, f2, by simpa [List.append_assoc] using r3⟩)
                    have hA8 := hidden (hA9.out.trans ha8)
                    clear r1 r2 r3 ha8
                    go_wp2
                    first
                      | (refine bodyPost_ret (results_none rfl _ _ _) rfl ?_; exact ⟨rfl, hT.out, hA8.out⟩)
                      | (go_end0; exact ⟨rfl, hT.out, hA8.out⟩)
/-- The merge of two rows in order. -/
theorem merge_calls (b n : Nat) : ∀ (k A0 M0 B0 : Nat) (P A B S : List TT) (w : World), A.length + B.length ≤ k → 0 < A.length → 0 < B.length → MgPre w b n A0 M0 B0 P A B S →
    Calls Tryd.prog 28 #[.slice (some ⟨b, 0, none⟩) n n, .int .i64 (A0 : Int), .int .i64 (M0 : Int), .int .i64 (B0 : Int), cmpF] w (MgPost w b P A B S) := by
  intro k
  induction k with
  | zero => intro A0 M0 B0 P A B S w hk hA hB h; omega
  | succ k ih =>
    intro A0 M0 B0 P A B S w hk hA hB h
    by_cases h1 : A.length = 1
    · obtain ⟨x, rfl⟩ := List.length_eq_one_iff.1 h1
      exact merge_first b n A0 M0 B0 P x B S w h hB
    · by_cases h2 : B.length = 1
      · obtain ⟨x, rfl⟩ := List.length_eq_one_iff.1 h2
        exact merge_last b n A0 M0 B0 P A x S w h (by omega)
      · exact merge_long b n A0 M0 B0 P A B S w h (by omega) (by omega) (fun A0' M0' B0' P' A' B' S' wx hl hA' hB' h' => ih A0' M0' B0' P' A' B' S' wx (by omega) hA' hB' h')
end Go.Proofs.YtnlcaabkbnppkaaDoor
