/- slices.stableCmpFunc at texts, forty at most. -/
import Derived.Test.YtnlcaabkbnppkaaDoorS9
namespace Go.Proofs.YtnlcaabkbnppkaaDoor
open Go Go.RowKit
set_option maxRecDepth 100000

/-- The first twenty and the others, before any merge. -/
structure Ins2 (A1 A2 : List TT) (i : Nat) (M1 M2 : List TT) : Prop where
  p1 : M1.Perm A1
  p2 : M2.Perm A2
  f1 : i = 0 → M1 = A1
  f2 : i < 2 → M2 = A2
  s1 : 0 < i → Srt M1
  s2 : 1 < i → Srt M2
structure Bl2 (A1 A2 N1 N2 : List TT) : Prop where
  p1 : N1.Perm A1
  p2 : N2.Perm A2
  s1 : Srt N1
  s2 : Srt N2
set_option maxHeartbeats 16000000 in
theorem stable_calls (b n : Nat) (A : List TT) (hn : n = A.length) (h40 : n ≤ 40) (hbig : ∀ t ∈ A, t.1.length ≤ 1000000) (hT : A.Pairwise (fun y z => y.2 < z.2)) (w : World) (h : TRow w b (txt A)) :
    Calls Tryd.prog 17 #[.slice (some ⟨b, 0, none⟩) n n, .int .i64 (n : Int), cmpF] w fun e w' => e = .returned (.tuple #[]) ∧ (∃ M : List TT, M.Perm A ∧ Srt M ∧ TRow w' b (txt M)) ∧ Apart [b] w w' := by
  obtain ⟨A1, hA1⟩ : ∃ A1, A.take 20 = A1 := ⟨_, rfl⟩
  obtain ⟨A2, hA2⟩ : ∃ A2, A.drop 20 = A2 := ⟨_, rfl⟩
  have hAA : A = A1 ++ A2 := by rw [← hA1, ← hA2, List.take_append_drop]
  have l1 : A1.length = min 20 n := by rw [← hA1, List.length_take, hn]
  have l2 : A2.length = n - 20 := by rw [← hA2, List.length_drop, hn]
  clear hA1 hA2
  subst hAA
  rw [List.pairwise_append] at hT
  obtain ⟨t1, t2, t3⟩ := hT
  have kI1 := hidden (fun (a c : Nat) (ha : a = 0) (hc : c = A1.length) (S : List TT) (hS : n = A1.length + S.length) (wx : World) (hr : TRow wx b (txt (A1 ++ S))) => insertion_calls b n a c [] A1 S (by simpa using ha) (by simp [hc]) (by simpa using hS) (by omega) (fun t ht => hbig t (by simp [ht])) t1 wx (by simpa using hr))
  have kI2 := hidden (fun (a c : Nat) (P : List TT) (ha : a = P.length) (hP : P.length = A1.length) (hc : c = n) (wx : World) (hr : TRow wx b (txt (P ++ A2))) => insertion_calls b n a c P A2 [] ha (by rw [hc, hP, hn, List.length_append]) (by rw [hP, hn, List.length_append]; simp) (by omega) (fun t ht => hbig t (by simp [ht])) t2 wx (by rw [List.append_nil]; exact hr))
  have kI3 := hidden (fun (a c : Nat) (P : List TT) (ha : a = n) (hc : c = n) (hP : P.length = n) (wx : World) (hr : TRow wx b (txt P)) => insertion_calls b n a c P [] [] (by rw [ha, hP]) (by simp [hP, hc]) (by simp [hP]) (by omega) (fun t ht => by cases ht) List.Pairwise.nil wx (by simpa using hr))
  have kM := hidden (fun (a m c : Nat) (ha : a = 0) (hm : m = 20) (hc : c = n) (N1 N2 : List TT) (hN : Bl2 A1 A2 N1 N2) (h1 : A1.length = 20) (h2 : 0 < A2.length) (wx : World) (hr : TRow wx b (txt (N1 ++ N2))) => merge_calls b n (N1.length + N2.length) a m c [] N1 N2 [] wx (Nat.le_refl _) (by rw [hN.p1.length_eq, h1]; omega) (by rw [hN.p2.length_eq]; exact h2)
    ⟨by simpa using ha, by simp [hN.p1.length_eq, h1, hm], by simp [hN.p1.length_eq, hN.p2.length_eq, hc, hn], by simp [hN.p1.length_eq, hN.p2.length_eq, hn], by omega, fun t ht => hbig t (by
      rcases List.mem_append.1 ht with ht | ht
      · simp [hN.p1.subset ht]
      · simp [hN.p2.subset ht]), hN.s1, hN.s2, fun x hx y hy => t3 x (hN.p1.subset hx) y (hN.p2.subset hy), by simpa using hr⟩)
  have hR := hidden h
  have hl := hidden (And.intro l1 l2)
  have hnl := hidden hn
  clear hbig t1 t2 t3 h l1 l2 hn
  go_enter Tryd.func17, Tryd.ntmps17
  go_wp2_with fail
  go_loopg [7, 8] 3 (fun g sa sb wr => ∃ (i a c : Nat) (M1 M2 : List TT), g = 3 - i ∧ i ≤ 2 ∧ a ≤ n ∧ a = 20 * i ∧ c = a + 20 ∧ sa = .int .i64 (a : Int) ∧ sb = .int .i64 (c : Int) ∧ Hid (Ins2 A1 A2 i M1 M2 ∧ TRow wr b (txt (M1 ++ M2)) ∧ Apart [b] w wr))
  case atStart => exact ⟨0, 0, 20, A1, A2, rfl, by omega, by omega, rfl, rfl, rfl, rfl, hidden ⟨⟨List.Perm.refl _, List.Perm.refl _, fun _ => rfl, fun _ => rfl, fun h => by omega, fun h => by omega⟩, hR.out, Apart.refl _ _⟩⟩
  case round =>
    obtain ⟨i, a, c, M1, M2, hg, hi2, han, hai, hca, rfl, rfl, hV⟩ := hrel
    replace hg := hidden hg
    clear hR
    obtain ⟨hI, hR, hAp⟩ := hV.out
    have q1 := hI.p1.length_eq
    have q2 := hI.p2.length_eq
    obtain ⟨l1, l2⟩ := hl.out
    have hnl' := hnl.out
    rw [List.length_append] at hnl'
    clear hV
    by_cases hlt : (c : Int) ≤ (n : Int)
    · obtain ⟨d, hd⟩ : ∃ d, d = c + 20 := ⟨_, rfl⟩
      have ed : (c : Int) + 20 = (d : Int) := by omega
      have hc40 : c ≤ 40 := by omega
      by_cases h0 : i = 0
      · have hM2 := hI.f2 (by omega)
        have hM1 := hI.f1 h0
        subst hM1 hM2
        have kc := hidden (kI1.out a c (by omega) (by omega) M2 (by omega) wr hR)
        have hnx := hidden (show c = 20 * (i + 1) ∧ d = c + 20 ∧ i + 1 ≤ 2 ∧ c ≤ n ∧ 3 - (i + 1) < 3 - i from ⟨by omega, by omega, by omega, by omega, by omega⟩)
        replace hAp := hidden hAp
        replace hI := hidden hI
        replace h0 := hidden h0
        clear hR q1 q2 l1 l2 hnl' hi2 hai hca hd
        go_wp2_with fail
        refine kc.out.mono ?_
        rintro ex w6 ⟨rfl, ⟨M, p1, p2, p3⟩, ha6⟩
        have h6 := hidden (show Ins2 M1 M2 (i + 1) M M2 ∧ TRow w6 b (txt (M ++ M2)) ∧ Apart [b] w w6 from ⟨⟨p1, List.Perm.refl _, fun h => by omega, fun _ => rfl, fun _ => p2, fun h => by have := h0.out; omega⟩, p3, hAp.out.trans ha6⟩)
        clear p1 p2 p3 ha6
        go_wp2
        go_roundg (3 - (i + 1))
        case measure => rw [hg.out]; exact hnx.out.2.2.2.2
        case rel => exact ⟨i + 1, c, d, M, M2, rfl, hnx.out.2.2.1, hnx.out.2.2.2.1, hnx.out.1, hnx.out.2.1, rfl, by go_num, h6⟩
      · have h1 : i = 1 := by omega
        have hM2 := hI.f2 (by omega)
        subst hM2
        have kc := hidden (kI2.out a c M1 (by omega) q1 (by omega) wr hR)
        have hnx := hidden (show c = 20 * (i + 1) ∧ d = c + 20 ∧ i + 1 ≤ 2 ∧ c ≤ n ∧ 3 - (i + 1) < 3 - i from ⟨by omega, by omega, by omega, by omega, by omega⟩)
        replace hAp := hidden hAp
        have hs1 := hidden (hI.s1 (by omega))
        have hp1 := hidden hI.p1
        replace h1 := hidden h1
        clear hI hR q1 q2 l1 l2 hnl' hi2 hai hca hd h0
        go_wp2_with fail
        refine kc.out.mono ?_
        rintro ex w6 ⟨rfl, ⟨M, p1, p2, p3⟩, ha6⟩
        have h6 := hidden (show Ins2 A1 M2 (i + 1) M1 M ∧ TRow w6 b (txt (M1 ++ M)) ∧ Apart [b] w w6 from ⟨⟨hp1.out, p1, fun h => by omega, fun h => by have := h1.out; omega, fun _ => hs1.out, fun _ => p2⟩, by simpa using p3, hAp.out.trans ha6⟩)
        clear p1 p2 p3 ha6
        go_wp2
        go_roundg (3 - (i + 1))
        case measure => rw [hg.out]; exact hnx.out.2.2.2.2
        case rel => exact ⟨i + 1, c, d, M1, M, rfl, hnx.out.2.2.1, hnx.out.2.2.2.1, hnx.out.1, hnx.out.2.1, rfl, by go_num, h6⟩
    · have hnx := hidden (show i ≤ 2 ∧ a ≤ n ∧ a = 20 * i ∧ ¬ a + 20 ≤ n ∧ M1.length = A1.length ∧ M2.length = A2.length ∧ A1.length = min 20 n ∧ A2.length = n - 20 ∧ n = A1.length + A2.length from ⟨hi2, han, hai, by omega, q1, q2, l1, l2, hnl'⟩)
      replace hI := hidden hI
      replace hR := hidden hR
      replace hAp := hidden hAp
      clear q1 q2 l1 l2 hnl' hi2 hai hca han
      go_upto_region 6 with fail
      go_cut [7, 8] from 23 to 27 (fun p q wx => Hid (∃ N1 N2 : List TT, Bl2 A1 A2 N1 N2 ∧ TRow wx b (txt (N1 ++ N2)) ∧ Apart [b] w wx))
      case first =>
        replace hI := hI.out
        replace hR := hR.out
        obtain ⟨hi2, han, hai, hca, q1, q2, l1, l2, hnl'⟩ := hnx.out
        rcases (show i = 0 ∨ i = 1 ∨ i = 2 by omega) with h0 | h0 | h0
        · have hM2 := hI.f2 (by omega)
          have hM1 := hI.f1 h0
          subst hM1 hM2
          have hz : M2 = [] := List.length_eq_zero_iff.1 (by omega)
          have kc := hidden (kI1.out a n (by omega) (by omega) M2 (by omega) wr hR)
          clear hI hR q1 q2 l1 l2 hnl' hi2 hai hca han hlt h0 hnx
          go_wp2_with fail
          refine kc.out.mono ?_
          rintro ex w6 ⟨rfl, ⟨M, p1, p2, p3⟩, ha6⟩
          have h6 := hidden (show ∃ N1 N2 : List TT, Bl2 M1 M2 N1 N2 ∧ TRow w6 b (txt (N1 ++ N2)) ∧ Apart [b] w w6 from ⟨M, M2, ⟨p1, List.Perm.refl _, p2, by rw [hz]; exact List.Pairwise.nil⟩, p3, hAp.out.trans ha6⟩)
          clear p1 p2 p3 ha6
          go_wp2
          go_meet
          case rel => exact h6
        · have hM2 := hI.f2 (by omega)
          subst hM2
          have kc := hidden (kI2.out a n M1 (by omega) q1 rfl wr hR)
          have hs1 := hidden (hI.s1 (by omega))
          have hp1 := hidden hI.p1
          clear hI hR q1 q2 l1 l2 hnl' hi2 hai hca han hlt h0 hnx
          go_wp2_with fail
          refine kc.out.mono ?_
          rintro ex w6 ⟨rfl, ⟨M, p1, p2, p3⟩, ha6⟩
          have h6 := hidden (show ∃ N1 N2 : List TT, Bl2 A1 M2 N1 N2 ∧ TRow w6 b (txt (N1 ++ N2)) ∧ Apart [b] w w6 from ⟨M1, M, ⟨hp1.out, p1, hs1.out, p2⟩, by simpa using p3, hAp.out.trans ha6⟩)
          clear p1 p2 p3 ha6
          go_wp2
          go_meet
          case rel => exact h6
        · have kc := hidden (kI3.out a n (M1 ++ M2) (by omega) rfl (by rw [List.length_append]; omega) wr hR)
          have hB := hidden (show Bl2 A1 A2 M1 M2 from ⟨hI.p1, hI.p2, hI.s1 (by omega), hI.s2 (by omega)⟩)
          clear hI hR q1 q2 l1 l2 hnl' hi2 hai hca han hlt h0 hnx
          go_wp2_with fail
          refine kc.out.mono ?_
          rintro ex w6 ⟨rfl, ⟨M, p1, p2, p3⟩, ha6⟩
          have h6 := hidden (show ∃ N1 N2 : List TT, Bl2 A1 A2 N1 N2 ∧ TRow w6 b (txt (N1 ++ N2)) ∧ Apart [b] w w6 from ⟨M1, M2, hB.out, by
            have := List.Perm.eq_nil p1
            subst this
            simpa using p3, hAp.out.trans ha6⟩)
          clear p1 p2 p3 ha6
          go_wp2
          go_meet
          case rel => exact h6
      case rest =>
        rename World => w7
        have h7 := hcut
        clear hcut hI hR hAp hnx hlt hg
        obtain ⟨l1, l2⟩ := hl.out
        have hnl' := hnl.out
        rw [List.length_append] at hnl'
        have hnn := hidden (show A1.length = min 20 n ∧ A2.length = n - 20 ∧ n = A1.length + A2.length ∧ n ≤ 40 from ⟨l1, l2, hnl', h40⟩)
        have hmt := hidden (fun (N1 N2 : List TT) (hN : Bl2 A1 A2 N1 N2) (hz : A2.length = 0) => (show N2 = [] from List.length_eq_zero_iff.1 (by rw [hN.p2.length_eq]; exact hz)))
        clear l1 l2 hnl' kI1 kI2 kI3
        go_wp2_with fail
        go_loopg [6] 1 (fun g sb wr => ∃ (j bs : Nat), g = 1 - j ∧ j ≤ 1 ∧ bs = 20 + 20 * j ∧ sb = .int .i64 (bs : Int) ∧ Hid ((j = 0 → ∃ N1 N2 : List TT, Bl2 A1 A2 N1 N2 ∧ TRow wr b (txt (N1 ++ N2)) ∧ Apart [b] w wr) ∧ (j = 1 → (∃ M : List TT, M.Perm (A1 ++ A2) ∧ Srt M ∧ TRow wr b (txt M)) ∧ Apart [b] w wr)))
        case atStart => exact ⟨0, 20, rfl, by omega, rfl, rfl, hidden ⟨fun _ => h7.out, fun h => by omega⟩⟩
        case round =>
          obtain ⟨j, bs, hg, hj1, hbs, rfl, hV⟩ := hrel
          replace hg := hidden hg
          clear h7
          by_cases hlt : (bs : Int) < (n : Int)
          · have hj0 : j = 0 := by omega
            have h0 := hidden (hV.out.1 hj0)
            obtain ⟨dd, hdd⟩ : ∃ dd, dd = 2 * bs := ⟨_, rfl⟩
            have ed1 : 2 * (bs : Int) = (dd : Int) := by omega
            have ed2 : (bs : Int) * 2 = (dd : Int) := by omega
            have hb40 : bs ≤ 40 := by omega
            have hd80 : dd ≤ 80 := by omega
            have hbn := hidden (show bs = 20 ∧ dd = 40 ∧ bs < n ∧ 1 - (j + 1) < 1 - j ∧ j + 1 ≤ 1 ∧ dd = 20 + 20 * (j + 1) from ⟨by omega, by omega, by omega, by omega, by omega, by omega⟩)
            replace hj0 := hidden hj0
            clear hV hbs hdd hj1
            go_wp2_with fail
            go_loopg [7, 8] 1 (fun g sa sc wx => ∃ (k a c : Nat), g = 1 - k ∧ k ≤ 1 ∧ a = 40 * k ∧ c = 40 + 40 * k ∧ sa = .int .i64 (a : Int) ∧ sc = .int .i64 (c : Int) ∧ Hid ((k = 0 → ∃ N1 N2 : List TT, Bl2 A1 A2 N1 N2 ∧ TRow wx b (txt (N1 ++ N2)) ∧ Apart [b] w wx) ∧ (k = 1 → (∃ M : List TT, M.Perm (A1 ++ A2) ∧ Srt M ∧ TRow wx b (txt M)) ∧ Apart [b] w wx)))
            case atStart => exact ⟨0, 0, dd, rfl, by omega, rfl, hbn.out.2.1, rfl, rfl, hidden ⟨fun _ => h0.out, fun h => by omega⟩⟩
            case round =>
              obtain ⟨k, a, c, hg2, hk1, hak, hck, rfl, rfl, hV⟩ := hrel
              replace hg2 := hidden hg2
              clear h0
              obtain ⟨m, hm⟩ : ∃ m, m = a + bs := ⟨_, rfl⟩
              have em : (a : Int) + (bs : Int) = (m : Int) := by omega
              have ha80 : a ≤ 80 := by omega
              by_cases hlt2 : (c : Int) ≤ (n : Int)
              · have hk0 : k = 0 := by omega
                obtain ⟨N1, N2, hN, hR, hAp⟩ := hV.out.1 hk0
                obtain ⟨l1, l2, l3, l4⟩ := hnn.out
                obtain ⟨b1, b2, b3, b4, b5, b6⟩ := hbn.out
                have kc := hidden (kM.out a m c (by omega) (by omega) (by omega) N1 N2 hN (by omega) (by omega) wr hR)
                unfold MgPost at kc
                obtain ⟨c2, hc2⟩ : ∃ c2, c2 = c + dd := ⟨_, rfl⟩
                have ec2 : (c : Int) + (dd : Int) = (c2 : Int) := by omega
                have hc80 : c ≤ 80 := by omega
                have hnx := hidden (show 1 - (k + 1) < 1 - k ∧ k + 1 ≤ 1 ∧ c = 40 * (k + 1) ∧ c2 = 40 + 40 * (k + 1) from ⟨by omega, by omega, by omega, by omega⟩)
                have hpp := hidden (fun (M : List TT) (hp : M.Perm (N1 ++ N2)) => hp.trans (hN.p1.append hN.p2))
                replace hAp := hidden hAp
                clear hV hk1 hak hck hm hk0 hN hR l1 l2 l3 l4 b1 b2 b3 b4 b5 b6 hc2
                go_wp2_with fail
                refine kc.out.mono ?_
                rintro ex w8 ⟨rfl, ⟨M, p1, p2, p3⟩, ha8⟩
                have hF := hidden (show (∃ M : List TT, M.Perm (A1 ++ A2) ∧ Srt M ∧ TRow w8 b (txt M)) ∧ Apart [b] w w8 from ⟨⟨M, hpp.out M p1, p2, by simpa using p3⟩, hAp.out.trans ha8⟩)
                clear p1 p2 p3 ha8
                go_wp2
                go_roundg (1 - (k + 1))
                case measure => rw [hg2.out]; exact hnx.out.1
                case rel => exact ⟨k + 1, c, c2, rfl, hnx.out.2.1, hnx.out.2.2.1, hnx.out.2.2.2, rfl, by go_num, hidden ⟨fun h => by omega, fun _ => hF.out⟩⟩
              · obtain ⟨l1, l2, l3, l4⟩ := hnn.out
                obtain ⟨b1, b2, b3, b4, b5, b6⟩ := hbn.out
                rcases (show k = 0 ∨ k = 1 by omega) with hk0 | hk0
                · obtain ⟨N1, N2, hN, hR, hAp⟩ := hV.out.1 hk0
                  have kc := hidden (kM.out a m n (by omega) (by omega) rfl N1 N2 hN (by omega) (by omega) wr hR)
                  unfold MgPost at kc
                  have hmn : (m : Int) < (n : Int) := by omega
                  have hpp := hidden (fun (M : List TT) (hp : M.Perm (N1 ++ N2)) => hp.trans (hN.p1.append hN.p2))
                  replace hAp := hidden hAp
                  clear hV hk1 hak hck hm hk0 hN hR l1 l2 l3 l4 b1 b2 b3 b4 b5 b6
                  go_wp2_with fail
                  refine kc.out.mono ?_
                  rintro ex w8 ⟨rfl, ⟨M, p1, p2, p3⟩, ha8⟩
                  have hF := hidden (show (∃ M : List TT, M.Perm (A1 ++ A2) ∧ Srt M ∧ TRow w8 b (txt M)) ∧ Apart [b] w w8 from ⟨⟨M, hpp.out M p1, p2, by simpa using p3⟩, hAp.out.trans ha8⟩)
                  clear p1 p2 p3 ha8
                  go_wp2
                  go_roundg (1 - (j + 1))
                  case measure => rw [hg.out]; exact hbn.out.2.2.2.1
                  case rel => exact ⟨j + 1, dd, rfl, hbn.out.2.2.2.2.1, hbn.out.2.2.2.2.2, by go_num, hidden ⟨fun h => by omega, fun _ => hF.out⟩⟩
                · have hF := hidden (hV.out.2 hk0)
                  have hmn : ¬ (m : Int) < (n : Int) := by omega
                  clear hV hk1 hak hck hm hk0 l1 l2 l3 l4 b1 b2 b3 b4 b5 b6
                  go_wp2
                  go_roundg (1 - (j + 1))
                  case measure => rw [hg.out]; exact hbn.out.2.2.2.1
                  case rel => exact ⟨j + 1, dd, rfl, hbn.out.2.2.2.2.1, hbn.out.2.2.2.2.2, by go_num, hidden ⟨fun h => by omega, fun _ => hF.out⟩⟩
          · have hF := hidden (show (∃ M : List TT, M.Perm (A1 ++ A2) ∧ Srt M ∧ TRow wr b (txt M)) ∧ Apart [b] w wr from by
              obtain ⟨l1, l2, l3, l4⟩ := hnn.out
              rcases (show j = 0 ∨ j = 1 by omega) with hj0 | hj0
              · obtain ⟨N1, N2, hN, hR, hAp⟩ := hV.out.1 hj0
                have hz : A2.length = 0 := by omega
                have hN2 := hmt.out N1 N2 hN hz
                have hA2 : A2 = [] := List.length_eq_zero_iff.1 hz
                subst hN2
                refine ⟨⟨N1, by rw [hA2, List.append_nil]; exact hN.p1, hN.s1, by simpa using hR⟩, hAp⟩
              · exact hV.out.2 hj0)
            clear hV hbs hj1
            go_wp2
            first
              | (refine bodyPost_ret (results_none rfl _ _ _) rfl ?_; exact ⟨rfl, hF.out.1, hF.out.2⟩)
              | (go_end0; exact ⟨rfl, hF.out.1, hF.out.2⟩)
end Go.Proofs.YtnlcaabkbnppkaaDoor
