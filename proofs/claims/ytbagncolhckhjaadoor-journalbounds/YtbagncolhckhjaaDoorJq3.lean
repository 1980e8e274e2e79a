/- JournalBounds answers true, whatever it is given, and changes nothing that was there. -/
import Derived.Test.YtbagncolhckhjaaDoorJq2
namespace Go.Proofs.YtbagncolhckhjaaDoor
open Go.RowKit Go.Extern.Stop Go.Stop Go.Extern
set_option maxRecDepth 100000

theorem rows_any (q : Int) (h0 : 1 ≤ q) (h1 : q < 1099511627776) (w : World) :
    Calls Tryd.prog 31 #[.int .i64 q] w fun e w' => e = .returned (.int .i64 ((q + 15).tdiv 16)) ∧ w' = w := by
  have e1 : q.tdiv 16 = q / 16 := Int.tdiv_eq_ediv_of_nonneg (by omega)
  have e2 : q.tmod 16 = q % 16 := Int.tmod_eq_emod_of_nonneg (by omega)
  have h3 : q / 16 + min (q % 16) 1 = (q + 15).tdiv 16 := by rw [Int.tdiv_eq_ediv_of_nonneg (by omega)]; omega
  have h4 : 0 ≤ q / 16 ∧ q / 16 < 1099511627776 := by omega
  have h5 : 0 ≤ q % 16 ∧ q % 16 < 16 := by omega
  generalize q / 16 = a at e1 h3 h4
  generalize q % 16 = b at e2 h3 h5
  generalize (q + 15).tdiv 16 = c at h3 ⊢
  replace h3 := hidden h3
  go_enter Tryd.func31, Tryd.ntmps31
  go_wp2
  go_ret
  refine ⟨?_, rfl⟩
  rw [← h3.out]
  rfl
theorem need_any (q : Int) (h1 : q < 1099511627776) (w : World) :
    Calls Tryd.prog 18 #[.int .i64 q] w fun e w' => e = .returned (.int .i64 (max q 1 + (max q 1 + 15).tdiv 16 + 2)) ∧ w' = w := by
  obtain ⟨m, hm⟩ : ∃ m, max q 1 = m := ⟨_, rfl⟩
  have hm1 : 1 ≤ m ∧ m < 1099511627776 := by omega
  have hR := hidden (rows_any m hm1.1 hm1.2 w)
  rw [hm]
  have hr' : 0 ≤ (m + 15).tdiv 16 ∧ (m + 15).tdiv 16 ≤ 1099511627776 := by rw [Int.tdiv_eq_ediv_of_nonneg (by omega)]; omega
  have hE : Hid (m + ((m + 15).tdiv 16 + 2) = m + (m + 15).tdiv 16 + 2) := hidden (by omega)
  generalize (m + 15).tdiv 16 = c at hr' hR hE ⊢
  have hs : ¬ (9223372036854775807 - (c + 2) < m) := by omega
  go_enter Tryd.func18, Tryd.ntmps18
  go_wp2_with fail
  refine (hR.out).mono ?_
  rintro ev w1 ⟨rfl, rfl⟩
  go_wp2
  go_ret
  exact ⟨congrArg (fun x => Ending.returned (Value.int .i64 x)) hE.out, rfl⟩
theorem need_le (Q : Nat) : needN Q ≤ 2 * Q + 2 := by have := rowsN_le Q; unfold needN; omega
/-- A Journal that may not be. -/
theorem open_bad {w0 : World} {d g n : Nat} {mem : Nat → Int} {writes left : Int} {w : World} (h : Sys w0 d g n mem writes left w) (a q : Int)
    (hb : q < 1 ∨ 200 < q ∨ (1 ≤ q ∧ q ≤ 200 ∧ a < 0) ∨ ∃ Q : Nat, q = Q ∧ 1 ≤ Q ∧ Q ≤ 200 ∧ 0 ≤ a ∧ (n : Int) - ((needN Q : Nat) : Int) < a) :
    Calls Tryd.prog 9 #[ptr d, .int .i64 a, .int .i64 q] w fun e w' => ∃ b, e = .returned (.tuple #[.pointer none, flt b]) ∧ Chain w' [(sJournal, sNone)] (num 1) (flt b) ∧ Below w.heap.size w w' := by
  have hfew := h.disk.few
  have hBl := hidden (sys_blocks h)
  clear h
  rcases hb with h1 | h1 | ⟨h1, h2, h3⟩ | ⟨Q, rfl, h1, h2, h3, h4⟩
  · go_enter Tryd.func9, Tryd.ntmps9
    go_wp2_with fail
    refine (jwrong_some w [] (num 1) _ _ rfl).mono ?_
    rintro ev w4 ⟨b4, rfl, hc4, -, hB4⟩
    have hE := hidden (And.intro hc4 hB4)
    clear hc4 hB4
    go_wp2
    go_ret2
    exact ⟨_, rfl, hE.out⟩
  · have h2 : ¬ q < 1 := by omega
    go_enter Tryd.func9, Tryd.ntmps9
    go_wp2_with fail
    refine (jwrong_some w [] (num 1) _ _ rfl).mono ?_
    rintro ev w4 ⟨b4, rfl, hc4, -, hB4⟩
    have hE := hidden (And.intro hc4 hB4)
    clear hc4 hB4
    go_wp2
    go_ret2
    exact ⟨_, rfl, hE.out⟩
  · go_enter Tryd.func9, Tryd.ntmps9
    go_wp2_with fail
    refine (jwrong_some w [] (num 1) _ _ rfl).mono ?_
    rintro ev w4 ⟨b4, rfl, hc4, -, hB4⟩
    have hE := hidden (And.intro hc4 hB4)
    clear hc4 hB4
    go_wp2
    go_ret2
    exact ⟨_, rfl, hE.out⟩
  · have hN := hidden (need_calls Q h1 (by omega) w)
    have hnl := need_le Q
    have h1' : ¬ (Q : Int) < 1 := by omega
    have h2' : ¬ (200 : Int) < (Q : Int) := by omega
    generalize needN Q = own at hN h4 hnl
    go_enter Tryd.func9, Tryd.ntmps9
    go_wp2_with (first
      | (go_at_call 25; refine (hBl.out).mono ?_; rintro ev w1 ⟨rfl, rfl⟩)
      | (go_at_call 18; refine (hN.out).mono ?_; rintro ev w1 ⟨rfl, rfl⟩)
      | (go_at_call 26; refine (jwrong_some _ [] (num 1) _ _ rfl).mono ?_; rintro ev w4 ⟨b4, rfl, hc4, -, hB4⟩; have hE := hidden (And.intro hc4 hB4); clear hc4 hB4))
    go_ret2
    exact ⟨_, rfl, hE.out⟩
theorem open_nil (w : World) (a q : Int) :
    Calls Tryd.prog 9 #[.pointer none, .int .i64 a, .int .i64 q] w fun e w' => ∃ b, e = .returned (.tuple #[.pointer none, flt b]) ∧ Chain w' [(sJournal, sNone)] (num 1) (flt b) ∧ Below w.heap.size w w' := by
  go_enter Tryd.func9, Tryd.ntmps9
  go_wp2_with fail
  refine (jwrong_some w [] (num 1) _ _ rfl).mono ?_
  rintro ev w4 ⟨b4, rfl, hc4, -, hB4⟩
  have hE := hidden (And.intro hc4 hB4)
  clear hc4 hB4
  go_wp2
  go_ret2
  exact ⟨_, rfl, hE.out⟩
set_option maxHeartbeats 4000000 in
theorem journalBounds_calls (a q : Int) (w : World) (hG0 : Ground w) (hGT0 : GT w) :
    Calls Tryd.prog 7 #[.int .i64 a, .int .i64 q] w fun e w' => e = .returned (.bool true) ∧ Below w.heap.size w w' := by
  have hG := hidden hG0
  have hGT := hidden hGT0
  clear hGT0
  go_enter Tryd.func7, Tryd.ntmps7
  go_wp2_with fail
  refine (sys_new 300 (by omega) (by omega) w hG0).mono ?_
  rintro ev w1 ⟨rfl, hS⟩
  replace hS := hidden hS
  clear hG0
  by_cases h1 : q < 1
  · have h1' : ¬ 1 ≤ q := by omega
    have hq40 : q < 1099511627776 := by omega
    have hO := hidden (open_bad hS.out a q (Or.inl h1))
    go_wp2_with fail
    refine (hO.out).mono ?_
    rintro ev w2 ⟨b2, rfl, hc2, hB2⟩
    have hB2' := hidden (hS.out.below.trans (hB2.mono hS.out.below.size))
    replace hc2 := hidden hc2
    clear hO hB2 hS
    go_wp2_with fail
    refine (law_is 1 (by decide) _ sJournal sNone [] _ hc2.out (hGT.out.below hB2'.out)).mono ?_
    rintro ev w3 ⟨rfl, hB3⟩
    have hB4 := hidden (hB2'.out.trans (hB3.mono hB2'.out.size))
    clear hB3 hB2' hc2
    go_wp2_with fail
    refine (open_nil _ _ _).mono ?_
    rintro ev w5 ⟨b5, rfl, hc5, hB5⟩
    have hB5' := hidden (hB4.out.trans (hB5.mono hB4.out.size))
    replace hc5 := hidden hc5
    clear hB5 hB4
    have hN := hidden (need_any q hq40 w5)
    have hm5 : max (min q 1099511627776) 1 = max q 1 := by omega
    have hmr : 1 ≤ max q 1 ∧ max q 1 < 1099511627776 := by omega
    have htr : 0 ≤ (max q 1 + 15).tdiv 16 ∧ (max q 1 + 15).tdiv 16 ≤ 1099511627776 := by rw [Int.tdiv_eq_ediv_of_nonneg (by omega)]; omega
    generalize max q 1 = mm at hN hm5 hmr htr
    generalize htd : (mm + 15).tdiv 16 = tt at hN htr
    go_wp2_with fail
    refine (hN.out).mono ?_
    rintro ev w6 ⟨rfl, rfl⟩
    clear hN
    go_wp2_with fail
    refine (law_is 1 (by decide) _ sJournal sNone [] _ hc5.out (hGT.out.below hB5'.out)).mono ?_
    rintro ev w7 ⟨rfl, hB7⟩
    have hB7' := hidden (hB5'.out.trans (hB7.mono hB5'.out.size))
    clear hB7 hB5' hc5
    go_wp2_with fail
    refine (jawake_calls _ (hG.out.below hB7'.out)).mono ?_
    rintro ev w8 ⟨rfl, hB8⟩
    have hE := hidden (hB7'.out.trans (hB8.mono hB7'.out.size))
    clear hB8 hB7'
    go_wp2
    go_ret
    exact ⟨rfl, hE.out⟩
  · have h1' : 1 ≤ q := by omega
    by_cases h2 : 200 < q
    · have h2' : ¬ q ≤ 200 := by omega
      by_cases hq40 : q < 1099511627776
      · have hO := hidden (open_bad hS.out a q (Or.inr (Or.inl h2)))
        go_wp2_with fail
        refine (hO.out).mono ?_
        rintro ev w2 ⟨b2, rfl, hc2, hB2⟩
        have hB2' := hidden (hS.out.below.trans (hB2.mono hS.out.below.size))
        replace hc2 := hidden hc2
        clear hO hB2 hS
        go_wp2_with fail
        refine (law_is 1 (by decide) _ sJournal sNone [] _ hc2.out (hGT.out.below hB2'.out)).mono ?_
        rintro ev w3 ⟨rfl, hB3⟩
        have hB4 := hidden (hB2'.out.trans (hB3.mono hB2'.out.size))
        clear hB3 hB2' hc2
        go_wp2_with fail
        refine (open_nil _ _ _).mono ?_
        rintro ev w5 ⟨b5, rfl, hc5, hB5⟩
        have hB5' := hidden (hB4.out.trans (hB5.mono hB4.out.size))
        replace hc5 := hidden hc5
        clear hB5 hB4
        have hN := hidden (need_any q hq40 w5)
        have hm5 : max (min q 1099511627776) 1 = max q 1 := by omega
        have hmr : 1 ≤ max q 1 ∧ max q 1 < 1099511627776 := by omega
        have htr : 0 ≤ (max q 1 + 15).tdiv 16 ∧ (max q 1 + 15).tdiv 16 ≤ 1099511627776 := by rw [Int.tdiv_eq_ediv_of_nonneg (by omega)]; omega
        generalize max q 1 = mm at hN hm5 hmr htr
        generalize htd : (mm + 15).tdiv 16 = tt at hN htr
        go_wp2_with fail
        refine (hN.out).mono ?_
        rintro ev w6 ⟨rfl, rfl⟩
        clear hN
        go_wp2_with fail
        refine (law_is 1 (by decide) _ sJournal sNone [] _ hc5.out (hGT.out.below hB5'.out)).mono ?_
        rintro ev w7 ⟨rfl, hB7⟩
        have hB7' := hidden (hB5'.out.trans (hB7.mono hB5'.out.size))
        clear hB7 hB5' hc5
        go_wp2_with fail
        refine (jawake_calls _ (hG.out.below hB7'.out)).mono ?_
        rintro ev w8 ⟨rfl, hB8⟩
        have hE := hidden (hB7'.out.trans (hB8.mono hB7'.out.size))
        clear hB8 hB7'
        go_wp2
        go_ret
        exact ⟨rfl, hE.out⟩
      · have hq41 : 1099511627776 ≤ q := by omega
        have hO := hidden (open_bad hS.out a q (Or.inr (Or.inl h2)))
        go_wp2_with fail
        refine (hO.out).mono ?_
        rintro ev w2 ⟨b2, rfl, hc2, hB2⟩
        have hB2' := hidden (hS.out.below.trans (hB2.mono hS.out.below.size))
        replace hc2 := hidden hc2
        clear hO hB2 hS
        go_wp2_with fail
        refine (law_is 1 (by decide) _ sJournal sNone [] _ hc2.out (hGT.out.below hB2'.out)).mono ?_
        rintro ev w3 ⟨rfl, hB3⟩
        have hB4 := hidden (hB2'.out.trans (hB3.mono hB2'.out.size))
        clear hB3 hB2' hc2
        go_wp2_with fail
        refine (open_nil _ _ _).mono ?_
        rintro ev w5 ⟨b5, rfl, hc5, hB5⟩
        have hB5' := hidden (hB4.out.trans (hB5.mono hB4.out.size))
        replace hc5 := hidden hc5
        clear hB5 hB4
        go_wp2_with fail
        refine (law_is 1 (by decide) _ sJournal sNone [] _ hc5.out (hGT.out.below hB5'.out)).mono ?_
        rintro ev w7 ⟨rfl, hB7⟩
        have hB7' := hidden (hB5'.out.trans (hB7.mono hB5'.out.size))
        clear hB7 hB5' hc5
        go_wp2_with fail
        refine (jawake_calls _ (hG.out.below hB7'.out)).mono ?_
        rintro ev w8 ⟨rfl, hB8⟩
        have hE := hidden (hB7'.out.trans (hB8.mono hB7'.out.size))
        clear hB8 hB7'
        go_wp2
        go_ret
        exact ⟨rfl, hE.out⟩
    · have h2' : q ≤ 200 := by omega
      have hq40 : q < 1099511627776 := by omega
      by_cases h3 : a < 0
      · have h3' : ¬ 0 ≤ a := by omega
        have hO := hidden (open_bad hS.out a q (Or.inr (Or.inr (Or.inl ⟨h1', h2', h3⟩))))
        go_wp2_with fail
        refine (hO.out).mono ?_
        rintro ev w2 ⟨b2, rfl, hc2, hB2⟩
        have hB2' := hidden (hS.out.below.trans (hB2.mono hS.out.below.size))
        replace hc2 := hidden hc2
        clear hO hB2 hS
        go_wp2_with fail
        refine (law_is 1 (by decide) _ sJournal sNone [] _ hc2.out (hGT.out.below hB2'.out)).mono ?_
        rintro ev w3 ⟨rfl, hB3⟩
        have hB4 := hidden (hB2'.out.trans (hB3.mono hB2'.out.size))
        clear hB3 hB2' hc2
        go_wp2_with fail
        refine (open_nil _ _ _).mono ?_
        rintro ev w5 ⟨b5, rfl, hc5, hB5⟩
        have hB5' := hidden (hB4.out.trans (hB5.mono hB4.out.size))
        replace hc5 := hidden hc5
        clear hB5 hB4
        have hN := hidden (need_any q hq40 w5)
        have hm5 : max (min q 1099511627776) 1 = max q 1 := by omega
        have hmr : 1 ≤ max q 1 ∧ max q 1 < 1099511627776 := by omega
        have htr : 0 ≤ (max q 1 + 15).tdiv 16 ∧ (max q 1 + 15).tdiv 16 ≤ 1099511627776 := by rw [Int.tdiv_eq_ediv_of_nonneg (by omega)]; omega
        generalize max q 1 = mm at hN hm5 hmr htr
        generalize htd : (mm + 15).tdiv 16 = tt at hN htr
        go_wp2_with fail
        refine (hN.out).mono ?_
        rintro ev w6 ⟨rfl, rfl⟩
        clear hN
        go_wp2_with fail
        refine (law_is 1 (by decide) _ sJournal sNone [] _ hc5.out (hGT.out.below hB5'.out)).mono ?_
        rintro ev w7 ⟨rfl, hB7⟩
        have hB7' := hidden (hB5'.out.trans (hB7.mono hB5'.out.size))
        clear hB7 hB5' hc5
        go_wp2_with fail
        refine (jawake_calls _ (hG.out.below hB7'.out)).mono ?_
        rintro ev w8 ⟨rfl, hB8⟩
        have hE := hidden (hB7'.out.trans (hB8.mono hB7'.out.size))
        clear hB8 hB7'
        go_wp2
        go_ret
        exact ⟨rfl, hE.out⟩
      · have h3' : 0 ≤ a := by omega
        obtain ⟨Q, hQ⟩ := Int.eq_ofNat_of_zero_le (show 0 ≤ q by omega)
        have hNd : Hid (∀ wx, Calls Tryd.prog 18 #[.int .i64 q] wx fun e w' => e = .returned (.int .i64 (needN Q : Nat)) ∧ w' = wx) := hidden fun wx => by rw [hQ]; exact need_calls Q (by omega) (by omega) wx
        have hnl := need_le Q
        by_cases h4 : (300 : Int) - ((needN Q : Nat) : Int) < a
        · by_cases h5 : a ≤ 300
          · have h6 : ¬ ((needN Q : Nat) : Int) ≤ 300 - a := by omega
            have hO := hidden (open_bad hS.out a q (Or.inr (Or.inr (Or.inr ⟨Q, hQ, by omega, by omega, h3', h4⟩))))
            clear h4
            have hnl' : ((needN Q : Nat) : Int) ≤ 402 ∧ 0 ≤ ((needN Q : Nat) : Int) := by omega
            clear hnl hQ
            generalize ((needN Q : Nat) : Int) = own at hNd h6 hnl'
            go_wp2_with fail
            refine (hO.out).mono ?_
            rintro ev w2 ⟨b2, rfl, hc2, hB2⟩
            have hB2' := hidden (hS.out.below.trans (hB2.mono hS.out.below.size))
            replace hc2 := hidden hc2
            clear hO hB2 hS
            go_wp2_with fail
            refine (hNd.out _).mono ?_
            rintro ev w3 ⟨rfl, rfl⟩
            go_wp2_with fail
            refine (law_is 1 (by decide) _ sJournal sNone [] _ hc2.out (hGT.out.below hB2'.out)).mono ?_
            rintro ev w3 ⟨rfl, hB3⟩
            have hB4 := hidden (hB2'.out.trans (hB3.mono hB2'.out.size))
            clear hB3 hB2' hc2
            go_wp2_with fail
            refine (open_nil _ _ _).mono ?_
            rintro ev w5 ⟨b5, rfl, hc5, hB5⟩
            have hB5' := hidden (hB4.out.trans (hB5.mono hB4.out.size))
            replace hc5 := hidden hc5
            clear hB5 hB4
            have hN := hidden (need_any q hq40 w5)
            have hm5 : max (min q 1099511627776) 1 = max q 1 := by omega
            have hmr : 1 ≤ max q 1 ∧ max q 1 < 1099511627776 := by omega
            have htr : 0 ≤ (max q 1 + 15).tdiv 16 ∧ (max q 1 + 15).tdiv 16 ≤ 1099511627776 := by rw [Int.tdiv_eq_ediv_of_nonneg (by omega)]; omega
            generalize max q 1 = mm at hN hm5 hmr htr
            generalize htd : (mm + 15).tdiv 16 = tt at hN htr
            go_wp2_with fail
            refine (hN.out).mono ?_
            rintro ev w6 ⟨rfl, rfl⟩
            clear hN
            go_wp2_with fail
            refine (law_is 1 (by decide) _ sJournal sNone [] _ hc5.out (hGT.out.below hB5'.out)).mono ?_
            rintro ev w7 ⟨rfl, hB7⟩
            have hB7' := hidden (hB5'.out.trans (hB7.mono hB5'.out.size))
            clear hB7 hB5' hc5
            go_wp2_with fail
            refine (jawake_calls _ (hG.out.below hB7'.out)).mono ?_
            rintro ev w8 ⟨rfl, hB8⟩
            have hE := hidden (hB7'.out.trans (hB8.mono hB7'.out.size))
            clear hB8 hB7'
            go_wp2
            go_ret
            exact ⟨rfl, hE.out⟩
          · have hO := hidden (open_bad hS.out a q (Or.inr (Or.inr (Or.inr ⟨Q, hQ, by omega, by omega, h3', h4⟩))))
            clear h4 hnl hNd hQ
            go_wp2_with fail
            refine (hO.out).mono ?_
            rintro ev w2 ⟨b2, rfl, hc2, hB2⟩
            have hB2' := hidden (hS.out.below.trans (hB2.mono hS.out.below.size))
            replace hc2 := hidden hc2
            clear hO hB2 hS
            go_wp2_with fail
            refine (law_is 1 (by decide) _ sJournal sNone [] _ hc2.out (hGT.out.below hB2'.out)).mono ?_
            rintro ev w3 ⟨rfl, hB3⟩
            have hB4 := hidden (hB2'.out.trans (hB3.mono hB2'.out.size))
            clear hB3 hB2' hc2
            go_wp2_with fail
            refine (open_nil _ _ _).mono ?_
            rintro ev w5 ⟨b5, rfl, hc5, hB5⟩
            have hB5' := hidden (hB4.out.trans (hB5.mono hB4.out.size))
            replace hc5 := hidden hc5
            clear hB5 hB4
            have hN := hidden (need_any q hq40 w5)
            have hm5 : max (min q 1099511627776) 1 = max q 1 := by omega
            have hmr : 1 ≤ max q 1 ∧ max q 1 < 1099511627776 := by omega
            have htr : 0 ≤ (max q 1 + 15).tdiv 16 ∧ (max q 1 + 15).tdiv 16 ≤ 1099511627776 := by rw [Int.tdiv_eq_ediv_of_nonneg (by omega)]; omega
            generalize max q 1 = mm at hN hm5 hmr htr
            generalize htd : (mm + 15).tdiv 16 = tt at hN htr
            go_wp2_with fail
            refine (hN.out).mono ?_
            rintro ev w6 ⟨rfl, rfl⟩
            clear hN
            go_wp2_with fail
            refine (law_is 1 (by decide) _ sJournal sNone [] _ hc5.out (hGT.out.below hB5'.out)).mono ?_
            rintro ev w7 ⟨rfl, hB7⟩
            have hB7' := hidden (hB5'.out.trans (hB7.mono hB5'.out.size))
            clear hB7 hB5' hc5
            go_wp2_with fail
            refine (jawake_calls _ (hG.out.below hB7'.out)).mono ?_
            rintro ev w8 ⟨rfl, hB8⟩
            have hE := hidden (hB7'.out.trans (hB8.mono hB7'.out.size))
            clear hB8 hB7'
            go_wp2
            go_ret
            exact ⟨rfl, hE.out⟩
        · subst hQ
          obtain ⟨A, rfl⟩ := Int.eq_ofNat_of_zero_le h3'
          have h5 : (A : Int) ≤ 300 := by omega
          have h6 : ((needN Q : Nat) : Int) ≤ 300 - (A : Int) := by omega
          have hO := hidden (open_idle hS.out (by decide) A Q ⟨by omega, by omega⟩ (by omega) (idle_zero A))
          go_wp2_with fail
          refine (hO.out).mono ?_
          rintro ev w2 ⟨jb, rfl, hJ, hjb, hB2⟩
          have hB4 := hidden (hS.out.below.trans (hB2.mono hS.out.below.size))
          replace hJ := hidden hJ
          clear hO hB2 hS
          go_wp2_with fail
          refine (hNd.out _).mono ?_
          rintro ev w3 ⟨rfl, rfl⟩
          go_wp2_with fail
          refine (law_is_nil _ _ _).mono ?_
          rintro ev w3 ⟨rfl, rfl⟩
          go_wp2_with fail
          refine (most_calls _ _ _ hJ.out).mono ?_
          rintro ev w3 ⟨rfl, rfl⟩
          clear hJ
          go_wp2_with fail
          refine (open_nil _ _ _).mono ?_
          rintro ev w5 ⟨b5, rfl, hc5, hB5⟩
          have hB5' := hidden (hB4.out.trans (hB5.mono hB4.out.size))
          replace hc5 := hidden hc5
          clear hB5 hB4
          have hN := hidden (need_any (Q : Int) hq40 w5)
          have hm5 : max (min (Q : Int) 1099511627776) 1 = max (Q : Int) 1 := by omega
          have hmr : 1 ≤ max (Q : Int) 1 ∧ max (Q : Int) 1 < 1099511627776 := by omega
          have htr : 0 ≤ (max (Q : Int) 1 + 15).tdiv 16 ∧ (max (Q : Int) 1 + 15).tdiv 16 ≤ 1099511627776 := by rw [Int.tdiv_eq_ediv_of_nonneg (by omega)]; omega
          generalize max (Q : Int) 1 = mm at hN hm5 hmr htr
          generalize htd : (mm + 15).tdiv 16 = tt at hN htr
          go_wp2_with fail
          refine (hN.out).mono ?_
          rintro ev w6 ⟨rfl, rfl⟩
          clear hN
          go_wp2_with fail
          refine (law_is 1 (by decide) _ sJournal sNone [] _ hc5.out (hGT.out.below hB5'.out)).mono ?_
          rintro ev w7 ⟨rfl, hB7⟩
          have hB7' := hidden (hB5'.out.trans (hB7.mono hB5'.out.size))
          clear hB7 hB5' hc5
          go_wp2_with fail
          refine (jawake_calls _ (hG.out.below hB7'.out)).mono ?_
          rintro ev w8 ⟨rfl, hB8⟩
          have hE := hidden (hB7'.out.trans (hB8.mono hB7'.out.size))
          clear hB8 hB7'
          go_wp2
          go_ret
          exact ⟨rfl, hE.out⟩
end Go.Proofs.YtbagncolhckhjaaDoor
