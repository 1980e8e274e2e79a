/- JournalFull answers true: a block of the Journal's own. -/
import Derived.Test.YtbagncolhckhjaaDoorJf0
namespace Go.Proofs.YtbagncolhckhjaaDoor
open Go.RowKit Go.Extern.Stop Go.Stop Go.Extern
set_option maxRecDepth 100000

set_option maxHeartbeats 3000000 in
theorem journalFull_k2 (m0 kind : Int) (hkind : bits .and .i64 kind 3 = 2) (w : World) (hG0 : Ground w) (hGT0 : GT w) :
    Calls Tryd.prog 4 #[.int .i64 m0, .int .i64 kind] w fun e w' => e = .returned (.bool true) ∧ Below w.heap.size w w' := by
  obtain ⟨I, hI0, hI1⟩ := tmod_nat (bits .and .i64 m0 255) 19 (and_low m0 255 (by decide)).1
  rw [show ((19 : Nat) : Int) + 1 = 20 from rfl] at hI0
  obtain ⟨N, hN⟩ : ∃ N, N = I + 1 := ⟨_, rfl⟩
  have hN1 : (I : Int) + 1 = (N : Int) := by omega
  have hN2 : 1 ≤ N ∧ N ≤ 20 := by omega
  clear hN
  have hnd := needF N hN2.2
  have hG := hidden hG0
  have hGT := hidden hGT0
  clear hGT0
  go_enter Tryd.func4, Tryd.ntmps4
  go_wp2_with fail
  refine (sys_new 120 (by omega) (by omega) w hG0).mono ?_
  rintro ev w1 ⟨rfl, hS1⟩
  have hOp := hidden (open_idle hS1 (by decide) 5 N ⟨by omega, by omega⟩ (by omega) (idle_zero 5))
  have hdl1 := hS1.disk.lt
  have hbs1 := hS1.below.size
  replace hS1 := hidden hS1
  clear hG0
  go_wp2_with fail
  refine (hOp.out).mono ?_
  rintro ev w2 ⟨jb, rfl, hJ2, hjb, hB2⟩
  have hsz2 := hB2.size
  have hjl2 := hJ2.lt
  have hS2 := hidden (hS1.out.more hB2)
  replace hJ2 := hidden hJ2
  clear hOp hB2 hS1
  go_wp2_with fail
  refine (most_calls _ _ _ hJ2.out).mono ?_
  rintro ev w2 ⟨rfl, rfl⟩
  go_wp2_with fail
  go_loopg [9, 10] N (fun gk va q wr => ∃ k : Nat, k ≤ N ∧ gk = N - k ∧ q = .int .i64 k ∧ Hid (∃ psA, Lies w2.heap.size wr va psA (seqG noF fF k) ∧ Below w2.heap.size w2 wr))
  case atStart => exact ⟨0, by omega, rfl, rfl, hidden ⟨[], ⟨GOwn.nil _ _, rfl⟩, Below.refl _ _⟩⟩
  case round =>
    obtain ⟨k, hk, hgk, rfl, hI⟩ := hrel
    replace hgk := hidden hgk
    obtain ⟨psA, hT, hB⟩ := hI.out
    clear hI
    by_cases hlt : k < N
    · have hlt2 : (k : Int) < (N : Int) := by omega
      have hFA := hidden (fill_calls (fF k) wr)
      replace hT := hidden hT
      replace hB := hidden hB
      go_wp2_with fail
      refine (hFA.out).mono ?_
      rintro ev w3 ⟨rfl, hw3⟩
      have hB3 : Below wr.heap.size wr w3 := by rw [hw3]; exact (Below.refl _ _).alloc (Nat.le_refl _) _
      have hd := fill_data w2.heap.size wr hB.out.size (noF k : Nat) (fF k)
      rw [← hw3] at hd
      obtain ⟨va4, w4, hrun4, hL4, hB4, -⟩ := push (hT.out.keep (Apart.of_below (bs := []) hB3) (by simp)) (by omega) (Nat.le_trans hB.out.size hB3.size) wr.heap.size hd 31
      have hE := hidden (And.intro hL4 ((hB.out.trans (hB3.mono hB.out.size)).trans hB4))
      obtain ⟨X, hX⟩ : ∃ X, noF k = X := ⟨_, rfl⟩
      rw [hX] at hrun4
      have hno : (60 : Int) + (k : Int) = (X : Int) := by rw [← hX]; show _ = ((60 + k : Nat) : Int); omega
      have hX2 : X ≤ 100 := by rw [← hX]; show 60 + k ≤ 100; omega
      replace hX := hidden hX
      replace hrun4 := hidden hrun4
      clear hw3 hFA hT hB4 hB hL4 hB3 hd
      go_wp2_with (at_builtin; refine wpList_append_eq _ _ 31 rfl _ _ va4 w4 rfl rfl hrun4.out rfl ?_)
      go_roundg (N - (k + 1))
      case measure => rw [hgk.out]; omega
      case rel => exact ⟨k + 1, hlt, rfl, by go_num, hidden ⟨_, hE.out⟩⟩
    · have hlt2 : ¬ (k : Int) < (N : Int) := by omega
      obtain rfl : k = N := by omega
      have hdb : w.heap.size + 1 < w2.heap.size ∧ w.heap.size < w2.heap.size := by omega
      have hCa := hidden (commit_good (hS2.out.more hB) (by decide) ⟨by omega, by omega⟩ jb 5 k ⟨by omega, by omega⟩ (hJ2.out.below hB) ⟨by omega, by omega⟩ (by omega) (idle_zero 5) (seqG noF fF k) (by rw [seqG_len]; omega) (by rw [seqG_len]; omega) (goodF k (by omega)) _ (hT.off (by rw [seqG_len]; omega) hdb.1 hdb.2))
      replace hT := hidden hT
      replace hB := hidden hB
      go_wp2_with fail
      refine (hCa.out).mono ?_
      rintro ev w3 ⟨r3, rfl, hDn⟩
      rcases hDn.out with ⟨rfl, left3, hS3, -, hl3⟩ | ⟨_, _, _, _, _, _, _, _, hne⟩
      rotate_left
      · exact absurd rfl hne
      rw [hl3 rfl] at hS3
      have hsa := seq_all (mem := fun _ => 0) (goodF k (by omega)) (need_room (by rw [seqG_len]; omega))
      have hm60 := hsa.2.1 0 (by omega)
      generalize laid (allWs 5 (seqG noF fF k)) (fun _ => 0) = mem3 at hS3 hm60 hsa
      generalize (0 : Int) + ((allWs 5 (seqG noF fF k)).length : Nat) = wr3 at hS3
      have hT3 := hidden (hT.out.keep hDn.apart (by simp; exact hdb))
      have hsz3 := hDn.apart.size
      have hszB := hB.out.size
      have hJ3 := hidden ((hJ2.out.below hB.out).keep hDn.apart (by simp; omega))
      have hNo := hidden (commit_none hS3 jb 5 k ⟨by omega, by omega⟩ hJ3.out (by omega) (.slice none 0 0) ⟨none, 0, rfl, by simp, fun h => absurd rfl h⟩)
      replace hS3 := hidden hS3
      replace hm60 := hidden hm60
      clear hDn hCa hl3 hT hB hS2 hJ2 hsa
      go_wp2_with fail
      refine (hNo.out).mono ?_
      rintro ev w4 ⟨rfl, hB4⟩
      have hS4 := hidden (hS3.out.more hB4)
      have hT4 := hidden (hT3.out.keep (Apart.of_below (bs := []) hB4) (by simp))
      have hJ4 := hidden (hJ3.out.below hB4)
      have hsz4 := hB4.size
      clear hNo hS3 hT3 hJ3 hB4
      go_wp2_with fail
      refine (sys_writes hS4.out).mono ?_
      rintro ev w4 ⟨rfl, rfl⟩
      have kN : ∀ wx, Calls Tryd.prog 18 #[.int .i64 (k : Int)] wx fun e w' => e = .returned (.int .i64 (needN k : Nat)) ∧ w' = wx := fun wx => need_calls k (by omega) (by omega) wx
      have hOwn : ∀ y : Int, 5 ≤ 5 + (bits .and .i64 y 255).tmod ((needN k : Nat) : Int) ∧ 5 + (bits .and .i64 y 255).tmod ((needN k : Nat) : Int) < 5 + ((needN k : Nat) : Int) := fun y => by
        have h0 : 0 ≤ bits .and .i64 y 255 := (and_low y 255 (by decide)).1
        have h1 := Int.tmod_nonneg ((needN k : Nat) : Int) h0
        have h2 := Int.tmod_lt_of_pos (bits .and .i64 y 255) (b := ((needN k : Nat) : Int)) (by have : 3 ≤ needN k := by { unfold needN; omega }; omega)
        exact ⟨by omega, by omega⟩
      have hOw2 : ∀ y : Int, IntKind.i64.wrap (5 + (bits .and .i64 y 255).tmod ((needN k : Nat) : Int)) = 5 + (bits .and .i64 y 255).tmod ((needN k : Nat) : Int) := fun y => wrap_pos _ (by have := hOwn y; omega) (by have := hOwn y; omega)
      have kCm : ∀ (wx : World) (blk : Nat) (x : Int), Below w4.heap.size w4 wx → BytesAt wx (.slice (some ⟨blk, 0, none⟩) 128 128) (fillL 0) → (5 ≤ x ∧ x < 5 + ((needN k : Nat) : Int)) → Calls Tryd.prog 11 #[ptr jb, .slice (some ⟨wx.heap.size, 0, none⟩) 1 1] (wx.alloc (.cells #[.int .i64 x, .slice (some ⟨blk, 0, none⟩) 128 128] 35)) fun e w' => ∃ b, e = .returned (flt b) ∧ Chain w' [(sJournal, sNone)] (num 1) (flt b) ∧ Below w4.heap.size w4 w' := fun wx blk x hx hby hxr => by
        have hga := gat_one wx x _ _ _ _ hby
        have hB7 : Below w4.heap.size w4 (wx.alloc (.cells #[.int .i64 x, .slice (some ⟨blk, 0, none⟩) 128 128] 35)) := hx.alloc hx.size _
        refine (commit_bad (hS4.out.more hB7) jb 5 k ⟨by omega, by omega⟩ (hJ4.out.below hB7) (by omega) _ _ hga (bad_own _ _ _ _ _ (by omega) (by omega))).mono ?_
        rintro e w' ⟨b, rfl, hc, -, hB⟩
        exact ⟨b, rfl, hc, hB7.trans (hB.mono hB7.size)⟩
      have kF0 : ∀ wx, Below w4.heap.size w4 wx → Calls Tryd.prog 10 #[.int .i64 0] wx fun e w' => ∃ b, e = .returned (.slice (some ⟨b, 0, none⟩) 128 128) ∧ Hid (BytesAt w' (.slice (some ⟨b, 0, none⟩) 128 128) (fillL 0) ∧ Below w4.heap.size w4 w') := fun wx hx => (fill_bytes 0 wx).mono fun _ _ ⟨b, h1, _, h3, h4, _⟩ => ⟨b, h1, hidden ⟨h3, hx.trans (h4.mono hx.size)⟩⟩
      have hnz : (((needN k : Nat) : Int) == 0) = false := beq_eq_false_iff_ne.2 (by have : 3 ≤ needN k := by { unfold needN; omega }; omega)
      have hnz2 : needN k ≠ 0 := by have : 3 ≤ needN k := by { unfold needN; omega }; omega
      have hnz3 : ((needN k : Nat) : Int) ≠ 0 := by omega
      have hnz4 : ¬ needN k = 0 := hnz2
      replace kCm := hidden kCm
      replace kF0 := hidden kF0
      replace hOwn := hidden hOwn
      replace hOw2 := hidden hOw2
      generalize needN k = nd at kN hOwn hOw2 kCm hnz hnd hnz2 hnz3 hnz4
      go_upto_region 26 with fail
      go_region_with (first
        | (go_at_call 18; refine (kN _).mono ?_; rintro ev w7 ⟨rfl, rfl⟩)
        | (go_at_call 10; refine (kF0.out _ (Below.refl _ _).drew).mono ?_; rintro ev w8 ⟨b8, rfl, hE8⟩)
        | (go_at_call 11; refine (kCm.out _ _ _ hE8.out.2 hE8.out.1 (by first | exact hOwn.out _ | (rw [hOw2.out]; exact hOwn.out _))).mono ?_; rintro ev w9 ⟨b9, rfl, hc9, hB9⟩; have hHid9 := hidden (And.intro hc9 hB9); clear hc9 hB9))
      all_goals (
        go_wp2_with fail
        obtain ⟨hc9, hB9⟩ := hHid9.out
        clear hHid9 kCm kF0 kN hOwn hOw2
        have hS10 := hidden (hS4.out.more hB9)
        have hJ10 := hidden (hJ4.out.below hB9)
        have hR := hidden (jread_calls hS10.out (by decide) jb 5 k hJ10.out 60 (by omega))
        rw [show blockL mem3 60 = fillL (fF 0) from hm60.out, show fF 0 = 1 from rfl] at hR
        have hcH := hidden hc9
        clear hc9 hS4 hJ4 hT4 hB9
        go_wp2_with fail
        refine (hR.out).mono ?_
        rintro ev w10 ⟨v10, rfl, hb10, hB10⟩
        obtain ⟨A3, Z3, hZ, hF⟩ := fill_op 1
        rw [← hZ] at hb10
        clear hZ hR
        have hS11 := hS10.out.more hB10
        have hc10 := hcH.out.below hB10
        have kI : ∀ w1, Below w10.heap.size w10 w1 → Calls Tryd.prog 19 #[flt b9, .string sJournal, .string sNone, .int .i64 1] w1 fun ev w' => ev = .returned (.bool true) ∧ Below w10.heap.size w10 w' := fun w1 h1 =>
          (law_is 1 (by decide) w1 sJournal sNone [] (flt b9) (hc10.below h1) ((hGT.out.below hS11.below).below h1)).mono fun _ _ h => ⟨h.1, h1.trans (h.2.mono h1.size)⟩
        have kC : ∀ w1, Below w10.heap.size w10 w1 → (convert 32 9 v10).run Tryd.prog w1 = .ok (.string (ofBytes Z3)) w1 := fun w1 h1 => conv_bytes w1 _ _ (hb10.below h1)
        have kF : ∀ w1, Below w10.heap.size w10 w1 → ∃ v, Calls Tryd.prog 10 #[.int .i64 1] w1 fun ev w' => ev = .returned v ∧ Below w10.heap.size w10 w' ∧ (convert 32 9 v).run Tryd.prog w' = .ok (.string (ofBytes Z3)) w' := fun w1 h1 => by
          obtain ⟨v, hv, hc⟩ := hF.out w1
          exact ⟨v, hc.mono fun _ w' ⟨h2, h3⟩ => ⟨h2, by rw [h3]; exact h1.alloc h1.size _, by rw [h3]; exact conv_bytes _ _ _ hv⟩⟩
        have kW : ∀ w1, Below w10.heap.size w10 w1 → Calls Tryd.prog 17 #[ptr (w.heap.size + 1)] w1 fun ev w' => ev = .returned (.int .i64 wr3) ∧ Below w10.heap.size w10 w' := fun w1 h1 => (sys_writes (hS11.more h1)).mono fun _ _ h => ⟨h.1, by rw [h.2]; exact h1⟩
        have kA : ∀ w1, Below w10.heap.size w10 w1 → Calls Tryd.prog 15 #[] w1 fun ev w' => ev = .returned (.bool true) ∧ Below w10.heap.size w10 w' := fun w1 h1 => (jawake_calls w1 (hS11.ground.below h1)).mono fun _ _ h => ⟨h.1, h1.trans (h.2.mono h1.size)⟩
        have hS0 : Below w10.heap.size w10 w10.drew := (Below.refl _ _).drew
        have hB0 := hidden hS11.below
        replace kI := hidden kI
        replace kC := hidden kC
        replace kF := hidden kF
        replace kW := hidden kW
        replace kA := hidden kA
        clear hb10 hF hS11 hS10 hJ10 hB10 hc10 hcH hm60
        generalize ofBytes Z3 = ZZ at kC kF
        go_upto_region 28 with fail
        go_cut [4] (fun c wx => c = .bool true ∧ Below w10.heap.size w10 wx)
        case first =>
          clear hB0
          refine wp_region_any (by kernel_rfl) ?_
          try (change wpAny _ _ _ _ _ _ _ (World.drew _))
          refine wpAny_take (i := 0) (v := ?_) rfl (by kernel_rfl) (by kernel_rfl) (by kernel_rfl) (fun _ _ _ h => h) (Or.inl ⟨by rfl, ?_⟩) ?_
          rotate_left
          · intro w; go_simp; try (with_reducible rfl)
          refine wpAny_ready (rs := [1]) (by kernel_rfl) (by simp) ?_
          refine AllReady.cons rfl (fun K hK => ?_) AllReady.nil
          go_simp
          try (refine hK _ _ ?_; clear hK K)
          refine wpAny_ready (rs := [2]) (by kernel_rfl) (by simp) ?_
          refine AllReady.cons rfl (fun K hK => ?_) AllReady.nil
          go_simp
          go_wp2_with (go_at_call 19; refine (kI.out _ hS0).mono ?_; rintro ev w11 ⟨rfl, hB11⟩)
          try (refine hK _ _ ?_; clear hK K)
          refine wpAny_ready (rs := [3]) (by kernel_rfl) (by simp) ?_
          refine AllReady.cons rfl (fun K hK => ?_) AllReady.nil
          go_simp
          try (refine hK _ _ ?_; clear hK K)
          refine wpAny_take (i := 4) (v := ?_) rfl (by kernel_rfl) (by kernel_rfl) (by kernel_rfl) (fun _ _ _ h => h) (Or.inl ⟨by rfl, ?_⟩) ?_
          rotate_left
          · intro w; go_simp; try (with_reducible rfl)
          refine wpAny_take (i := 6) (v := ?_) rfl (by kernel_rfl) (by kernel_rfl) (by kernel_rfl) (fun _ _ _ h => h) (Or.inl ⟨by rfl, ?_⟩) ?_
          rotate_left
          · intro w; go_simp; try (with_reducible rfl)
          refine wpAny_ready (rs := [5]) (by kernel_rfl) (by simp) ?_
          refine AllReady.cons rfl (fun K hK => ?_) AllReady.nil
          go_simp
          go_wp2_with (go_at_call 17; refine (kW.out _ hB11).mono ?_; rintro ev w12 ⟨rfl, hB12⟩; have hc12 := kC.out w12 hB12)
          try (refine hK _ _ ?_; clear hK K)
          refine wpAny_ready (rs := [7]) (by kernel_rfl) (by simp) ?_
          refine AllReady.cons rfl (fun K hK => ?_) AllReady.nil
          go_simp
          try (refine hK _ _ ?_; clear hK K)
          refine wpAny_ready (rs := [8]) (by kernel_rfl) (by simp) ?_
          refine AllReady.cons rfl (fun K hK => ?_) AllReady.nil
          go_simp
          try (refine hK _ _ ?_; clear hK K)
          refine wpAny_ready (rs := [9]) (by kernel_rfl) (by simp) ?_
          refine AllReady.cons rfl (fun K hK => ?_) AllReady.nil
          go_simp
          try (refine hK _ _ ?_; clear hK K)
          refine wpAny_ready (rs := [10]) (by kernel_rfl) (by simp) ?_
          refine AllReady.cons rfl (fun K hK => ?_) AllReady.nil
          go_simp
          try (refine hK _ _ ?_; clear hK K)
          refine wpAny_ready (rs := [11]) (by kernel_rfl) (by simp) ?_
          refine AllReady.cons rfl (fun K hK => ?_) AllReady.nil
          go_simp
          try (refine hK _ _ ?_; clear hK K)
          refine wpAny_ready (rs := [12]) (by kernel_rfl) (by simp) ?_
          refine AllReady.cons rfl (fun K hK => ?_) AllReady.nil
          go_simp
          try (refine hK _ _ ?_; clear hK K)
          refine wpAny_ready (rs := [13]) (by kernel_rfl) (by simp) ?_
          refine AllReady.cons rfl (fun K hK => ?_) AllReady.nil
          go_simp
          try (refine hK _ _ ?_; clear hK K)
          refine wpAny_take (i := 14) (v := ?_) rfl (by kernel_rfl) (by kernel_rfl) (by kernel_rfl) (fun _ _ _ h => h) (Or.inl ⟨by rfl, ?_⟩) ?_
          rotate_left
          · intro w; go_simp; try (with_reducible rfl)
          refine wpAny_ready (rs := [15, 16]) (by kernel_rfl) (by simp) ?_
          refine AllReady.cons rfl (fun K hK => ?_) ?_
          · go_simp
            try (refine hK _ _ ?_; clear hK K)
            refine wpAny_ready (rs := [16]) (by kernel_rfl) (by simp) ?_
            refine AllReady.cons rfl (fun K hK => ?_) AllReady.nil
            go_simp
            go_wp2_with (go_at_call 10; obtain ⟨v7, hF7⟩ := kF.out w12 hB12; refine (hF7).mono ?_; clear hF7; rintro ev w13 ⟨rfl, hB13, hc8⟩; have hc13 := kC.out w13 hB13)
            try (refine hK _ _ ?_; clear hK K)
            refine wpAny_ready (rs := [17]) (by kernel_rfl) (by simp) ?_
            refine AllReady.cons rfl (fun K hK => ?_) AllReady.nil
            go_simp
            try (refine hK _ _ ?_; clear hK K)
            refine wpAny_ready (rs := [18]) (by kernel_rfl) (by simp) ?_
            refine AllReady.cons rfl (fun K hK => ?_) AllReady.nil
            go_simp
            try (refine hK _ _ ?_; clear hK K)
            refine wpAny_ready (rs := [19]) (by kernel_rfl) (by simp) ?_
            refine AllReady.cons rfl (fun K hK => ?_) AllReady.nil
            go_simp
            try (refine hK _ _ ?_; clear hK K)
            refine wpAny_ready (rs := [20]) (by kernel_rfl) (by simp) ?_
            refine AllReady.cons rfl (fun K hK => ?_) AllReady.nil
            go_simp
            try (refine hK _ _ ?_; clear hK K)
            refine wpAny_ready (rs := [21]) (by kernel_rfl) (by simp) ?_
            refine AllReady.cons rfl (fun K hK => ?_) AllReady.nil
            go_simp
            go_wp2_with (go_at_call 15; refine (kA.out w13 hB13).mono ?_; rintro ev w14 ⟨rfl, hB14⟩)
            try (refine hK _ _ ?_; clear hK K)
            refine wpAny_ready (rs := [22]) (by kernel_rfl) (by simp) ?_
            refine AllReady.cons rfl (fun K hK => ?_) AllReady.nil
            go_simp
            try (refine hK _ _ ?_; clear hK K)
            refine wpAny_ready (rs := [23]) (by kernel_rfl) (by simp) ?_
            refine AllReady.cons rfl (fun K hK => ?_) AllReady.nil
            go_simp
            try (refine hK _ _ ?_; clear hK K)
            refine wpAny_done (by kernel_rfl) ?_ _
            go_wp2_with fail
            go_meet
            case rel => exact ⟨rfl, hB14⟩
          refine AllReady.cons rfl (fun K hK => ?_) ?_
          · go_simp
            go_wp2_with (go_at_call 10; obtain ⟨v7, hF7⟩ := kF.out w12 hB12; refine (hF7).mono ?_; clear hF7; rintro ev w13 ⟨rfl, hB13, hc8⟩; have hc13 := kC.out w13 hB13)
            try (refine hK _ _ ?_; clear hK K)
            refine wpAny_ready (rs := [15, 17]) (by kernel_rfl) (by simp) ?_
            refine AllReady.cons rfl (fun K hK => ?_) ?_
            · go_simp
              try (refine hK _ _ ?_; clear hK K)
              refine wpAny_ready (rs := [17]) (by kernel_rfl) (by simp) ?_
              refine AllReady.cons rfl (fun K hK => ?_) AllReady.nil
              go_simp
              try (refine hK _ _ ?_; clear hK K)
              refine wpAny_ready (rs := [18]) (by kernel_rfl) (by simp) ?_
              refine AllReady.cons rfl (fun K hK => ?_) AllReady.nil
              go_simp
              try (refine hK _ _ ?_; clear hK K)
              refine wpAny_ready (rs := [19]) (by kernel_rfl) (by simp) ?_
              refine AllReady.cons rfl (fun K hK => ?_) AllReady.nil
              go_simp
              try (refine hK _ _ ?_; clear hK K)
              refine wpAny_ready (rs := [20]) (by kernel_rfl) (by simp) ?_
              refine AllReady.cons rfl (fun K hK => ?_) AllReady.nil
              go_simp
              try (refine hK _ _ ?_; clear hK K)
              refine wpAny_ready (rs := [21]) (by kernel_rfl) (by simp) ?_
              refine AllReady.cons rfl (fun K hK => ?_) AllReady.nil
              go_simp
              go_wp2_with (go_at_call 15; refine (kA.out w13 hB13).mono ?_; rintro ev w14 ⟨rfl, hB14⟩)
              try (refine hK _ _ ?_; clear hK K)
              refine wpAny_ready (rs := [22]) (by kernel_rfl) (by simp) ?_
              refine AllReady.cons rfl (fun K hK => ?_) AllReady.nil
              go_simp
              try (refine hK _ _ ?_; clear hK K)
              refine wpAny_ready (rs := [23]) (by kernel_rfl) (by simp) ?_
              refine AllReady.cons rfl (fun K hK => ?_) AllReady.nil
              go_simp
              try (refine hK _ _ ?_; clear hK K)
              refine wpAny_done (by kernel_rfl) ?_ _
              go_wp2_with fail
              go_meet
              case rel => exact ⟨rfl, hB14⟩
            refine AllReady.cons rfl (fun K hK => ?_) ?_
            · go_simp
              try (refine hK _ _ ?_; clear hK K)
              refine wpAny_ready (rs := [15]) (by kernel_rfl) (by simp) ?_
              refine AllReady.cons rfl (fun K hK => ?_) AllReady.nil
              go_simp
              try (refine hK _ _ ?_; clear hK K)
              refine wpAny_ready (rs := [18]) (by kernel_rfl) (by simp) ?_
              refine AllReady.cons rfl (fun K hK => ?_) AllReady.nil
              go_simp
              try (refine hK _ _ ?_; clear hK K)
              refine wpAny_ready (rs := [19]) (by kernel_rfl) (by simp) ?_
              refine AllReady.cons rfl (fun K hK => ?_) AllReady.nil
              go_simp
              try (refine hK _ _ ?_; clear hK K)
              refine wpAny_ready (rs := [20]) (by kernel_rfl) (by simp) ?_
              refine AllReady.cons rfl (fun K hK => ?_) AllReady.nil
              go_simp
              try (refine hK _ _ ?_; clear hK K)
              refine wpAny_ready (rs := [21]) (by kernel_rfl) (by simp) ?_
              refine AllReady.cons rfl (fun K hK => ?_) AllReady.nil
              go_simp
              go_wp2_with (go_at_call 15; refine (kA.out w13 hB13).mono ?_; rintro ev w14 ⟨rfl, hB14⟩)
              try (refine hK _ _ ?_; clear hK K)
              refine wpAny_ready (rs := [22]) (by kernel_rfl) (by simp) ?_
              refine AllReady.cons rfl (fun K hK => ?_) AllReady.nil
              go_simp
              try (refine hK _ _ ?_; clear hK K)
              refine wpAny_ready (rs := [23]) (by kernel_rfl) (by simp) ?_
              refine AllReady.cons rfl (fun K hK => ?_) AllReady.nil
              go_simp
              try (refine hK _ _ ?_; clear hK K)
              refine wpAny_done (by kernel_rfl) ?_ _
              go_wp2_with fail
              go_meet
              case rel => exact ⟨rfl, hB14⟩
            exact AllReady.nil
          exact AllReady.nil
        case rest =>
          obtain ⟨rfl, hBc⟩ := hcut
          go_wp2
          go_ret
          exact ⟨rfl, hB0.out.trans (hBc.mono hB0.out.size)⟩)
end Go.Proofs.YtbagncolhckhjaaDoor
