/- JournalEach answers true, whatever it is given, and changes nothing that was there. -/
import Derived.Test.YtbagncolhckhjaaDoorJr3
namespace Go.Proofs.YtbagncolhckhjaaDoor
open Go.RowKit Go.Extern.Stop Go.Stop Go.Extern
set_option maxRecDepth 100000

abbrev noE : Nat → Nat := fun j => 25 + j
abbrev fEA : Nat → Int := fun j => 10 + (j : Int)
abbrev fEB : Nat → Int := fun j => 1000 + (j : Int)
theorem goodE (f : Nat → Int) (n : Nat) (hn : n ≤ 6) : Good 40 4 (needN 6) (seqG noE f n) :=
  seqG_good _ _ _ _ _ _ (by omega) (fun k hk => by show 25 + k < 40; omega) (fun k hk => Or.inr (by show 4 + needN 6 ≤ 25 + k; have : needN 6 = 9 := rfl; omega)) (fun k j _ hj => by show 25 + j ≠ 25 + k; omega)
theorem outE (j : Nat) : 4 + needN 6 ≤ 25 + j := by have : needN 6 = 9 := rfl; omega
set_option maxHeartbeats 3000000 in
theorem journalEach_calls (n0 a0 o0 : Int) (w : World) (hG0 : Ground w) (hGT0 : GT w) :
    Calls Tryd.prog 6 #[.int .i64 n0, .int .i64 a0, .int .i64 o0] w fun e w' => e = .returned (.bool true) ∧ Below w.heap.size w w' := by
  obtain ⟨I, hI0, hI1⟩ := tmod_nat (bits .and .i64 n0 255) 5 (and_low n0 255 (by decide)).1
  rw [show ((5 : Nat) : Int) + 1 = 6 from rfl] at hI0
  obtain ⟨N, hN⟩ : ∃ N, N = I + 1 := ⟨_, rfl⟩
  have hN1 : (I : Int) + 1 = (N : Int) := by omega
  have hN2 : 1 ≤ N ∧ N ≤ 6 := by omega
  obtain ⟨F, hF⟩ : ∃ F, bits .and .i64 a0 31 = F := ⟨_, rfl⟩
  have hF0 : 0 ≤ F := hF ▸ (and_low a0 31 (by decide)).1
  have hF1 : F ≤ 31 := hF ▸ (and_low a0 31 (by decide)).2
  obtain ⟨O, hO⟩ : ∃ O, bits .and .i64 o0 63 = O := ⟨_, rfl⟩
  have hO0 : 0 ≤ O := hO ▸ (and_low o0 63 (by decide)).1
  have hO1 : O ≤ 63 := hO ▸ (and_low o0 63 (by decide)).2
  clear hN
  have hG := hidden hG0
  have hGT := hidden hGT0
  clear hGT0
  go_enter Tryd.func6, Tryd.ntmps6
  go_wp2_with fail
  refine (sys_new 40 (by omega) (by omega) w hG0).mono ?_
  rintro ev w1 ⟨rfl, hS1⟩
  have hO1' := hidden (opened_calls hS1 (by decide) (by decide) (seqG noE fEA 1) (by rw [seqG_len]; omega) (by rw [seqG_len]; omega) (goodE fEA 1 (by omega)) (blockL (fun _ => 0)) (.before (idle_zero 4) (fun _ _ => rfl)) (-1))
  have hdl1 := hS1.disk.lt
  have hbs1 := hS1.below.size
  clear hS1 hG0
  go_wp2_with fail
  refine (hO1'.out).mono ?_
  rintro ev w2 ⟨hA2, jb, mem2, wr2, rfl, hS2, hwa2, hwb2, hJ2, hjb, hR2⟩
  have hi2 := hidden hR2.idle
  have hsz2 := hA2.size
  have hjl2 := hJ2.lt
  replace hS2 := hidden hS2
  replace hJ2 := hidden hJ2
  clear hO1' hR2 hA2
  go_wp2_with fail
  go_loopg [10, 11, 12] N (fun gk va vb q wr => ∃ k : Nat, k ≤ N ∧ gk = N - k ∧ q = .int .i64 k ∧ Hid (∃ psA psB, Two w2.heap.size wr va vb psA psB (seqG noE fEA k) (seqG noE fEB k) ∧ Below w2.heap.size w2 wr))
  case atStart => exact ⟨0, by omega, rfl, rfl, hidden ⟨[], [], ⟨⟨GOwn.nil _ _, rfl⟩, ⟨GOwn.nil _ _, rfl⟩, fun p q hp => by simp at hp, fun _ => rfl⟩, Below.refl _ _⟩⟩
  case round =>
    obtain ⟨k, hk, hgk, rfl, hI⟩ := hrel
    replace hgk := hidden hgk
    obtain ⟨psA, psB, hT, hB⟩ := hI.out
    clear hI
    by_cases hlt : k < N
    · have hlt2 : (k : Int) < (N : Int) := by omega
      have hem : psA = [] → psB = [] := fun e => by
        have h1 := hT.a.len
        have h2 := hT.b.len
        rw [seqG_len, e] at h1
        rw [seqG_len, ← h1] at h2
        exact List.length_eq_zero_iff.1 h2
      have hFA := hidden (fill_calls (fEA k) wr)
      replace hT := hidden hT
      replace hB := hidden hB
      go_wp2_with fail
      refine (hFA.out).mono ?_
      rintro ev w3 ⟨rfl, hw3⟩
      obtain ⟨va4, w4, psA4, hrun4, hT4, hne4, hB4⟩ := hT.out.pushA hem (by omega) hB.out.size w3 hw3 31
      have hBb4 := hidden (hB.out.trans hB4)
      replace hT4 := hidden hT4
      replace hrun4 := hidden hrun4
      obtain ⟨X, hX⟩ : ∃ X, noE k = X := ⟨_, rfl⟩
      rw [hX] at hrun4
      have hno : (25 : Int) + (k : Int) = (X : Int) := by rw [← hX]; show _ = ((25 + k : Nat) : Int); omega
      have hX2 : X ≤ 40 := by rw [← hX]; show 25 + k ≤ 40; omega
      replace hX := hidden hX
      clear hw3 hFA hT hB4 hB
      have hFB := hidden (fill_calls (fEB k) w4)
      go_wp2_with (first
        | (at_builtin; refine wpList_append_eq _ _ 31 rfl _ _ va4 w4 rfl rfl hrun4.out rfl ?_)
        | fail)
      refine (hFB.out).mono ?_
      rintro ev w5 ⟨rfl, hw5⟩
      obtain ⟨vb6, w6, psB6, hrun6, hT6, hB6⟩ := hT4.out.pushB hne4 (by omega) hBb4.out.size w5 hw5 31
      have hE := hidden (And.intro hT6 (hBb4.out.trans hB6))
      rw [hX.out] at hrun6
      replace hrun6 := hidden hrun6
      clear hw5 hFB hT4 hB6 hBb4 hT6 hrun4
      go_wp2_with (at_builtin; refine wpList_append_eq _ _ 31 rfl _ _ vb6 w6 rfl rfl hrun6.out rfl ?_)
      go_roundg (N - (k + 1))
      case measure => rw [hgk.out]; omega
      case rel => exact ⟨k + 1, hlt, rfl, by go_num, hidden ⟨_, _, hE.out⟩⟩
    · have hlt2 : ¬ (k : Int) < (N : Int) := by omega
      obtain rfl : k = N := by omega
      have hdb : w.heap.size + 1 < w2.heap.size ∧ w.heap.size < w2.heap.size := by omega
      have hCa := hidden (commit_good (hS2.out.more hB) (by decide) ⟨by omega, by omega⟩ jb 4 6 ⟨by omega, by omega⟩ (hJ2.out.below hB) ⟨by omega, by omega⟩ (by decide) hi2.out (seqG noE fEA k) (by rw [seqG_len]; omega) (by rw [seqG_len]; omega) (goodE fEA k (by omega)) _ (hT.a.off (by rw [seqG_len]; omega) hdb.1 hdb.2))
      replace hT := hidden hT
      replace hB := hidden hB
      go_wp2_with fail
      refine (hCa.out).mono ?_
      rintro ev w3 ⟨r3, rfl, hDn⟩
      rcases hDn.out with ⟨rfl, left3, hS3, -, hl3⟩ | ⟨_, _, _, _, _, _, _, _, hne⟩
      rotate_left
      · exact absurd rfl hne
      rw [hl3 rfl] at hS3
      have hgE := goodE fEA k (by omega)
      have hsa := seq_all (mem := mem2) hgE (need_room (by rw [seqG_len]; omega))
      have hln := all_len 4 (seqG noE fEA k) (by rw [seqG_len]; omega)
      generalize laid (allWs 4 (seqG noE fEA k)) mem2 = mem3 at hS3 hsa
      generalize ((allWs 4 (seqG noE fEA k)).length : Nat) = L3 at hS3 hln
      have hA3 := hidden ((Apart.of_below hB.out).trans hDn.apart)
      have hT3 := hidden (hT.out.keep hDn.apart (by simp; exact hdb))
      have hsz3 := hDn.apart.size
      have hszB := hB.out.size
      have hJ3 := hidden ((hJ2.out.below hB.out).keep hDn.apart (by simp; omega))
      replace hS3 := hidden hS3
      replace hsa := hidden hsa
      clear hDn hCa hl3 hT hB hgE hS2 hJ2
      go_wp2_with fail
      refine (sys_fuse hS3.out F).mono ?_
      rintro ev w4 ⟨rfl, hS4, hA4⟩
      rw [show fused (-1) F = F by unfold fused; rw [if_neg (by decide)]; omega] at hS4
      have hA4' := hA4.mono (bs := [w.heap.size + 1]) (cs := [w.heap.size + 1, w.heap.size]) (by simp)
      have hT4 := hT3.out.keep hA4' (by simp; exact hdb)
      have hCb := hidden (commit_good hS4 ⟨by omega, by omega⟩ ⟨by omega, by omega⟩ jb 4 6 ⟨by omega, by omega⟩ (hJ3.out.keep hA4' (by simp; omega)) ⟨by omega, by omega⟩ (by decide) hsa.out.1 (seqG noE fEB k) (by rw [seqG_len]; omega) (by rw [seqG_len]; omega) (goodE fEB k (by omega)) _ (hT4.b.off (by rw [seqG_len]; omega) hdb.1 hdb.2))
      have hA34 := hidden (hA3.out.trans hA4')
      have hsz4 := hA4'.size
      replace hT4 := hidden hT4
      clear hS3 hT3 hA3 hJ3 hS4 hA4 hA4'
      go_wp2_with fail
      refine (hCb.out).mono ?_
      rintro ev w5 ⟨r5, rfl, hDn⟩
      obtain ⟨hA5, hD5⟩ := done_stands (goodE fEB k (by omega)) (need_room (by rw [seqG_len]; omega)) hsa.out.1 hDn
      have hT5 := hidden (hT4.out.keep hA5 (by simp; exact hdb))
      have hA35 := hidden (hA34.out.trans hA5)
      have hsz5 := hA5.size
      have hln2 := all_len 4 (seqG noE fEB k) (by rw [seqG_len]; omega)
      clear hDn hCb hT4 hA34 hA5
      rcases hD5 with ⟨rfl, left5, hS5, -, -⟩ | ⟨b5, i5, mem5, wr5, rfl, hc5, hb5, hS5, hwa5, hwb5, -, hSt5⟩
      · have hsb := seq_all (mem := mem3) (goodE fEB k (by omega)) (need_room (by rw [seqG_len]; omega))
        generalize laid (allWs 4 (seqG noE fEB k)) mem3 = mem5 at hS5 hsb
        generalize ((allWs 4 (seqG noE fEB k)).length : Nat) = L5 at hS5 hln2
        replace hsb := hidden hsb
        replace hS5 := hidden hS5
        go_wp2_with fail
        refine (sys_power hS5.out).mono ?_
        rintro ev w6 ⟨rfl, hS6, hA6⟩
        have hO9 := hidden (opened_calls hS6 ⟨by omega, by omega⟩ (by decide) (seqG noE fEB k) (by rw [seqG_len]; omega) (by rw [seqG_len]; omega) (goodE fEB k (by omega)) (blockL mem5) (.before hsb.out.1 (fun _ _ => rfl)) (O - 20))
        have hA6' := hA6.mono (bs := [w.heap.size + 1]) (cs := [w.heap.size + 1, w.heap.size]) (by simp)
        have hA36 := hidden (hA35.out.trans hA6')
        have hT6 := hidden (hT5.out.keep hA6' (by simp; exact hdb))
        clear hS5 hS6 hA6 hA6' hT5 hA35
        go_wp2_with fail
        refine (hO9.out).mono ?_
        rintro ev w9 ⟨hA9, jb9, mem9, wr9, rfl, hS9, -, -, hJ9, hjb9, hR9⟩
        have hT9 := hidden (hT6.out.keep hA9 (by simp; exact hdb))
        have hB9 := hidden hS9.below
        have hC : ∀ j, j < k → blockL mem9 (25 + j) = fillL (fEB j) := by
          rcases rests_seq hR9 with h | h
          · intro j hj; rw [h (25 + j) (Or.inr (outE j))]; exact hsb.out.2.1 j hj
          · exact h.1
        clear hO9 hA9 hR9 hA36 hT6 hsb hjb9
        replace hS9 := hidden hS9
        replace hJ9 := hidden hJ9
        have hBk : Hid (∀ j, j < k → blockL mem9 (25 + j) = fillL (fEB j)) := hidden hC
        clear hC
        obtain ⟨gbA, capA, hva⟩ := hT9.out.a.form (by intro e; have := seqG_len noE fEA k; rw [e, List.length_nil] at this; omega)
        obtain ⟨gbB, capB, hvb⟩ := hT9.out.b.form (by intro e; have := seqG_len noE fEB k; rw [e, List.length_nil] at this; omega)
        rw [seqG_len] at hva hvb
        subst hva
        subst hvb
        obtain ⟨blkA, hclA, hbdA⟩ := hT9.out.a.data 0 (by rw [seqG_len]; omega)
        rw [seqG_get _ _ _ _ (by omega)] at hbdA
        have hcA := conv_bytes w9 _ _ hbdA
        rw [Nat.zero_mul, Nat.zero_add] at hclA
        have hR := hidden (jread_calls hS9.out (by decide) jb9 4 6 hJ9.out 25 (by omega))
        rw [show blockL mem9 25 = fillL (fEB 0) from hBk.out 0 (by omega)] at hR
        have hneq := fill_apart (fEB 0) (fEA 0) ⟨by decide, by decide⟩ ⟨by decide, by decide⟩ (by decide)
        generalize hZA : ofBytes (fillL (fEA 0)) = ZA at hcA hneq
        generalize hZB : ofBytes (fillL (fEB 0)) = ZB at hneq
        replace hZA := hidden hZA
        replace hZB := hidden hZB
        have hne1 := text_apart hneq
        have hk0 : (0 : Int) < (k : Int) := by omega
        clear hbdA hneq
        go_wp2_with fail
        refine (hR.out).mono ?_
        rintro ev w10 ⟨v10, rfl, hb10, hB10⟩
        have hx10 := conv_bytes w10 _ _ hb10
        rw [hZB.out] at hx10
        clear hR hb10 hclA hcA
        have hLC := hidden (Lies.keep (bs := []) hT9.out.b (Apart.of_below hB10) (by simp))
        have hS10 := hidden (hS9.out.more hB10)
        have hJ10 := hidden (hJ9.out.below hB10)
        have hB10' := hidden (hB9.out.trans (hB10.mono hB9.out.size))
        clear hT9 hS9 hJ9 hB9 hB10
        go_wp2_with fail
        go_loopg [17] k (fun gk q wq => ∃ m : Nat, m ≤ k ∧ gk = k - m ∧ q = .int .i64 m ∧ Hid (Below w10.heap.size w10 wq))
        case atStart => exact ⟨0, by omega, rfl, rfl, hidden (Below.refl _ _)⟩
        case round =>
          obtain ⟨m, hm, hgm, rfl, hI⟩ := hrel
          replace hgm := hidden hgm
          by_cases hlt : m < k
          · have hR := hidden (jread_calls (hS10.out.more hI.out) (by decide) jb9 4 6 (hJ10.out.below hI.out) (25 + m) (by omega))
            rw [hBk.out m hlt] at hR
            have hrk : (25 : Int) + (m : Int) = ((25 + m : Nat) : Int) := by omega
            have hrk2 : 25 + m ≤ 40 := by omega
            have hlt2 : (m : Int) < (k : Int) := by omega
            generalize 25 + m = rk at hrk hR hrk2
            go_wp2_with fail
            refine (hR.out).mono ?_
            rintro ev w11 ⟨v11, rfl, hb11, hB11⟩
            have hB11' := hI.out.trans (hB11.mono hI.out.size)
            obtain ⟨blk, hcl, hbd⟩ := (hLC.out.keep (Apart.of_below (bs := []) hB11') (by simp)).data m (by rw [seqG_len]; exact hlt)
            rw [seqG_get _ _ _ _ hlt] at hbd
            have hS0 : Below w10.heap.size w10 w11.drew := hB11'.drew
            have hx1 := conv_bytes w11.drew _ _ (hb11.below (Below.refl _ _).drew)
            have hx2 := conv_bytes w11.drew _ _ (hbd.below (Below.refl _ _).drew)
            have hgb : w11.drew.cell? ⟨gbB, m * 2 + 1, none⟩ = some (.slice (some ⟨blk, 0, none⟩) 128 128) := by simpa using hcl
            generalize ofBytes (fillL (fEB m)) = Z at hx1 hx2
            clear hR hI hb11 hB11 hB11' hbd hcl hx10
            go_upto_region 34 with fail
            go_cut [133] (fun c wx => c = .bool false ∧ Below w10.heap.size w10 wx)
            case first =>
              refine wp_region_any (by kernel_rfl) ?_
              try (change wpAny _ _ _ _ _ _ _ (World.drew _))
              refine wpAny_ready (rs := [0]) (by kernel_rfl) (by simp) ?_
              refine AllReady.cons rfl (fun K hK => ?_) AllReady.nil
              go_simp
              try (refine hK _ _ ?_; clear hK K)
              refine wpAny_ready (rs := [1]) (by kernel_rfl) (by simp) ?_
              refine AllReady.cons rfl (fun K hK => ?_) AllReady.nil
              go_simp
              try (refine hK _ _ ?_; clear hK K)
              refine wpAny_ready (rs := [2]) (by kernel_rfl) (by simp) ?_
              refine AllReady.cons rfl (fun K hK => ?_) AllReady.nil
              go_simp
              try (refine hK _ _ ?_; clear hK K)
              refine wpAny_take (i := 3) (v := ?_) rfl (by kernel_rfl) (by kernel_rfl) (by kernel_rfl) (fun _ _ _ h => h) (Or.inl ⟨by rfl, ?_⟩) ?_
              rotate_left
              · intro w; go_simp; try (with_reducible rfl)
              refine wpAny_take (i := 5) (v := ?_) rfl (by kernel_rfl) (by kernel_rfl) (by kernel_rfl) (fun _ _ _ h => h) (Or.inl ⟨by rfl, ?_⟩) ?_
              rotate_left
              · intro w; go_simp; try (with_reducible rfl)
              refine wpAny_take (i := 6) (v := ?_) rfl (by kernel_rfl) (by kernel_rfl) (by kernel_rfl) (fun _ _ _ h => h) (Or.inl ⟨by rfl, ?_⟩) ?_
              rotate_left
              · intro w; go_simp; try (with_reducible rfl)
              refine wpAny_take (i := 7) (v := ?_) rfl (by kernel_rfl) (by kernel_rfl) (by kernel_rfl) (fun _ _ _ h => h) (Or.inl ⟨by rfl, ?_⟩) ?_
              rotate_left
              · intro w; go_simp; try (with_reducible rfl)
              refine wpAny_take (i := 8) (v := ?_) rfl (by kernel_rfl) (by kernel_rfl) (by kernel_rfl) (fun _ _ _ h => h) (Or.inl ⟨by rfl, ?_⟩) ?_
              rotate_left
              · intro w; go_simp; try (with_reducible rfl)
              refine wpAny_ready (rs := [4, 9]) (by kernel_rfl) (by simp) ?_
              refine AllReady.cons rfl (fun K hK => ?_) ?_
              · go_simp
                try (refine hK _ _ ?_; clear hK K)
                refine wpAny_ready (rs := [9]) (by kernel_rfl) (by simp) ?_
                refine AllReady.cons rfl (fun K hK => ?_) AllReady.nil
                go_simp
                try (refine hK _ _ ?_; clear hK K)
                refine wpAny_ready (rs := [10]) (by kernel_rfl) (by simp) ?_
                refine AllReady.cons rfl (fun K hK => ?_) AllReady.nil
                go_simp
                try (refine hK _ _ ?_; clear hK K)
                refine wpAny_ready (rs := [11]) (by kernel_rfl) (by simp) ?_
                refine AllReady.cons rfl (fun K hK => ?_) AllReady.nil
                go_simp
                try (refine hK _ _ ?_; clear hK K)
                refine wpAny_ready (rs := [12]) (by kernel_rfl) (by simp) ?_
                refine AllReady.cons rfl (fun K hK => ?_) AllReady.nil
                go_simp
                try (refine hK _ _ ?_; clear hK K)
                refine wpAny_done (by kernel_rfl) ?_ _
                go_wp2_with fail
                go_meet
                case rel => exact ⟨rfl, hS0⟩
              refine AllReady.cons rfl (fun K hK => ?_) ?_
              · go_simp
                try (refine hK _ _ ?_; clear hK K)
                refine wpAny_ready (rs := [4, 10]) (by kernel_rfl) (by simp) ?_
                refine AllReady.cons rfl (fun K hK => ?_) ?_
                · go_simp
                  try (refine hK _ _ ?_; clear hK K)
                  refine wpAny_ready (rs := [10]) (by kernel_rfl) (by simp) ?_
                  refine AllReady.cons rfl (fun K hK => ?_) AllReady.nil
                  go_simp
                  try (refine hK _ _ ?_; clear hK K)
                  refine wpAny_ready (rs := [11]) (by kernel_rfl) (by simp) ?_
                  refine AllReady.cons rfl (fun K hK => ?_) AllReady.nil
                  go_simp
                  try (refine hK _ _ ?_; clear hK K)
                  refine wpAny_ready (rs := [12]) (by kernel_rfl) (by simp) ?_
                  refine AllReady.cons rfl (fun K hK => ?_) AllReady.nil
                  go_simp
                  try (refine hK _ _ ?_; clear hK K)
                  refine wpAny_done (by kernel_rfl) ?_ _
                  go_wp2_with fail
                  go_meet
                  case rel => exact ⟨rfl, hS0⟩
                refine AllReady.cons rfl (fun K hK => ?_) ?_
                · go_simp
                  try (refine hK _ _ ?_; clear hK K)
                  refine wpAny_ready (rs := [4]) (by kernel_rfl) (by simp) ?_
                  refine AllReady.cons rfl (fun K hK => ?_) AllReady.nil
                  go_simp
                  try (refine hK _ _ ?_; clear hK K)
                  refine wpAny_ready (rs := [11]) (by kernel_rfl) (by simp) ?_
                  refine AllReady.cons rfl (fun K hK => ?_) AllReady.nil
                  go_simp
                  try (refine hK _ _ ?_; clear hK K)
                  refine wpAny_ready (rs := [12]) (by kernel_rfl) (by simp) ?_
                  refine AllReady.cons rfl (fun K hK => ?_) AllReady.nil
                  go_simp
                  try (refine hK _ _ ?_; clear hK K)
                  refine wpAny_done (by kernel_rfl) ?_ _
                  go_wp2_with fail
                  go_meet
                  case rel => exact ⟨rfl, hS0⟩
                exact AllReady.nil
              exact AllReady.nil
            case rest =>
              obtain ⟨rfl, hBc⟩ := hcut
              replace hBc := hidden hBc
              clear hx1 hx2 hgb hS0
              go_wp2
              go_roundg (k - (m + 1))
              case measure => rw [hgm.out]; omega
              case rel => exact ⟨m + 1, hlt, rfl, by go_num, hBc⟩
          · have hlt2 : ¬ (m : Int) < (k : Int) := by omega
            have hBw := hB10'.out.trans (hI.out.mono hB10'.out.size)
            have hA := hidden (jawake_calls wr (hG.out.below hBw))
            replace hBw := hidden hBw
            clear hI
            go_wp2_with fail
            refine (hA.out).mono ?_
            rintro ev w12 ⟨rfl, hB12⟩
            have hE := hidden (hBw.out.trans (hB12.mono hBw.out.size))
            clear hB12 hBw hA
            go_wp2
            go_ret
            exact ⟨rfl, hE.out⟩
      · replace hS5 := hidden hS5
        have hc5H := hidden hc5
        replace hSt5 := hidden hSt5
        clear hc5
        go_wp2_with fail
        refine (law_is 50 (by decide) _ sJournal sNone _ _ hc5H.out (hGT.out.below hS5.out.below)).mono ?_
        rintro ev w6 ⟨rfl, hB6⟩
        have hS6 := hidden (hS5.out.more hB6)
        have hT6 := hidden (hT5.out.keep (Apart.of_below (bs := []) hB6) (by simp))
        have hsz6 := hB6.size
        clear hS5 hT5 hB6 hA35 hc5H
        go_wp2_with fail
        refine (sys_power hS6.out).mono ?_
        rintro ev w7 ⟨rfl, hS7, hA7⟩
        have hO9 := hidden (opened_calls hS7 ⟨by omega, by omega⟩ (by decide) (seqG noE fEB k) (by rw [seqG_len]; omega) (by rw [seqG_len]; omega) (goodE fEB k (by omega)) (blockL mem3) hSt5.out (O - 20))
        have hA7' := hA7.mono (bs := [w.heap.size + 1]) (cs := [w.heap.size + 1, w.heap.size]) (by simp)
        have hT7 := hidden (hT6.out.keep hA7' (by simp; exact hdb))
        clear hS6 hS7 hA7 hA7' hT6 hSt5
        go_wp2_with fail
        refine (hO9.out).mono ?_
        rintro ev w9 ⟨hA9, jb9, mem9, wr9, rfl, hS9, -, -, hJ9, hjb9, hR9⟩
        have hT9 := hidden (hT7.out.keep hA9 (by simp; exact hdb))
        have hB9 := hidden hS9.below
        replace hS9 := hidden hS9
        replace hJ9 := hidden hJ9
        rcases rests_seq hR9 with hr | hr
        · have hC : ∀ j, j < k → blockL mem9 (25 + j) = fillL (fEA j) := fun j hj => by rw [hr (25 + j) (Or.inr (outE j))]; exact hsa.out.2.1 j hj
          clear hO9 hA9 hR9 hT7 hr hjb9
          have hBk : Hid (∀ j, j < k → blockL mem9 (25 + j) = fillL (fEA j)) := hidden hC
          clear hC
          obtain ⟨gbA, capA, hva⟩ := hT9.out.a.form (by intro e; have := seqG_len noE fEA k; rw [e, List.length_nil] at this; omega)
          obtain ⟨gbB, capB, hvb⟩ := hT9.out.b.form (by intro e; have := seqG_len noE fEB k; rw [e, List.length_nil] at this; omega)
          rw [seqG_len] at hva hvb
          subst hva
          subst hvb
          obtain ⟨blkA, hclA, hbdA⟩ := hT9.out.a.data 0 (by rw [seqG_len]; omega)
          rw [seqG_get _ _ _ _ (by omega)] at hbdA
          have hcA := conv_bytes w9 _ _ hbdA
          rw [Nat.zero_mul, Nat.zero_add] at hclA
          have hR := hidden (jread_calls hS9.out (by decide) jb9 4 6 hJ9.out 25 (by omega))
          rw [show blockL mem9 25 = fillL (fEA 0) from hBk.out 0 (by omega)] at hR
          have hneq := fill_apart (fEB 0) (fEA 0) ⟨by decide, by decide⟩ ⟨by decide, by decide⟩ (by decide)
          generalize hZA : ofBytes (fillL (fEA 0)) = ZA at hcA hneq
          generalize hZB : ofBytes (fillL (fEB 0)) = ZB at hneq
          replace hZA := hidden hZA
          replace hZB := hidden hZB
          have hne1 := text_apart hneq
          have hk0 : (0 : Int) < (k : Int) := by omega
          clear hbdA hneq
          go_wp2_with fail
          refine (hR.out).mono ?_
          rintro ev w10 ⟨v10, rfl, hb10, hB10⟩
          have hx10 := conv_bytes w10 _ _ hb10
          rw [hZA.out] at hx10
          clear hR hb10 hclA hcA
          have hLC := hidden (Lies.keep (bs := []) hT9.out.a (Apart.of_below hB10) (by simp))
          have hS10 := hidden (hS9.out.more hB10)
          have hJ10 := hidden (hJ9.out.below hB10)
          have hB10' := hidden (hB9.out.trans (hB10.mono hB9.out.size))
          clear hT9 hS9 hJ9 hB9 hB10
          go_wp2_with fail
          go_loopg [17] k (fun gk q wq => ∃ m : Nat, m ≤ k ∧ gk = k - m ∧ q = .int .i64 m ∧ Hid (Below w10.heap.size w10 wq))
          case atStart => exact ⟨0, by omega, rfl, rfl, hidden (Below.refl _ _)⟩
          case round =>
            obtain ⟨m, hm, hgm, rfl, hI⟩ := hrel
            replace hgm := hidden hgm
            by_cases hlt : m < k
            · have hR := hidden (jread_calls (hS10.out.more hI.out) (by decide) jb9 4 6 (hJ10.out.below hI.out) (25 + m) (by omega))
              rw [hBk.out m hlt] at hR
              have hrk : (25 : Int) + (m : Int) = ((25 + m : Nat) : Int) := by omega
              have hrk2 : 25 + m ≤ 40 := by omega
              have hlt2 : (m : Int) < (k : Int) := by omega
              generalize 25 + m = rk at hrk hR hrk2
              go_wp2_with fail
              refine (hR.out).mono ?_
              rintro ev w11 ⟨v11, rfl, hb11, hB11⟩
              have hB11' := hI.out.trans (hB11.mono hI.out.size)
              obtain ⟨blk, hcl, hbd⟩ := (hLC.out.keep (Apart.of_below (bs := []) hB11') (by simp)).data m (by rw [seqG_len]; exact hlt)
              rw [seqG_get _ _ _ _ hlt] at hbd
              have hS0 : Below w10.heap.size w10 w11.drew := hB11'.drew
              have hx1 := conv_bytes w11.drew _ _ (hb11.below (Below.refl _ _).drew)
              have hx2 := conv_bytes w11.drew _ _ (hbd.below (Below.refl _ _).drew)
              have hgb : w11.drew.cell? ⟨gbA, m * 2 + 1, none⟩ = some (.slice (some ⟨blk, 0, none⟩) 128 128) := by simpa using hcl
              generalize ofBytes (fillL (fEA m)) = Z at hx1 hx2
              clear hR hI hb11 hB11 hB11' hbd hcl hx10
              go_upto_region 34 with fail
              go_cut [133] (fun c wx => c = .bool false ∧ Below w10.heap.size w10 wx)
              case first =>
                refine wp_region_any (by kernel_rfl) ?_
                try (change wpAny _ _ _ _ _ _ _ (World.drew _))
                refine wpAny_ready (rs := [0]) (by kernel_rfl) (by simp) ?_
                refine AllReady.cons rfl (fun K hK => ?_) AllReady.nil
                go_simp
                try (refine hK _ _ ?_; clear hK K)
                refine wpAny_ready (rs := [1]) (by kernel_rfl) (by simp) ?_
                refine AllReady.cons rfl (fun K hK => ?_) AllReady.nil
                go_simp
                try (refine hK _ _ ?_; clear hK K)
                refine wpAny_ready (rs := [2]) (by kernel_rfl) (by simp) ?_
                refine AllReady.cons rfl (fun K hK => ?_) AllReady.nil
                go_simp
                try (refine hK _ _ ?_; clear hK K)
                refine wpAny_take (i := 3) (v := ?_) rfl (by kernel_rfl) (by kernel_rfl) (by kernel_rfl) (fun _ _ _ h => h) (Or.inl ⟨by rfl, ?_⟩) ?_
                rotate_left
                · intro w; go_simp; try (with_reducible rfl)
                refine wpAny_take (i := 5) (v := ?_) rfl (by kernel_rfl) (by kernel_rfl) (by kernel_rfl) (fun _ _ _ h => h) (Or.inl ⟨by rfl, ?_⟩) ?_
                rotate_left
                · intro w; go_simp; try (with_reducible rfl)
                refine wpAny_take (i := 6) (v := ?_) rfl (by kernel_rfl) (by kernel_rfl) (by kernel_rfl) (fun _ _ _ h => h) (Or.inl ⟨by rfl, ?_⟩) ?_
                rotate_left
                · intro w; go_simp; try (with_reducible rfl)
                refine wpAny_take (i := 7) (v := ?_) rfl (by kernel_rfl) (by kernel_rfl) (by kernel_rfl) (fun _ _ _ h => h) (Or.inl ⟨by rfl, ?_⟩) ?_
                rotate_left
                · intro w; go_simp; try (with_reducible rfl)
                refine wpAny_take (i := 8) (v := ?_) rfl (by kernel_rfl) (by kernel_rfl) (by kernel_rfl) (fun _ _ _ h => h) (Or.inl ⟨by rfl, ?_⟩) ?_
                rotate_left
                · intro w; go_simp; try (with_reducible rfl)
                refine wpAny_ready (rs := [4, 9]) (by kernel_rfl) (by simp) ?_
                refine AllReady.cons rfl (fun K hK => ?_) ?_
                · go_simp
                  try (refine hK _ _ ?_; clear hK K)
                  refine wpAny_ready (rs := [9]) (by kernel_rfl) (by simp) ?_
                  refine AllReady.cons rfl (fun K hK => ?_) AllReady.nil
                  go_simp
                  try (refine hK _ _ ?_; clear hK K)
                  refine wpAny_ready (rs := [10]) (by kernel_rfl) (by simp) ?_
                  refine AllReady.cons rfl (fun K hK => ?_) AllReady.nil
                  go_simp
                  try (refine hK _ _ ?_; clear hK K)
                  refine wpAny_ready (rs := [11]) (by kernel_rfl) (by simp) ?_
                  refine AllReady.cons rfl (fun K hK => ?_) AllReady.nil
                  go_simp
                  try (refine hK _ _ ?_; clear hK K)
                  refine wpAny_ready (rs := [12]) (by kernel_rfl) (by simp) ?_
                  refine AllReady.cons rfl (fun K hK => ?_) AllReady.nil
                  go_simp
                  try (refine hK _ _ ?_; clear hK K)
                  refine wpAny_done (by kernel_rfl) ?_ _
                  go_wp2_with fail
                  go_meet
                  case rel => exact ⟨rfl, hS0⟩
                refine AllReady.cons rfl (fun K hK => ?_) ?_
                · go_simp
                  try (refine hK _ _ ?_; clear hK K)
                  refine wpAny_ready (rs := [4, 10]) (by kernel_rfl) (by simp) ?_
                  refine AllReady.cons rfl (fun K hK => ?_) ?_
                  · go_simp
                    try (refine hK _ _ ?_; clear hK K)
                    refine wpAny_ready (rs := [10]) (by kernel_rfl) (by simp) ?_
                    refine AllReady.cons rfl (fun K hK => ?_) AllReady.nil
                    go_simp
                    try (refine hK _ _ ?_; clear hK K)
                    refine wpAny_ready (rs := [11]) (by kernel_rfl) (by simp) ?_
                    refine AllReady.cons rfl (fun K hK => ?_) AllReady.nil
                    go_simp
                    try (refine hK _ _ ?_; clear hK K)
                    refine wpAny_ready (rs := [12]) (by kernel_rfl) (by simp) ?_
                    refine AllReady.cons rfl (fun K hK => ?_) AllReady.nil
                    go_simp
                    try (refine hK _ _ ?_; clear hK K)
                    refine wpAny_done (by kernel_rfl) ?_ _
                    go_wp2_with fail
                    go_meet
                    case rel => exact ⟨rfl, hS0⟩
                  refine AllReady.cons rfl (fun K hK => ?_) ?_
                  · go_simp
                    try (refine hK _ _ ?_; clear hK K)
                    refine wpAny_ready (rs := [4]) (by kernel_rfl) (by simp) ?_
                    refine AllReady.cons rfl (fun K hK => ?_) AllReady.nil
                    go_simp
                    try (refine hK _ _ ?_; clear hK K)
                    refine wpAny_ready (rs := [11]) (by kernel_rfl) (by simp) ?_
                    refine AllReady.cons rfl (fun K hK => ?_) AllReady.nil
                    go_simp
                    try (refine hK _ _ ?_; clear hK K)
                    refine wpAny_ready (rs := [12]) (by kernel_rfl) (by simp) ?_
                    refine AllReady.cons rfl (fun K hK => ?_) AllReady.nil
                    go_simp
                    try (refine hK _ _ ?_; clear hK K)
                    refine wpAny_done (by kernel_rfl) ?_ _
                    go_wp2_with fail
                    go_meet
                    case rel => exact ⟨rfl, hS0⟩
                  exact AllReady.nil
                exact AllReady.nil
              case rest =>
                obtain ⟨rfl, hBc⟩ := hcut
                replace hBc := hidden hBc
                clear hx1 hx2 hgb hS0
                go_wp2
                go_roundg (k - (m + 1))
                case measure => rw [hgm.out]; omega
                case rel => exact ⟨m + 1, hlt, rfl, by go_num, hBc⟩
            · have hlt2 : ¬ (m : Int) < (k : Int) := by omega
              have hBw := hB10'.out.trans (hI.out.mono hB10'.out.size)
              have hA := hidden (jawake_calls wr (hG.out.below hBw))
              replace hBw := hidden hBw
              clear hI
              go_wp2_with fail
              refine (hA.out).mono ?_
              rintro ev w12 ⟨rfl, hB12⟩
              have hE := hidden (hBw.out.trans (hB12.mono hBw.out.size))
              clear hB12 hBw hA
              go_wp2
              go_ret
              exact ⟨rfl, hE.out⟩
        · have hC := hr.1
          clear hO9 hA9 hR9 hT7 hr hjb9
          have hBk : Hid (∀ j, j < k → blockL mem9 (25 + j) = fillL (fEB j)) := hidden hC
          clear hC
          obtain ⟨gbA, capA, hva⟩ := hT9.out.a.form (by intro e; have := seqG_len noE fEA k; rw [e, List.length_nil] at this; omega)
          obtain ⟨gbB, capB, hvb⟩ := hT9.out.b.form (by intro e; have := seqG_len noE fEB k; rw [e, List.length_nil] at this; omega)
          rw [seqG_len] at hva hvb
          subst hva
          subst hvb
          obtain ⟨blkA, hclA, hbdA⟩ := hT9.out.a.data 0 (by rw [seqG_len]; omega)
          rw [seqG_get _ _ _ _ (by omega)] at hbdA
          have hcA := conv_bytes w9 _ _ hbdA
          rw [Nat.zero_mul, Nat.zero_add] at hclA
          have hR := hidden (jread_calls hS9.out (by decide) jb9 4 6 hJ9.out 25 (by omega))
          rw [show blockL mem9 25 = fillL (fEB 0) from hBk.out 0 (by omega)] at hR
          have hneq := fill_apart (fEB 0) (fEA 0) ⟨by decide, by decide⟩ ⟨by decide, by decide⟩ (by decide)
          generalize hZA : ofBytes (fillL (fEA 0)) = ZA at hcA hneq
          generalize hZB : ofBytes (fillL (fEB 0)) = ZB at hneq
          replace hZA := hidden hZA
          replace hZB := hidden hZB
          have hne1 := text_apart hneq
          have hk0 : (0 : Int) < (k : Int) := by omega
          clear hbdA hneq
          go_wp2_with fail
          refine (hR.out).mono ?_
          rintro ev w10 ⟨v10, rfl, hb10, hB10⟩
          have hx10 := conv_bytes w10 _ _ hb10
          rw [hZB.out] at hx10
          clear hR hb10 hclA hcA
          have hLC := hidden (Lies.keep (bs := []) hT9.out.b (Apart.of_below hB10) (by simp))
          have hS10 := hidden (hS9.out.more hB10)
          have hJ10 := hidden (hJ9.out.below hB10)
          have hB10' := hidden (hB9.out.trans (hB10.mono hB9.out.size))
          clear hT9 hS9 hJ9 hB9 hB10
          go_wp2_with fail
          go_loopg [17] k (fun gk q wq => ∃ m : Nat, m ≤ k ∧ gk = k - m ∧ q = .int .i64 m ∧ Hid (Below w10.heap.size w10 wq))
          case atStart => exact ⟨0, by omega, rfl, rfl, hidden (Below.refl _ _)⟩
          case round =>
            obtain ⟨m, hm, hgm, rfl, hI⟩ := hrel
            replace hgm := hidden hgm
            by_cases hlt : m < k
            · have hR := hidden (jread_calls (hS10.out.more hI.out) (by decide) jb9 4 6 (hJ10.out.below hI.out) (25 + m) (by omega))
              rw [hBk.out m hlt] at hR
              have hrk : (25 : Int) + (m : Int) = ((25 + m : Nat) : Int) := by omega
              have hrk2 : 25 + m ≤ 40 := by omega
              have hlt2 : (m : Int) < (k : Int) := by omega
              generalize 25 + m = rk at hrk hR hrk2
              go_wp2_with fail
              refine (hR.out).mono ?_
              rintro ev w11 ⟨v11, rfl, hb11, hB11⟩
              have hB11' := hI.out.trans (hB11.mono hI.out.size)
              obtain ⟨blk, hcl, hbd⟩ := (hLC.out.keep (Apart.of_below (bs := []) hB11') (by simp)).data m (by rw [seqG_len]; exact hlt)
              rw [seqG_get _ _ _ _ hlt] at hbd
              have hS0 : Below w10.heap.size w10 w11.drew := hB11'.drew
              have hx1 := conv_bytes w11.drew _ _ (hb11.below (Below.refl _ _).drew)
              have hx2 := conv_bytes w11.drew _ _ (hbd.below (Below.refl _ _).drew)
              have hgb : w11.drew.cell? ⟨gbB, m * 2 + 1, none⟩ = some (.slice (some ⟨blk, 0, none⟩) 128 128) := by simpa using hcl
              generalize ofBytes (fillL (fEB m)) = Z at hx1 hx2
              clear hR hI hb11 hB11 hB11' hbd hcl hx10
              go_upto_region 34 with fail
              go_cut [133] (fun c wx => c = .bool false ∧ Below w10.heap.size w10 wx)
              case first =>
                refine wp_region_any (by kernel_rfl) ?_
                try (change wpAny _ _ _ _ _ _ _ (World.drew _))
                refine wpAny_ready (rs := [0]) (by kernel_rfl) (by simp) ?_
                refine AllReady.cons rfl (fun K hK => ?_) AllReady.nil
                go_simp
                try (refine hK _ _ ?_; clear hK K)
                refine wpAny_ready (rs := [1]) (by kernel_rfl) (by simp) ?_
                refine AllReady.cons rfl (fun K hK => ?_) AllReady.nil
                go_simp
                try (refine hK _ _ ?_; clear hK K)
                refine wpAny_ready (rs := [2]) (by kernel_rfl) (by simp) ?_
                refine AllReady.cons rfl (fun K hK => ?_) AllReady.nil
                go_simp
                try (refine hK _ _ ?_; clear hK K)
                refine wpAny_take (i := 3) (v := ?_) rfl (by kernel_rfl) (by kernel_rfl) (by kernel_rfl) (fun _ _ _ h => h) (Or.inl ⟨by rfl, ?_⟩) ?_
                rotate_left
                · intro w; go_simp; try (with_reducible rfl)
                refine wpAny_take (i := 5) (v := ?_) rfl (by kernel_rfl) (by kernel_rfl) (by kernel_rfl) (fun _ _ _ h => h) (Or.inl ⟨by rfl, ?_⟩) ?_
                rotate_left
                · intro w; go_simp; try (with_reducible rfl)
                refine wpAny_take (i := 6) (v := ?_) rfl (by kernel_rfl) (by kernel_rfl) (by kernel_rfl) (fun _ _ _ h => h) (Or.inl ⟨by rfl, ?_⟩) ?_
                rotate_left
                · intro w; go_simp; try (with_reducible rfl)
                refine wpAny_take (i := 7) (v := ?_) rfl (by kernel_rfl) (by kernel_rfl) (by kernel_rfl) (fun _ _ _ h => h) (Or.inl ⟨by rfl, ?_⟩) ?_
                rotate_left
                · intro w; go_simp; try (with_reducible rfl)
                refine wpAny_take (i := 8) (v := ?_) rfl (by kernel_rfl) (by kernel_rfl) (by kernel_rfl) (fun _ _ _ h => h) (Or.inl ⟨by rfl, ?_⟩) ?_
                rotate_left
                · intro w; go_simp; try (with_reducible rfl)
                refine wpAny_ready (rs := [4, 9]) (by kernel_rfl) (by simp) ?_
                refine AllReady.cons rfl (fun K hK => ?_) ?_
                · go_simp
                  try (refine hK _ _ ?_; clear hK K)
                  refine wpAny_ready (rs := [9]) (by kernel_rfl) (by simp) ?_
                  refine AllReady.cons rfl (fun K hK => ?_) AllReady.nil
                  go_simp
                  try (refine hK _ _ ?_; clear hK K)
                  refine wpAny_ready (rs := [10]) (by kernel_rfl) (by simp) ?_
                  refine AllReady.cons rfl (fun K hK => ?_) AllReady.nil
                  go_simp
                  try (refine hK _ _ ?_; clear hK K)
                  refine wpAny_ready (rs := [11]) (by kernel_rfl) (by simp) ?_
                  refine AllReady.cons rfl (fun K hK => ?_) AllReady.nil
                  go_simp
                  try (refine hK _ _ ?_; clear hK K)
                  refine wpAny_ready (rs := [12]) (by kernel_rfl) (by simp) ?_
                  refine AllReady.cons rfl (fun K hK => ?_) AllReady.nil
                  go_simp
                  try (refine hK _ _ ?_; clear hK K)
                  refine wpAny_done (by kernel_rfl) ?_ _
                  go_wp2_with fail
                  go_meet
                  case rel => exact ⟨rfl, hS0⟩
                refine AllReady.cons rfl (fun K hK => ?_) ?_
                · go_simp
                  try (refine hK _ _ ?_; clear hK K)
                  refine wpAny_ready (rs := [4, 10]) (by kernel_rfl) (by simp) ?_
                  refine AllReady.cons rfl (fun K hK => ?_) ?_
                  · go_simp
                    try (refine hK _ _ ?_; clear hK K)
                    refine wpAny_ready (rs := [10]) (by kernel_rfl) (by simp) ?_
                    refine AllReady.cons rfl (fun K hK => ?_) AllReady.nil
                    go_simp
                    try (refine hK _ _ ?_; clear hK K)
                    refine wpAny_ready (rs := [11]) (by kernel_rfl) (by simp) ?_
                    refine AllReady.cons rfl (fun K hK => ?_) AllReady.nil
                    go_simp
                    try (refine hK _ _ ?_; clear hK K)
                    refine wpAny_ready (rs := [12]) (by kernel_rfl) (by simp) ?_
                    refine AllReady.cons rfl (fun K hK => ?_) AllReady.nil
                    go_simp
                    try (refine hK _ _ ?_; clear hK K)
                    refine wpAny_done (by kernel_rfl) ?_ _
                    go_wp2_with fail
                    go_meet
                    case rel => exact ⟨rfl, hS0⟩
                  refine AllReady.cons rfl (fun K hK => ?_) ?_
                  · go_simp
                    try (refine hK _ _ ?_; clear hK K)
                    refine wpAny_ready (rs := [4]) (by kernel_rfl) (by simp) ?_
                    refine AllReady.cons rfl (fun K hK => ?_) AllReady.nil
                    go_simp
                    try (refine hK _ _ ?_; clear hK K)
                    refine wpAny_ready (rs := [11]) (by kernel_rfl) (by simp) ?_
                    refine AllReady.cons rfl (fun K hK => ?_) AllReady.nil
                    go_simp
                    try (refine hK _ _ ?_; clear hK K)
                    refine wpAny_ready (rs := [12]) (by kernel_rfl) (by simp) ?_
                    refine AllReady.cons rfl (fun K hK => ?_) AllReady.nil
                    go_simp
                    try (refine hK _ _ ?_; clear hK K)
                    refine wpAny_done (by kernel_rfl) ?_ _
                    go_wp2_with fail
                    go_meet
                    case rel => exact ⟨rfl, hS0⟩
                  exact AllReady.nil
                exact AllReady.nil
              case rest =>
                obtain ⟨rfl, hBc⟩ := hcut
                replace hBc := hidden hBc
                clear hx1 hx2 hgb hS0
                go_wp2
                go_roundg (k - (m + 1))
                case measure => rw [hgm.out]; omega
                case rel => exact ⟨m + 1, hlt, rfl, by go_num, hBc⟩
            · have hlt2 : ¬ (m : Int) < (k : Int) := by omega
              have hBw := hB10'.out.trans (hI.out.mono hB10'.out.size)
              have hA := hidden (jawake_calls wr (hG.out.below hBw))
              replace hBw := hidden hBw
              clear hI
              go_wp2_with fail
              refine (hA.out).mono ?_
              rintro ev w12 ⟨rfl, hB12⟩
              have hE := hidden (hBw.out.trans (hB12.mono hBw.out.size))
              clear hB12 hBw hA
              go_wp2
              go_ret
              exact ⟨rfl, hE.out⟩
end Go.Proofs.YtbagncolhckhjaaDoor
