/- JournalAgain answers true, whatever it is given, and changes nothing that was there. -/
import Derived.Test.YtbagncolhckhjaaDoorJa0
namespace Go.Proofs.YtbagncolhckhjaaDoor
open Go.RowKit Go.Extern.Stop Go.Stop Go.Extern
set_option maxRecDepth 100000

set_option maxHeartbeats 3000000 in
theorem journalAgain_calls (a0 n0 : Int) (zs : List Int) (vo : Value) (w : World) (hG0 : Ground w) (hz : IntsAt w vo zs) :
    Calls Tryd.prog 3 #[.int .i64 a0, vo, .int .i64 n0] w fun e w' => e = .returned (.bool true) ∧ Below w.heap.size w w' := by
  obtain ⟨I, hI0, hI1⟩ : ∃ I : Nat, bits .and .i64 n0 7 = (I : Int) ∧ I ≤ 7 := by
    have h0 : 0 ≤ bits .and .i64 n0 7 := (and_low n0 7 (by decide)).1
    have h1 : bits .and .i64 n0 7 ≤ 7 := (and_low n0 7 (by decide)).2
    exact ⟨_, (Int.toNat_of_nonneg h0).symm, by omega⟩
  obtain ⟨N, hN⟩ : ∃ N, N = I + 1 := ⟨_, rfl⟩
  have hN1 : (I : Int) + 1 = (N : Int) := by omega
  have hN2 : 1 ≤ N ∧ N ≤ 8 := by omega
  obtain ⟨H, hH⟩ : ∃ H, N / 2 = H := ⟨_, rfl⟩
  have hH1 : (N : Int).tdiv 2 = (H : Int) := by rw [Int.tdiv_eq_ediv_of_nonneg (by omega)]; omega
  have hH2 : H ≤ 4 := by omega
  obtain ⟨F, hF⟩ : ∃ F, bits .and .i64 a0 31 = F := ⟨_, rfl⟩
  have hF0 : 0 ≤ F := hF ▸ (and_low a0 31 (by decide)).1
  have hF1 : F ≤ 31 := hF ▸ (and_low a0 31 (by decide)).2
  clear hN hH
  have hG := hidden hG0
  obtain ⟨oa, ocap, rfl, hzl, hzc⟩ := hz
  have hzl' : zs.length ≤ 9223372036854775807 := by unfold maxLen at hzl; omega
  clear hzl
  replace hzc := hidden hzc
  go_enter Tryd.func3, Tryd.ntmps3
  go_wp2_with fail
  refine (sys_new 60 (by omega) (by omega) w hG0).mono ?_
  rintro ev w1 ⟨rfl, hS1⟩
  have hOp := hidden (open_idle hS1 (by decide) 0 8 ⟨by omega, by omega⟩ (by decide) (idle_zero 0))
  have hdl1 := hS1.disk.lt
  have hbs1 := hS1.below.size
  replace hS1 := hidden hS1
  clear hG0
  go_wp2_with fail
  refine (hOp.out).mono ?_
  rintro ev w2 ⟨jb, rfl, hJ2, hjb, hB2⟩
  have hsz2 := hB2.size
  have hjl2 := hJ2.lt
  have hS2 := hidden (hS1.out.more hB2)
  replace hJ2 := hidden hJ2
  clear hOp hB2 hS1
  go_wp2_with fail
  go_loopg [11, 12, 13] N (fun gk va vb q wr => ∃ k : Nat, k ≤ N ∧ gk = N - k ∧ q = .int .i64 k ∧ Hid (∃ psA psB, Two w2.heap.size wr va vb psA psB (seqG noA fGA k) (seqG (noB H) fGB k) ∧ Below w2.heap.size w2 wr))
  case atStart => exact ⟨0, by omega, rfl, rfl, hidden ⟨[], [], ⟨⟨GOwn.nil _ _, rfl⟩, ⟨GOwn.nil _ _, rfl⟩, fun p q hp => by simp at hp, fun _ => rfl⟩, Below.refl _ _⟩⟩
  case round =>
    obtain ⟨k, hk, hgk, rfl, hI⟩ := hrel
    replace hgk := hidden hgk
    obtain ⟨psA, psB, hT, hB⟩ := hI.out
    clear hI
    by_cases hlt : k < N
    · have hlt2 : (k : Int) < (N : Int) := by omega
      have hem : psA = [] → psB = [] := fun e => by
        have h1 := hT.a.len
        have h2 := hT.b.len
        rw [seqG_len, e] at h1
        rw [seqG_len, ← h1] at h2
        exact List.length_eq_zero_iff.1 h2
      have hFA := hidden (fill_calls (fGA k) wr)
      replace hT := hidden hT
      replace hB := hidden hB
      go_wp2_with fail
      refine (hFA.out).mono ?_
      rintro ev w3 ⟨rfl, hw3⟩
      obtain ⟨va4, w4, psA4, hrun4, hT4, hne4, hB4⟩ := hT.out.pushA hem (by omega) hB.out.size w3 hw3 31
      have hBb4 := hidden (hB.out.trans hB4)
      replace hT4 := hidden hT4
      obtain ⟨X, hX⟩ : ∃ X, noA k = X := ⟨_, rfl⟩
      rw [hX] at hrun4
      have hno : (30 : Int) + (k : Int) = (X : Int) := by rw [← hX]; show _ = ((30 + k : Nat) : Int); omega
      have hX2 : X ≤ 40 := by rw [← hX]; show 30 + k ≤ 40; omega
      obtain ⟨R, hR⟩ : ∃ R, (k + H) % 8 = R := ⟨_, rfl⟩
      have hR1 : ((k : Int) + (H : Int)).tmod 8 = (R : Int) := by rw [Int.tmod_eq_emod_of_nonneg (by omega)]; omega
      have hR2 : R ≤ 7 := by omega
      obtain ⟨Y, hY⟩ : ∃ Y, noB H k = Y := ⟨_, rfl⟩
      have hno2 : (30 : Int) + (R : Int) = (Y : Int) := by rw [← hY]; show _ = ((30 + (k + H) % 8 : Nat) : Int); rw [hR]; omega
      have hY2 : Y ≤ 40 := by omega
      replace hX := hidden hX
      replace hY := hidden hY
      replace hR := hidden hR
      replace hrun4 := hidden hrun4
      clear hw3 hFA hT hB4 hB
      have hFB := hidden (fill_calls (fGB k) w4)
      go_wp2_with (first
        | (at_builtin; refine wpList_append_eq _ _ 31 rfl _ _ va4 w4 rfl rfl hrun4.out rfl ?_)
        | fail)
      refine (hFB.out).mono ?_
      rintro ev w5 ⟨rfl, hw5⟩
      obtain ⟨vb6, w6, psB6, hrun6, hT6, hB6⟩ := hT4.out.pushB hne4 (by omega) hBb4.out.size w5 hw5 31
      have hE := hidden (And.intro hT6 (hBb4.out.trans hB6))
      rw [hY.out] at hrun6
      replace hrun6 := hidden hrun6
      clear hw5 hFB hT4 hB6 hBb4 hT6 hrun4
      go_wp2_with (at_builtin; refine wpList_append_eq _ _ 31 rfl _ _ vb6 w6 rfl rfl hrun6.out rfl ?_)
      go_roundg (N - (k + 1))
      case measure => rw [hgk.out]; omega
      case rel => exact ⟨k + 1, hlt, rfl, by go_num, hidden ⟨_, _, hE.out⟩⟩
    · have hlt2 : ¬ (k : Int) < (N : Int) := by omega
      obtain rfl : k = N := by omega
      have hdb : w.heap.size + 1 < w2.heap.size ∧ w.heap.size < w2.heap.size := by omega
      have hCa := hidden (commit_good (hS2.out.more hB) (by decide) ⟨by omega, by omega⟩ jb 0 8 ⟨by omega, by omega⟩ (hJ2.out.below hB) ⟨by omega, by omega⟩ (by decide) (idle_zero 0) (seqG noA fGA k) (by rw [seqG_len]; omega) (by rw [seqG_len]; omega) (goodA k (by omega)) _ (hT.a.off (by rw [seqG_len]; omega) hdb.1 hdb.2))
      replace hT := hidden hT
      replace hB := hidden hB
      go_wp2_with fail
      refine (hCa.out).mono ?_
      rintro ev w3 ⟨r3, rfl, hDn⟩
      rcases hDn.out with ⟨rfl, left3, hS3, -, hl3⟩ | ⟨_, _, _, _, _, _, _, _, hne⟩
      rotate_left
      · exact absurd rfl hne
      rw [hl3 rfl] at hS3
      have hid3 := hidden (seq_all (mem := fun _ => 0) (goodA k (by omega)) (need_room (by rw [seqG_len]; omega))).1
      have hln := all_len 0 (seqG noA fGA k) (by rw [seqG_len]; omega)
      generalize laid (allWs 0 (seqG noA fGA k)) (fun _ => 0) = mem3 at hS3 hid3
      generalize ((allWs 0 (seqG noA fGA k)).length : Nat) = L3 at hS3 hln
      have hT3 := hidden (hT.out.b.keep hDn.apart (by simp; exact hdb))
      have hsz3 := hDn.apart.size
      have hszB := hB.out.size
      have hJ3 := hidden ((hJ2.out.below hB.out).keep hDn.apart (by simp; omega))
      replace hS3 := hidden hS3
      clear hDn hCa hl3 hT hB hS2 hJ2
      go_wp2_with fail
      -- the texts ahead of the second Commit
      have hTx0 : Hid (TextsAt w3.heap.size (fun _ => ⟨#[]⟩) (w3.alloc (.cells noTexts 37))) := hidden (texts_new w3 noTexts _ _ noTexts_get)
      go_loopg [15] 8 (fun gk q wr => ∃ m : Nat, m ≤ 8 ∧ gk = 8 - m ∧ q = .int .i64 m ∧ Hid (Below w3.heap.size w3 wr ∧ TextsAt w3.heap.size (fun j => if j < m then ofBytes (blockL mem3 (30 + j)) else ⟨#[]⟩) wr))
      case atStart => exact ⟨0, by omega, rfl, rfl, hidden ⟨(Below.refl _ _).alloc (Nat.le_refl _) _, by simpa using hTx0.out⟩⟩
      case round =>
        obtain ⟨m, hm, hgm, rfl, hI⟩ := hrel
        replace hgm := hidden hgm
        by_cases hlt : m < 8
        · have hR := hidden (jread_calls (hS3.out.more hI.out.1) (by decide) jb 0 8 (hJ3.out.below hI.out.1) (30 + m) (by omega))
          have hrk : (30 : Int) + (m : Int) = ((30 + m : Nat) : Int) := by omega
          have hrk2 : 30 + m ≤ 40 := by omega
          have hlt2 : (m : Int) < 8 := by omega
          obtain ⟨Z, hZ⟩ : ∃ Z, ofBytes (blockL mem3 (30 + m)) = Z := ⟨_, rfl⟩
          obtain ⟨D, hD⟩ : ∃ D, blockL mem3 (30 + m) = D := ⟨_, rfl⟩
          rw [hD] at hR hZ
          replace hD := hidden hD
          generalize hrr : 30 + m = rk at hrk hR hrk2
          replace hrr := hidden hrr
          go_wp2_with fail
          refine (hR.out).mono ?_
          rintro ev w4 ⟨v4, rfl, hb4, hB4⟩
          have hx4 := conv_bytes w4 _ _ hb4
          rw [hZ] at hx4
          have hT4 := hI.out.2.below hB4
          have hc4 := hT4.cell m hlt
          have hf4 := hT4.free m hlt
          have hB34 := hI.out.1.trans (hB4.mono hI.out.1.size)
          have hE := hidden (And.intro (hB34.setCell (p := ⟨w3.heap.size, m, none⟩) (Nat.le_refl _) (.string Z)) (hT4.set m hlt Z))
          replace hZ := hidden hZ
          clear hb4 hB4 hR hT4 hB34 hI
          go_wp2
          go_roundg (8 - (m + 1))
          case measure => rw [hgm.out]; omega
          case rel =>
            refine ⟨m + 1, hlt, rfl, by go_num, hidden ⟨hE.out.1, hE.out.2.congr fun j hj => ?_⟩⟩
            by_cases e : j = m
            · subst e
              rw [if_pos rfl, if_pos (by omega), hD.out, hZ.out]
            · rw [if_neg e]
              by_cases h' : j < m
              · rw [if_pos h', if_pos (by omega)]
              · rw [if_neg h', if_neg (by omega)]
        · have hlt2 : ¬ (m : Int) < 8 := by omega
          obtain rfl : m = 8 := by omega
          have hTx := hidden (hI.out.2.congr (us := fun j => ofBytes (blockL mem3 (30 + j))) fun j hj => by rw [if_pos hj])
          have hB4 := hidden hI.out.1
          have hS4 := hidden (hS3.out.more hI.out.1)
          have hL4 := hidden (hT3.out.keep (Apart.of_below (bs := []) hI.out.1) (by simp))
          have hJ4 := hidden (hJ3.out.below hI.out.1)
          have hsz4 := hI.out.1.size
          clear hI hS3 hT3 hJ3 hTx0
          go_wp2_with fail
          refine (sys_fuse hS4.out F).mono ?_
          rintro ev w5 ⟨rfl, hS5, hA5⟩
          rw [show fused (-1) F = F by unfold fused; rw [if_neg (by decide)]; omega] at hS5
          have hA5' := hA5.mono (bs := [w.heap.size + 1]) (cs := [w.heap.size + 1, w.heap.size]) (by simp)
          have hL5 := hL4.out.keep hA5' (by simp; exact hdb)
          have hCb := hidden (commit_good hS5 ⟨by omega, by omega⟩ ⟨by omega, by omega⟩ jb 0 8 ⟨by omega, by omega⟩ (hJ4.out.keep hA5' (by simp; omega)) ⟨by omega, by omega⟩ (by decide) hid3.out (seqG (noB H) fGB k) (by rw [seqG_len]; omega) (by rw [seqG_len]; omega) (goodB H k (by omega)) _ (hL5.off (by rw [seqG_len]; omega) hdb.1 hdb.2))
          have hTx5 := hidden (hTx.out.keep hA5' (by simp; omega))
          have hsz5 := hA5'.size
          replace hL5 := hidden hL5
          clear hS4 hS5 hL4 hJ4 hA5 hA5' hTx
          go_upto_region 25 with fail
          go_cut [18] (fun c wx => ∃ δ : Bool, c = .bool δ ∧ AgSt w (w.heap.size + 1) w.heap.size H k mem3 δ 3000 wx ∧ Apart [w.heap.size + 1, w.heap.size] w5 wx)
          case first =>
            go_wp2_with fail
            refine (hCb.out).mono ?_
            rintro ev w6 ⟨r6, rfl, hDn⟩
            obtain ⟨hA6, hD6⟩ := ag_commit (by omega) hid3.out (by omega) hDn
            rcases hD6 with ⟨rfl, hSt6⟩ | ⟨b6, rfl, hSt6⟩
            · have hE := hidden (And.intro hSt6 hA6)
              clear hDn hA6 hSt6
              go_wp2
              go_meet
              case rel => exact ⟨true, rfl, hE.out⟩
            · have hE := hidden (And.intro hSt6 hA6)
              clear hDn hA6 hSt6
              go_wp2
              go_meet
              case rel => exact ⟨false, rfl, hE.out⟩
          case rest =>
            obtain ⟨δ, rfl, hSt6, hA6⟩ := hcut
            have hL6 := hidden (hL5.out.keep hA6 (by simp; exact hdb))
            have hTx6 := hidden (hTx5.out.keep hA6 (by simp; omega))
            have hsz6 := hA6.size
            replace hSt6 := hidden hSt6
            clear hCb hA6 hL5 hTx5
            go_wp2_with fail
            go_loopg [19] 9 (fun gk q wr => ∃ i : Nat, i ≤ 8 ∧ gk = 9 - i ∧ q = .int .i64 i ∧ Hid (AgSt w (w.heap.size + 1) w.heap.size H k mem3 δ (3000 + 300 * (i : Int)) wr ∧ Apart [w.heap.size + 1, w.heap.size] wc wr))
            case atStart => exact ⟨0, by omega, rfl, rfl, hidden ⟨by simpa using hSt6.out, Apart.refl _ _⟩⟩
            case round =>
              obtain ⟨i, hi, hgi, rfl, hI⟩ := hrel
              replace hgi := hidden hgi
              by_cases hlt : i < zs.length ∧ i < 8
              · have hlt1 : (i : Int) < (zs.length : Int) := by omega
                have hlt2 : (i : Int) < 8 := by omega
                obtain ⟨ob, off, rfl, hob, hocell⟩ := hzc.out (by intro e; rw [e] at hlt; simp at hlt)
                have hcl := hocell i hlt.1
                obtain ⟨zi, hzi⟩ : ∃ zi, zs.getD i 0 = zi := ⟨_, rfl⟩
                rw [hzi] at hcl
                clear hzi
                obtain ⟨F2, hF2⟩ : ∃ F2, bits .and .i64 zi 31 = F2 := ⟨_, rfl⟩
                have hF20 : 0 ≤ F2 := hF2 ▸ (and_low zi 31 (by decide)).1
                have hF21 : F2 ≤ 31 := hF2 ▸ (and_low zi 31 (by decide)).2
                have hPw := hidden (ag_power hI.out.1)
                have hA7 := hidden hI.out.2
                clear hI hocell
                go_wp2_with fail
                refine (hPw.out).mono ?_
                rintro ev w7 ⟨rfl, ⟨vv7, mem7, wr7, hS7, h07, h17, hSt7, hH7⟩, hA7'⟩
                have hcl7 := (hS7.below.cell (p := ⟨ob, off + i, none⟩) hob).trans hcl
                have hA77 := hidden (hA7.out.trans hA7')
                replace hS7 := hidden hS7
                replace hSt7 := hidden hSt7
                replace hH7 := hidden hH7
                clear hPw hA7 hA7'
                go_wp2_with fail
                refine (sys_fuse hS7.out F2).mono ?_
                rintro ev w8 ⟨rfl, hS8, hA8⟩
                rw [show fused (-1) F2 = F2 by unfold fused; rw [if_neg (by decide)]; omega] at hS8
                have hOp8 := hidden (ag_open (by omega) (by omega) hS8 ⟨by omega, by omega⟩ h07 h17 (by omega) hSt7.out hH7.out)
                have hA88 := hidden (hA77.out.trans (hA8.mono (bs := [w.heap.size + 1]) (cs := [w.heap.size + 1, w.heap.size]) (by simp)))
                clear hS7 hS8 hA8 hSt7 hH7 hA77 hcl hcl7
                go_wp2_with fail
                refine (hOp8.out).mono ?_
                rintro ev w9 ⟨x9, y9, rfl, hSt9, hA9⟩
                have hE := hidden (And.intro hSt9 (hA88.out.trans hA9))
                clear hOp8 hSt9 hA9 hA88
                go_wp2
                go_roundg (9 - (i + 1))
                case measure => rw [hgi.out]; omega
                case rel =>
                  refine ⟨i + 1, by omega, rfl, by go_num, hidden ⟨?_, hE.out.2⟩⟩
                  have := hE.out.1
                  rw [show (3000 : Int) + 300 * ((i + 1 : Nat) : Int) = 3000 + 300 * (i : Int) + 300 by omega]
                  exact this
              · have hPw := hidden (ag_power hI.out.1)
                have hA7 := hidden hI.out.2
                clear hI
                have hends : ∀ {P : Prop}, ((zs.length : Int) ≤ (i : Int) → P) → ((i : Int) < (zs.length : Int) → (8 : Int) ≤ (i : Int) → P) → P := fun {P} h1 h2 => by
                  rcases Classical.em (i < zs.length) with h | h
                  · exact h2 (by omega) (by omega)
                  · exact h1 (by omega)
                apply hends
                all_goals (
                  intros
                  go_wp2_with fail
                  refine (hPw.out).mono ?_
                  rintro ev w7 ⟨rfl, ⟨vv7, mem7, wr7, hS7, h07, h17, hSt7, hH7⟩, hA7'⟩
                  have hOp := hidden (ag_last (by omega) (by omega) hS7 h07 h17 (by omega) hSt7 hH7)
                  have hA77 := hidden (hA7.out.trans hA7')
                  clear hPw hS7 hSt7 hH7 hA7 hA7'
                  go_wp2_with fail
                  refine (hOp.out).mono ?_
                  rintro ev w9 ⟨jb9, mem9, wr9, rfl, hJ9, hS9, hA9, hC9⟩
                  have hA99 := hA77.out.trans hA9
                  have hL9 := hidden (hL6.out.keep hA99 (by simp; exact hdb))
                  have hTx9 := hTx6.out.keep hA99 (by simp; omega)
                  have hsz9 := hA99.size
                  have t0 := hTx9.cell 0 (by decide)
                  have t1 := hTx9.cell 1 (by decide)
                  have t2 := hTx9.cell 2 (by decide)
                  have t3 := hTx9.cell 3 (by decide)
                  have t4 := hTx9.cell 4 (by decide)
                  have t5 := hTx9.cell 5 (by decide)
                  have t6 := hTx9.cell 6 (by decide)
                  have t7 := hTx9.cell 7 (by decide)
                  replace hTx9 := hidden hTx9
                  replace hJ9 := hidden hJ9
                  replace hS9 := hidden hS9
                  replace hC9 := hidden hC9
                  clear hOp hA9 hA77 hA99 hL6 hTx6
                  have hNow : TextsAt w9.heap.size (fun j => ofBytes (blockL mem3 (30 + j))) (w9.alloc (.cells #[.string (ofBytes (blockL mem3 (30 + 0))), .string (ofBytes (blockL mem3 (30 + 1))), .string (ofBytes (blockL mem3 (30 + 2))), .string (ofBytes (blockL mem3 (30 + 3))), .string (ofBytes (blockL mem3 (30 + 4))), .string (ofBytes (blockL mem3 (30 + 5))), .string (ofBytes (blockL mem3 (30 + 6))), .string (ofBytes (blockL mem3 (30 + 7)))] 37)) := texts_new w9 _ _ _ (fun j hj => by
                    match j, hj with
                    | 0, _ => rfl
                    | 1, _ => rfl
                    | 2, _ => rfl
                    | 3, _ => rfl
                    | 4, _ => rfl
                    | 5, _ => rfl
                    | 6, _ => rfl
                    | 7, _ => rfl)
                  generalize ofBytes (blockL mem3 (30 + 0)) = T0 at t0 hNow
                  generalize ofBytes (blockL mem3 (30 + 1)) = T1 at t1 hNow
                  generalize ofBytes (blockL mem3 (30 + 2)) = T2 at t2 hNow
                  generalize ofBytes (blockL mem3 (30 + 3)) = T3 at t3 hNow
                  generalize ofBytes (blockL mem3 (30 + 4)) = T4 at t4 hNow
                  generalize ofBytes (blockL mem3 (30 + 5)) = T5 at t5 hNow
                  generalize ofBytes (blockL mem3 (30 + 6)) = T6 at t6 hNow
                  generalize ofBytes (blockL mem3 (30 + 7)) = T7 at t7 hNow
                  replace hNow := hidden hNow
                  obtain ⟨gbB, capB, hvb⟩ := hL9.out.form (by intro e; have := seqG_len (noB H) fGB k; rw [e, List.length_nil] at this; omega)
                  rw [seqG_len] at hvb
                  subst hvb
                  go_wp2_with fail
                  go_loopg [21] k (fun gk q wr => ∃ m : Nat, m ≤ k ∧ gk = k - m ∧ q = .int .i64 m ∧ Hid (Below w9.heap.size w9 wr ∧ TextsAt w9.heap.size (nowT (fun j => ofBytes (blockL mem3 (30 + j))) H m) wr))
                  case atStart => exact ⟨0, by omega, rfl, rfl, hidden ⟨(Below.refl _ _).alloc (Nat.le_refl _) _, hNow.out⟩⟩
                  case round =>
                    obtain ⟨m, hm, hgm, rfl, hI⟩ := hrel
                    replace hgm := hidden hgm
                    clear t0 t1 t2 t3 t4 t5 t6 t7
                    by_cases hlt : m < k
                    · have hlt2 : (m : Int) < (k : Int) := by omega
                      have hLm := hL9.out.keep (Apart.of_below (bs := []) hI.out.1) (by simp)
                      have hcn := hLm.no m (by rw [seqG_len]; exact hlt) (by rw [seqG_len]; omega)
                      obtain ⟨blk, hcl, hbd⟩ := hLm.data m (by rw [seqG_len]; exact hlt)
                      rw [seqG_get _ _ _ _ hlt] at hbd
                      obtain ⟨R, hR⟩ : ∃ R, (m + H) % 8 = R := ⟨_, rfl⟩
                      have hR8 : R < 8 := by omega
                      have hnb : nob (seqG (noB H) fGB k) m = 30 + R := by show ((seqG (noB H) fGB k).getD m (0, [])).1 = _; rw [seqG_get _ _ _ _ hlt, ← hR]
                      rw [hnb] at hcn
                      have hsub : IntKind.i64.wrap (((30 + R : Nat) : Int) - 30) = (R : Int) := by rw [show ((30 + R : Nat) : Int) - 30 = (R : Int) by omega]; exact wrap_pos _ (by omega) (by omega)
                      have hY : 30 + R ≤ 40 := by omega
                      generalize 30 + R = Y at hcn hsub hY
                      have hcd : wr.drew.cell? ⟨gbB, m * 2, none⟩ = some (.int .i64 (Y : Int)) := by simpa using hcn
                      have hcd2 : wr.drew.cell? ⟨gbB, m * 2 + 1, none⟩ = some (.slice (some ⟨blk, 0, none⟩) 128 128) := by simpa using hcl
                      have hB2 := hI.out.1.drew
                      have hT2 : TextsAt w9.heap.size (nowT (fun j => ofBytes (blockL mem3 (30 + j))) H m) wr.drew := hI.out.2.below (Below.refl _ _).drew
                      have hx2 := conv_bytes wr.drew _ _ (hbd.below (Below.refl _ _).drew)
                      have hcR := hT2.cell R hR8
                      have hfR := hT2.free R hR8
                      have hst : nowT (fun j => ofBytes (blockL mem3 (30 + j))) H (m + 1) = fun j => if j = R then ofBytes (fillL (fGB m)) else nowT (fun j => ofBytes (blockL mem3 (30 + j))) H m j := by funext j; rw [← hR]; rfl
                      have hE := hidden (And.intro (hB2.setCell (p := ⟨w9.heap.size, R, none⟩) (Nat.le_refl _) (.string (ofBytes (fillL (fGB m))))) (hT2.set R hR8 (ofBytes (fillL (fGB m)))))
                      rw [← hst] at hE
                      have hR8' : (R : Int) < 8 := by omega
                      generalize ofBytes (fillL (fGB m)) = Z at hx2 hE
                      generalize nowT (fun j => ofBytes (blockL mem3 (30 + j))) H m R = ZR at hcR
                      clear hI hLm hcn hcl hbd hB2 hT2 hnb hst hR
                      go_upto_region 40 with fail
                      go_region
                      all_goals (
                        go_wp2
                        go_roundg (k - (m + 1))
                        case measure => rw [hgm.out]; omega
                        case rel => exact ⟨m + 1, hlt, rfl, by go_num, hidden hE.out⟩)
                    · have hlt2 : ¬ (m : Int) < (k : Int) := by omega
                      obtain rfl : m = k := by omega
                      have hXX : (∀ x, x < 8 → ofBytes (blockL mem9 (30 + x)) = nowT (fun j => ofBytes (blockL mem3 (30 + j))) H m x) ∨ (δ = false ∧ ∀ x, x < 8 → ofBytes (blockL mem9 (30 + x)) = ofBytes (blockL mem3 (30 + x))) := by
                        rcases hC9.out with ⟨hc1, hc2⟩ | ⟨hd, hc1⟩
                        · refine Or.inl fun x hx => (nowT_is (fun j => ofBytes (blockL mem3 (30 + j))) (fun y => ofBytes (blockL mem9 (30 + y))) H x m (fun j hj e => ?_) (fun hne => ?_)).symm
                          · have := hc1 j hj
                            rw [show noB H j = 30 + x by show 30 + (j + H) % 8 = 30 + x; omega] at this
                            show ofBytes (blockL mem9 (30 + x)) = _
                            rw [this]
                          · have := hc2 (30 + x) (by omega) (fun j hj => by have := hne j hj; show 30 + (j + H) % 8 ≠ 30 + x; omega)
                            show ofBytes (blockL mem9 (30 + x)) = ofBytes (blockL mem3 (30 + x))
                            rw [this]
                        · exact Or.inr ⟨hd, fun x hx => by rw [hc1 (30 + x) (by omega)]⟩
                      have hall : Hid (Sys w (w.heap.size + 1) w.heap.size 60 mem9 wr9 (-1) wr ∧ JAt jb9 (w.heap.size + 1) 0 8 wr ∧ TextsAt w9.heap.size (nowT (fun j => ofBytes (blockL mem3 (30 + j))) H m) wr ∧ TextsAt w3.heap.size (fun j => ofBytes (blockL mem3 (30 + j))) wr) := hidden ⟨hS9.out.more hI.out.1, hJ9.out.below hI.out.1, hI.out.2, hTx9.out.below hI.out.1⟩
                      replace hXX := hidden hXX
                      clear hI hC9 hS9 hJ9 hTx9 hL9 hNow
                      go_wp2_with fail
                      generalize wr = w10 at hall ⊢
                      go_loopg [22, 23, 24] 8 (fun gk al nn q wr => ∃ x : Nat, x ≤ 8 ∧ gk = 8 - x ∧ q = .int .i64 x ∧ ∃ ab nb : Bool, al = .bool ab ∧ nn = .bool nb ∧ Hid ((∀ x, x < 8 → ofBytes (blockL mem9 (30 + x)) = nowT (fun j => ofBytes (blockL mem3 (30 + j))) H m x) → ab = true) ∧ Hid ((∀ x, x < 8 → ofBytes (blockL mem9 (30 + x)) = ofBytes (blockL mem3 (30 + x))) → nb = true) ∧ Hid (Below w10.heap.size w10 wr))
                      case atStart => exact ⟨0, by omega, rfl, rfl, true, true, rfl, rfl, hidden (fun _ => rfl), hidden (fun _ => rfl), hidden (Below.refl _ _)⟩
                      case round =>
                        obtain ⟨x, hx, hgx, rfl, ab, nb, rfl, rfl, hab, hnb, hI⟩ := hrel
                        replace hgx := hidden hgx
                        by_cases hlt : x < 8
                        · have hlt2 : (x : Int) < 8 := by omega
                          have hR := hidden (jread_calls (hall.out.1.more hI.out) (by decide) jb9 0 8 (hall.out.2.1.below hI.out) (30 + x) (by omega))
                          obtain ⟨X, hX⟩ : ∃ X, ofBytes (blockL mem9 (30 + x)) = X := ⟨_, rfl⟩
                          obtain ⟨Nx, hNx⟩ : ∃ Nx, nowT (fun j => ofBytes (blockL mem3 (30 + j))) H m x = Nx := ⟨_, rfl⟩
                          obtain ⟨Wx, hWx⟩ : ∃ Wx, ofBytes (blockL mem3 (30 + x)) = Wx := ⟨_, rfl⟩
                          have hab2 : Hid (Hid ((∀ x, x < 8 → ofBytes (blockL mem9 (30 + x)) = nowT (fun j => ofBytes (blockL mem3 (30 + j))) H m x) → (ab && (X.toList == Nx.toList)) = true)) := hidden (hidden fun h => by rw [hab.out h, ← hX, ← hNx, h x hlt]; simp)
                          have hnb2 : Hid (Hid ((∀ x, x < 8 → ofBytes (blockL mem9 (30 + x)) = ofBytes (blockL mem3 (30 + x))) → (nb && (X.toList == Wx.toList)) = true)) := hidden (hidden fun h => by rw [hnb.out h, ← hX, ← hWx, h x hlt]; simp)
                          have hrk : (30 : Int) + (x : Int) = ((30 + x : Nat) : Int) := by omega
                          have hrk2 : 30 + x ≤ 40 := by omega
                          replace hX := hidden hX
                          generalize hrr : 30 + x = rk at hrk hR hrk2
                          replace hrr := hidden hrr
                          go_wp2_with fail
                          refine (hR.out).mono ?_
                          rintro ev w11 ⟨v11, rfl, hb11, hB11⟩
                          have hB1 := hI.out.trans (hB11.mono hI.out.size)
                          have kX : ∀ wx, Below w11.heap.size w11 wx → (convert 32 9 v11).run Tryd.prog wx = .ok (.string X) wx := fun wx hx => by
                            have := conv_bytes wx _ _ (hb11.below hx)
                            rw [← hrr.out, hX.out] at this
                            exact this
                          have kNx : ∀ wx, Below w11.heap.size w11 wx → wx.cell? ⟨w9.heap.size, x, none⟩ = some (.string Nx) := fun wx hx => by
                            have hB := hB1.trans (hx.mono hB1.size)
                            rw [← hNx]
                            exact (hall.out.2.2.1.below hB).cell x hlt
                          have kWx : ∀ wx, Below w11.heap.size w11 wx → wx.cell? ⟨w3.heap.size, x, none⟩ = some (.string Wx) := fun wx hx => by
                            have hB := hB1.trans (hx.mono hB1.size)
                            rw [← hWx]
                            exact (hall.out.2.2.2.below hB).cell x hlt
                          have hS0 : Below w11.heap.size w11 w11.drew := (Below.refl _ _).drew
                          have q1 := kX _ hS0
                          have q2 := kNx _ hS0
                          replace kX := hidden kX
                          replace kWx := hidden kWx
                          replace hB1 := hidden hB1
                          clear hR hI hb11 hB11 kNx hab hnb hNx hWx
                          go_upto_region 48 with fail
                          go_cut [22] (fun c wx => c = .bool (ab && (X.toList == Nx.toList)) ∧ Below w11.heap.size w11 wx)
                          case first =>
                            cases ab with
                            | true =>
                              clear hab2 hnb2
                              refine wp_region_any (by kernel_rfl) ?_
                              try (change wpAny _ _ _ _ _ _ _ (World.drew _))
                              refine wpAny_ready (rs := [0]) (by kernel_rfl) (by simp) ?_
                              refine AllReady.cons rfl (fun K hK => ?_) AllReady.nil
                              go_simp
                              try (refine hK _ _ ?_; clear hK K)
                              refine wpAny_ready (rs := [1]) (by kernel_rfl) (by simp) ?_
                              refine AllReady.cons rfl (fun K hK => ?_) AllReady.nil
                              go_simp
                              try (refine hK _ _ ?_; clear hK K)
                              refine wpAny_take (i := 2) (v := ?_) rfl (by kernel_rfl) (by kernel_rfl) (by kernel_rfl) (fun _ _ _ h => h) (Or.inl ⟨by rfl, ?_⟩) ?_
                              rotate_left
                              · intro w; go_simp; try (with_reducible rfl)
                              refine wpAny_take (i := 4) (v := ?_) rfl (by kernel_rfl) (by kernel_rfl) (by kernel_rfl) (fun _ _ _ h => h) (Or.inl ⟨by rfl, ?_⟩) ?_
                              rotate_left
                              · intro w; go_simp; try (with_reducible rfl)
                              refine wpAny_take (i := 5) (v := ?_) rfl (by kernel_rfl) (by kernel_rfl) (by kernel_rfl) (fun _ _ _ h => h) (Or.inl ⟨by rfl, ?_⟩) ?_
                              rotate_left
                              · intro w; go_simp; try (with_reducible rfl)
                              refine wpAny_ready (rs := [3, 6]) (by kernel_rfl) (by simp) ?_
                              refine AllReady.cons rfl (fun K hK => ?_) ?_
                              · go_simp
                                try (refine hK _ _ ?_; clear hK K)
                                refine wpAny_ready (rs := [6]) (by kernel_rfl) (by simp) ?_
                                refine AllReady.cons rfl (fun K hK => ?_) AllReady.nil
                                go_simp
                                try (refine hK _ _ ?_; clear hK K)
                                refine wpAny_ready (rs := [7]) (by kernel_rfl) (by simp) ?_
                                refine AllReady.cons rfl (fun K hK => ?_) AllReady.nil
                                go_simp
                                try (refine hK _ _ ?_; clear hK K)
                                refine wpAny_ready (rs := [8]) (by kernel_rfl) (by simp) ?_
                                refine AllReady.cons rfl (fun K hK => ?_) AllReady.nil
                                go_simp
                                try (refine hK _ _ ?_; clear hK K)
                                refine wpAny_ready (rs := [9]) (by kernel_rfl) (by simp) ?_
                                refine AllReady.cons rfl (fun K hK => ?_) AllReady.nil
                                go_simp
                                try (refine hK _ _ ?_; clear hK K)
                                refine wpAny_done (by kernel_rfl) ?_ _
                                go_wp2_with fail
                                go_meet
                                case rel => exact ⟨rfl, hS0⟩
                              refine AllReady.cons rfl (fun K hK => ?_) ?_
                              · go_simp
                                try (refine hK _ _ ?_; clear hK K)
                                refine wpAny_ready (rs := [3]) (by kernel_rfl) (by simp) ?_
                                refine AllReady.cons rfl (fun K hK => ?_) AllReady.nil
                                go_simp
                                try (refine hK _ _ ?_; clear hK K)
                                refine wpAny_ready (rs := [7]) (by kernel_rfl) (by simp) ?_
                                refine AllReady.cons rfl (fun K hK => ?_) AllReady.nil
                                go_simp
                                try (refine hK _ _ ?_; clear hK K)
                                refine wpAny_ready (rs := [8]) (by kernel_rfl) (by simp) ?_
                                refine AllReady.cons rfl (fun K hK => ?_) AllReady.nil
                                go_simp
                                try (refine hK _ _ ?_; clear hK K)
                                refine wpAny_ready (rs := [9]) (by kernel_rfl) (by simp) ?_
                                refine AllReady.cons rfl (fun K hK => ?_) AllReady.nil
                                go_simp
                                try (refine hK _ _ ?_; clear hK K)
                                refine wpAny_done (by kernel_rfl) ?_ _
                                go_wp2_with fail
                                go_meet
                                case rel => exact ⟨rfl, hS0⟩
                              exact AllReady.nil
                            | false =>
                              clear hab2 hnb2
                              refine wp_region_any (by kernel_rfl) ?_
                              try (change wpAny _ _ _ _ _ _ _ (World.drew _))
                              refine wpAny_ready (rs := [0]) (by kernel_rfl) (by simp) ?_
                              refine AllReady.cons rfl (fun K hK => ?_) AllReady.nil
                              go_simp
                              try (refine hK _ _ ?_; clear hK K)
                              refine wpAny_ready (rs := [1]) (by kernel_rfl) (by simp) ?_
                              refine AllReady.cons rfl (fun K hK => ?_) AllReady.nil
                              go_simp
                              try (refine hK _ _ ?_; clear hK K)
                              refine wpAny_take (i := 2) (v := undef) rfl (by kernel_rfl) (by kernel_rfl) (by kernel_rfl) (fun _ _ _ h => h) (Or.inr ⟨by rfl, rfl⟩) ?_
                              refine wpAny_take (i := 3) (v := undef) rfl (by kernel_rfl) (by kernel_rfl) (by kernel_rfl) (fun _ _ _ h => h) (Or.inr ⟨by rfl, rfl⟩) ?_
                              refine wpAny_ready (rs := [4]) (by kernel_rfl) (by simp) ?_
                              refine AllReady.cons rfl (fun K hK => ?_) AllReady.nil
                              go_simp
                              try (refine hK _ _ ?_; clear hK K)
                              refine wpAny_ready (rs := [5]) (by kernel_rfl) (by simp) ?_
                              refine AllReady.cons rfl (fun K hK => ?_) AllReady.nil
                              go_simp
                              try (refine hK _ _ ?_; clear hK K)
                              refine wpAny_ready (rs := [6]) (by kernel_rfl) (by simp) ?_
                              refine AllReady.cons rfl (fun K hK => ?_) AllReady.nil
                              go_simp
                              try (refine hK _ _ ?_; clear hK K)
                              refine wpAny_ready (rs := [7]) (by kernel_rfl) (by simp) ?_
                              refine AllReady.cons rfl (fun K hK => ?_) AllReady.nil
                              go_simp
                              try (refine hK _ _ ?_; clear hK K)
                              refine wpAny_ready (rs := [8]) (by kernel_rfl) (by simp) ?_
                              refine AllReady.cons rfl (fun K hK => ?_) AllReady.nil
                              go_simp
                              try (refine hK _ _ ?_; clear hK K)
                              refine wpAny_ready (rs := [9]) (by kernel_rfl) (by simp) ?_
                              refine AllReady.cons rfl (fun K hK => ?_) AllReady.nil
                              go_simp
                              try (refine hK _ _ ?_; clear hK K)
                              refine wpAny_done (by kernel_rfl) ?_ _
                              go_wp2_with fail
                              go_meet
                              case rel => exact ⟨rfl, hS0⟩
                          case rest =>
                            obtain ⟨rfl, hBc⟩ := hcut
                            have hS1 : Below w10.heap.size w10 wc.drew := (hB1.out.trans (hBc.mono hB1.out.size)).drew
                            have q3 := kX.out wc.drew hBc.drew
                            have q4 := kWx.out wc.drew hBc.drew
                            clear q1 q2 hS0 kX kWx hB1 hBc
                            generalize (ab && (X.toList == Nx.toList)) = ab3 at hab2 ⊢
                            go_upto_region 49 with fail
                            cases nb with
                            | true =>
                              refine wp_region_any (by kernel_rfl) ?_
                              try (change wpAny _ _ _ _ _ _ _ (World.drew _))
                              refine wpAny_ready (rs := [0]) (by kernel_rfl) (by simp) ?_
                              refine AllReady.cons rfl (fun K hK => ?_) AllReady.nil
                              go_simp
                              try (refine hK _ _ ?_; clear hK K)
                              refine wpAny_ready (rs := [1]) (by kernel_rfl) (by simp) ?_
                              refine AllReady.cons rfl (fun K hK => ?_) AllReady.nil
                              go_simp
                              try (refine hK _ _ ?_; clear hK K)
                              refine wpAny_take (i := 2) (v := ?_) rfl (by kernel_rfl) (by kernel_rfl) (by kernel_rfl) (fun _ _ _ h => h) (Or.inl ⟨by rfl, ?_⟩) ?_
                              rotate_left
                              · intro w; go_simp; try (with_reducible rfl)
                              refine wpAny_take (i := 4) (v := ?_) rfl (by kernel_rfl) (by kernel_rfl) (by kernel_rfl) (fun _ _ _ h => h) (Or.inl ⟨by rfl, ?_⟩) ?_
                              rotate_left
                              · intro w; go_simp; try (with_reducible rfl)
                              refine wpAny_take (i := 5) (v := ?_) rfl (by kernel_rfl) (by kernel_rfl) (by kernel_rfl) (fun _ _ _ h => h) (Or.inl ⟨by rfl, ?_⟩) ?_
                              rotate_left
                              · intro w; go_simp; try (with_reducible rfl)
                              refine wpAny_ready (rs := [3, 6]) (by kernel_rfl) (by simp) ?_
                              refine AllReady.cons rfl (fun K hK => ?_) ?_
                              · go_simp
                                try (refine hK _ _ ?_; clear hK K)
                                refine wpAny_ready (rs := [6]) (by kernel_rfl) (by simp) ?_
                                refine AllReady.cons rfl (fun K hK => ?_) AllReady.nil
                                go_simp
                                try (refine hK _ _ ?_; clear hK K)
                                refine wpAny_ready (rs := [7]) (by kernel_rfl) (by simp) ?_
                                refine AllReady.cons rfl (fun K hK => ?_) AllReady.nil
                                go_simp
                                try (refine hK _ _ ?_; clear hK K)
                                refine wpAny_ready (rs := [8]) (by kernel_rfl) (by simp) ?_
                                refine AllReady.cons rfl (fun K hK => ?_) AllReady.nil
                                go_simp
                                try (refine hK _ _ ?_; clear hK K)
                                refine wpAny_ready (rs := [9]) (by kernel_rfl) (by simp) ?_
                                refine AllReady.cons rfl (fun K hK => ?_) AllReady.nil
                                go_simp
                                try (refine hK _ _ ?_; clear hK K)
                                refine wpAny_done (by kernel_rfl) ?_ _
                                go_wp2_with fail
                                go_roundg (8 - (x + 1))
                                case measure => rw [hgx.out]; omega
                                case rel => exact ⟨x + 1, hlt, rfl, by go_num, _, _, rfl, rfl, hab2.out, hnb2.out, hidden hS1⟩
                              refine AllReady.cons rfl (fun K hK => ?_) ?_
                              · go_simp
                                try (refine hK _ _ ?_; clear hK K)
                                refine wpAny_ready (rs := [3]) (by kernel_rfl) (by simp) ?_
                                refine AllReady.cons rfl (fun K hK => ?_) AllReady.nil
                                go_simp
                                try (refine hK _ _ ?_; clear hK K)
                                refine wpAny_ready (rs := [7]) (by kernel_rfl) (by simp) ?_
                                refine AllReady.cons rfl (fun K hK => ?_) AllReady.nil
                                go_simp
                                try (refine hK _ _ ?_; clear hK K)
                                refine wpAny_ready (rs := [8]) (by kernel_rfl) (by simp) ?_
                                refine AllReady.cons rfl (fun K hK => ?_) AllReady.nil
                                go_simp
                                try (refine hK _ _ ?_; clear hK K)
                                refine wpAny_ready (rs := [9]) (by kernel_rfl) (by simp) ?_
                                refine AllReady.cons rfl (fun K hK => ?_) AllReady.nil
                                go_simp
                                try (refine hK _ _ ?_; clear hK K)
                                refine wpAny_done (by kernel_rfl) ?_ _
                                go_wp2_with fail
                                go_roundg (8 - (x + 1))
                                case measure => rw [hgx.out]; omega
                                case rel => exact ⟨x + 1, hlt, rfl, by go_num, _, _, rfl, rfl, hab2.out, hnb2.out, hidden hS1⟩
                              exact AllReady.nil
                            | false =>
                              refine wp_region_any (by kernel_rfl) ?_
                              try (change wpAny _ _ _ _ _ _ _ (World.drew _))
                              refine wpAny_ready (rs := [0]) (by kernel_rfl) (by simp) ?_
                              refine AllReady.cons rfl (fun K hK => ?_) AllReady.nil
                              go_simp
                              try (refine hK _ _ ?_; clear hK K)
                              refine wpAny_ready (rs := [1]) (by kernel_rfl) (by simp) ?_
                              refine AllReady.cons rfl (fun K hK => ?_) AllReady.nil
                              go_simp
                              try (refine hK _ _ ?_; clear hK K)
                              refine wpAny_take (i := 2) (v := undef) rfl (by kernel_rfl) (by kernel_rfl) (by kernel_rfl) (fun _ _ _ h => h) (Or.inr ⟨by rfl, rfl⟩) ?_
                              refine wpAny_take (i := 3) (v := undef) rfl (by kernel_rfl) (by kernel_rfl) (by kernel_rfl) (fun _ _ _ h => h) (Or.inr ⟨by rfl, rfl⟩) ?_
                              refine wpAny_ready (rs := [4]) (by kernel_rfl) (by simp) ?_
                              refine AllReady.cons rfl (fun K hK => ?_) AllReady.nil
                              go_simp
                              try (refine hK _ _ ?_; clear hK K)
                              refine wpAny_ready (rs := [5]) (by kernel_rfl) (by simp) ?_
                              refine AllReady.cons rfl (fun K hK => ?_) AllReady.nil
                              go_simp
                              try (refine hK _ _ ?_; clear hK K)
                              refine wpAny_ready (rs := [6]) (by kernel_rfl) (by simp) ?_
                              refine AllReady.cons rfl (fun K hK => ?_) AllReady.nil
                              go_simp
                              try (refine hK _ _ ?_; clear hK K)
                              refine wpAny_ready (rs := [7]) (by kernel_rfl) (by simp) ?_
                              refine AllReady.cons rfl (fun K hK => ?_) AllReady.nil
                              go_simp
                              try (refine hK _ _ ?_; clear hK K)
                              refine wpAny_ready (rs := [8]) (by kernel_rfl) (by simp) ?_
                              refine AllReady.cons rfl (fun K hK => ?_) AllReady.nil
                              go_simp
                              try (refine hK _ _ ?_; clear hK K)
                              refine wpAny_ready (rs := [9]) (by kernel_rfl) (by simp) ?_
                              refine AllReady.cons rfl (fun K hK => ?_) AllReady.nil
                              go_simp
                              try (refine hK _ _ ?_; clear hK K)
                              refine wpAny_done (by kernel_rfl) ?_ _
                              go_wp2_with fail
                              go_roundg (8 - (x + 1))
                              case measure => rw [hgx.out]; omega
                              case rel => exact ⟨x + 1, hlt, rfl, by go_num, _, _, rfl, rfl, hab2.out, hnb2.out, hidden hS1⟩
                        · have hlt2 : ¬ (x : Int) < 8 := by omega
                          have hBw := hall.out.1.below.trans (hI.out.mono hall.out.1.below.size)
                          have hAw := hidden (jawake_calls wr (hG.out.below hBw))
                          replace hBw := hidden hBw
                          clear hI
                          rcases hXX.out with h | ⟨hd, h⟩
                          · obtain rfl := hab.out h
                            go_wp2_with fail
                            refine (hAw.out).mono ?_
                            rintro ev w14 ⟨rfl, hB14⟩
                            have hE := hidden (hBw.out.trans (hB14.mono hBw.out.size))
                            clear hB14 hBw hAw
                            go_wp2
                            go_ret
                            exact ⟨rfl, hE.out⟩
                          · obtain rfl := hnb.out h
                            subst hd
                            cases ab with
                            | true =>
                              go_wp2_with fail
                              refine (hAw.out).mono ?_
                              rintro ev w14 ⟨rfl, hB14⟩
                              have hE := hidden (hBw.out.trans (hB14.mono hBw.out.size))
                              clear hB14 hBw hAw
                              go_wp2
                              go_ret
                              exact ⟨rfl, hE.out⟩
                            | false =>
                              go_wp2_with fail
                              refine (hAw.out).mono ?_
                              rintro ev w14 ⟨rfl, hB14⟩
                              have hE := hidden (hBw.out.trans (hB14.mono hBw.out.size))
                              clear hB14 hBw hAw
                              go_wp2
                              go_ret
                              exact ⟨rfl, hE.out⟩)
end Go.Proofs.YtbagncolhckhjaaDoor
