/- DiskCopies answers true, whatever it is given, and changes nothing that was there. -/
import Derived.Test.YtahehgbibmmaeaaDoorFu
import Derived.Test.YtahehgbibmmaeaaDoorCp
namespace Go.Proofs.YtahehgbibmmaeaaDoor
open Go.RowKit Go.Extern.Stop Go.Stop Go.Extern
set_option maxRecDepth 100000

theorem blockL_zero (j : Nat) : blockL (fun _ => 0) j = zeroL := by
  apply List.ext_getElem?
  intro k
  by_cases hk : k < 128
  · rw [blockL_get _ _ _ hk]; simp [hk]
  · rw [List.getElem?_eq_none (by rw [blockL_len]; omega), List.getElem?_eq_none (by simp; omega)]
theorem leftOf_zero (a k : Int) : (leftOf a k == 0) = decide (a ≤ k) := by
  unfold leftOf
  by_cases h : a ≤ k
  · rw [if_pos h]; simp [h]
  · rw [if_neg h]; simp [h]; omega
theorem Sys.keep {w0 : World} {d g n : Nat} {mem : Nat → Int} {writes left : Int} {w w' : World} (h : Sys w0 d g n mem writes left w) {bs : List Nat} (ha : Apart bs w w') (hd : d ∉ bs) (hg : g ∉ bs) (hb : ∀ k, k ∈ bs → w0.heap.size ≤ k) : Sys w0 d g n mem writes left w' :=
  ⟨h.base, h.disk.apart_of ha hd hg, h.below.trans (ha.below hb h.below.size), h.hd, h.hg⟩

/-- What stands in the blocks behind k Writes under a Fuse of f. -/
def Stood (f k : Int) (mem : Nat → Int) : Prop := ∀ j : Nat, j < 20 → blockL mem j = if (j : Int) < k ∧ (j : Int) < f then fillL j else zeroL
theorem Stood.step_on {f k : Int} {mem : Nat → Int} (h : Stood f k mem) (hk : 0 ≤ k) (hf : k < f) : Stood f (k + 1) (memW k.toNat (fillL k) mem) := by
  intro j hj
  by_cases e : k.toNat = j
  · subst e
    rw [memW_same _ _ (fillL_len k), if_pos (by omega), Int.toNat_of_nonneg hk]
  · rw [memW_other _ _ e, h j hj]
    by_cases h2 : (j : Int) < k ∧ (j : Int) < f
    · rw [if_pos h2, if_pos (by omega)]
    · rw [if_neg h2, if_neg (by omega)]
theorem Stood.step_off {f k : Int} {mem : Nat → Int} (h : Stood f k mem) (hf : f ≤ k) : Stood f (k + 1) mem := by
  intro j hj
  rw [h j hj]
  by_cases h2 : (j : Int) < k ∧ (j : Int) < f
  · rw [if_pos h2, if_pos (by omega)]
  · rw [if_neg h2, if_neg (by omega)]

set_option maxHeartbeats 4000000 in
theorem diskCopies_calls (a n b : Int) (w : World) (hG : Ground w) :
    Calls Tryd.prog 4 #[.int .i64 a, .int .i64 n, .int .i64 b] w fun e w' => e = .returned (.bool true) ∧ Below w.heap.size w w' := by
  obtain ⟨A, hA⟩ : ∃ A, bits .and .i64 a 31 = A := ⟨_, rfl⟩
  obtain ⟨N, hN⟩ : ∃ N, bits .and .i64 n 15 = N := ⟨_, rfl⟩
  obtain ⟨B, hB⟩ : ∃ B, bits .and .i64 b 31 = B := ⟨_, rfl⟩
  have hA0 : 0 ≤ A := hA ▸ (and_low a 31 (by decide)).1
  have hA1 : A ≤ 31 := hA ▸ (and_low a 31 (by decide)).2
  have hN0 : 0 ≤ N := hN ▸ (and_low n 15 (by decide)).1
  have hN1 : N ≤ 15 := hN ▸ (and_low n 15 (by decide)).2
  have hB0 : 0 ≤ B := hB ▸ (and_low b 31 (by decide)).1
  have hB1 : B ≤ 31 := hB ▸ (and_low b 31 (by decide)).2
  go_enter Tryd.func4, Tryd.ntmps4
  go_wp2_with fail
  refine (sys_new 20 (by omega) (by omega) w hG).mono ?_
  rintro ev w1 ⟨rfl, hS⟩
  replace hS := hidden hS
  go_wp2_with fail
  refine (sys_fuse hS.out _).mono ?_
  clear hS
  rintro ev w1 ⟨rfl, hS, -⟩
  have hf : fused (-1) A = leftOf A 0 := by unfold fused leftOf; rw [if_neg (by decide)]; split <;> omega
  rw [hf] at hS
  clear hf
  replace hS := hidden hS
  go_wp2_with fail
  go_loopg [9] 16 (fun gk i wr => ∃ k : Int, i = .int .i64 k ∧ 0 ≤ k ∧ k ≤ N ∧ gk = 16 - k.toNat ∧ ∃ mem, Stood A k mem ∧ Sys w (w.heap.size + 1) w.heap.size 20 mem (min k A) (leftOf A k) wr)
  case atStart => exact ⟨0, rfl, by omega, by omega, rfl, fun _ => 0, fun j _ => by rw [blockL_zero, if_neg (by omega)], by rw [Int.min_eq_left hA0]; exact hS.out⟩
  case round =>
    obtain ⟨k, rfl, hk0, hkN, hgk, mem, hM, hS⟩ := hrel
    replace hS := hidden hS
    replace hgk := hidden hgk
    replace hM := hidden hM
    by_cases hlt : k < N
    · obtain ⟨K, hK⟩ : ∃ K : Nat, k = (K : Int) := ⟨k.toNat, by omega⟩
      subst hK
      go_wp2_with fail
      refine (sys_fill hS.out K).mono ?_
      clear hS
      rintro ev w2 ⟨rfl, hb, hS, -⟩
      replace hS := hidden hS
      replace hb := hidden hb
      go_wp2_with fail
      refine (sys_write_some hS.out K (by omega) (by omega) _ _ hb.out (fillL_len K) (leftOf_range _ _ (by omega) hk0) (by omega)).mono ?_
      clear hS hb
      rintro ev w3 ⟨r, mem', writes', rfl, hw2, hw3, hS, hcase, -⟩
      rw [leftOf_succ] at hS
      have R : ∃ mem, Stood A ((K : Int) + 1) mem ∧ Sys w (w.heap.size + 1) w.heap.size 20 mem (min ((K : Int) + 1) A) (leftOf A ((K : Int) + 1)) w3 := by
        by_cases hAk : A ≤ (K : Int)
        · have hl0 : leftOf A K = 0 := by unfold leftOf; rw [if_pos hAk]
          rw [if_pos hl0] at hcase
          obtain ⟨-, rfl, rfl⟩ := hcase
          rw [show min ((K : Int) + 1) A = min (K : Int) A by omega]
          exact ⟨_, hM.out.step_off hAk, hS⟩
        · have hl0 : leftOf A K ≠ 0 := by unfold leftOf; rw [if_neg hAk]; omega
          rw [if_neg hl0] at hcase
          obtain ⟨-, rfl, rfl⟩ := hcase
          rw [show min ((K : Int) + 1) A = min (K : Int) A + 1 by omega]
          exact ⟨_, hM.out.step_on hk0 (by omega), hS⟩
      replace R := hidden R
      clear hcase hS
      go_wp2
      go_roundg (16 - ((K : Int) + 1).toNat)
      case measure => rw [hgk.out]; omega
      case rel =>
        obtain ⟨mem', hM', hS'⟩ := R.out
        exact ⟨(K : Int) + 1, rfl, by omega, by omega, rfl, mem', hM', hS'⟩
    · obtain rfl : k = N := by omega
      have hlt0 := hS.out.disk.lt
      go_wp2_with fail
      refine (sys_copy hS.out).mono ?_
      rintro ev w2 ⟨d', g', rfl, hC, hS2, hB2⟩
      clear hS
      have hS := hidden hS2
      replace hC := hidden hC
      clear hS2
      go_wp2_with fail
      refine (sys_dead hC.out).mono ?_
      rintro ev w2 ⟨rfl, rfl⟩
      rw [leftOf_zero A k]
      go_wp2_with fail
      refine (sys_writes hC.out).mono ?_
      rintro ev w2 ⟨rfl, rfl⟩
      go_wp2_with fail
      go_loopg [11] 32 (fun gk i wx => ∃ j : Int, i = .int .i64 j ∧ 0 ≤ j ∧ j ≤ B ∧ gk = 32 - j.toNat ∧ Sys w (w.heap.size + 1) w.heap.size 20 mem (min k A) (leftOf A k) wx ∧ ∃ mem', Sys wr d' g' 20 mem' (min (k + j) A) (leftOf A (k + j)) wx)
      case atStart => exact ⟨0, rfl, by omega, by omega, rfl, hS.out, mem, by rw [Int.add_zero]; exact hC.out⟩
      case round =>
        clear hS hC hB2
        obtain ⟨j, rfl, hj0, hj1, hgk, hS, mem', hC⟩ := hrel
        have hbC := hidden (And.intro hC.hd hC.hg)
        replace hS := hidden hS
        replace hC := hidden hC
        replace hgk := hidden hgk
        by_cases hlt : j < B
        · obtain ⟨M, hMm, hM2⟩ : ∃ M : Nat, j.tmod 20 = (M : Int) ∧ M < 20 := ⟨_, (Int.toNat_of_nonneg (Int.tmod_nonneg _ hj0)).symm, by have := Int.tmod_lt_of_pos j (b := 20) (by decide); omega⟩
          go_wp2_with fail
          refine (fill_calls (500 + j) _).mono ?_
          rintro ev w3 ⟨rfl, hw3⟩
          have hb : BytesAt w3 (.slice (some ⟨wr.heap.size, 0, none⟩) 128 128) (fillL (500 + j)) := by rw [hw3]; exact fillA_bytes (500 + j) _
          have hB3 : Below wr.heap.size wr w3 := by rw [hw3]; exact (Below.refl _ _).alloc (Nat.le_refl _) _
          replace hS := hidden (hS.out.more hB3)
          replace hC := hidden (hC.out.more hB3)
          clear hw3 hB3
          replace hb := hidden hb
          go_wp2_with fail
          refine (sys_write_some hC.out M hM2 (by omega) _ _ hb.out (fillL_len _) (leftOf_range _ _ (by omega) (by omega)) (by omega)).mono ?_
          clear hC hb
          rintro ev w4 ⟨r, mem2, writes2, rfl, hw2, hw3, hC, hcase, hAp⟩
          rw [leftOf_succ] at hC
          have hb1 := hbC.out.1
          have hb2 := hbC.out.2
          have hs0 := hS.out.below
          replace hS := hidden (hS.out.keep hAp (by simp; omega) (by simp; omega) (by simp; omega))
          clear hAp hs0 hb1 hb2
          by_cases hAk : A ≤ k + j
          · have hl0 : leftOf A (k + j) = 0 := by unfold leftOf; rw [if_pos hAk]
            rw [if_pos hl0] at hcase
            obtain ⟨⟨bb, rfl, -, -⟩, rfl, rfl⟩ := hcase
            clear hl0
            rw [show min (k + j) A = min (k + (j + 1)) A by omega, Int.add_assoc] at hC
            replace hC := hidden hC
            have hnlt : ¬ k + j < A := by omega
            go_wp2
            go_roundg (32 - (j + 1).toNat)
            case measure => rw [hgk.out]; omega
            case rel => exact ⟨j + 1, rfl, by omega, by omega, rfl, hS.out, _, hC.out⟩
          · have hl0 : leftOf A (k + j) ≠ 0 := by unfold leftOf; rw [if_neg hAk]; omega
            rw [if_neg hl0] at hcase
            obtain ⟨rfl, rfl, rfl⟩ := hcase
            clear hl0
            rw [show min (k + j) A + 1 = min (k + (j + 1)) A by omega, Int.add_assoc] at hC
            replace hC := hidden hC
            have hplt : k + j < A := by omega
            go_wp2
            go_roundg (32 - (j + 1).toNat)
            case measure => rw [hgk.out]; omega
            case rel => exact ⟨j + 1, rfl, by omega, by omega, rfl, hS.out, _, hC.out⟩
        · obtain rfl : j = B := by omega
          go_wp2_with fail
          refine (sys_writes hS.out).mono ?_
          rintro ev w5 ⟨rfl, rfl⟩
          go_wp2_with fail
          refine (sys_writes hC.out).mono ?_
          rintro ev w5 ⟨rfl, rfl⟩
          clear hC
          have hmm : min (k + j) A = min (k + j) (max A (min k A)) := by omega
          rw [hmm]
          clear hmm
          go_wp2_with fail
          refine (sys_power hS.out).mono ?_
          clear hS
          rintro ev w6 ⟨rfl, hS, -⟩
          replace hS := hidden hS
          go_wp2_with fail
          go_loopg [13] 16 (fun gk i wx => ∃ m : Int, i = .int .i64 m ∧ 0 ≤ m ∧ m ≤ k ∧ gk = 16 - m.toNat ∧ Sys w (w.heap.size + 1) w.heap.size 20 mem (min k A) (-1) wx)
          case atStart => exact ⟨0, rfl, by omega, by omega, rfl, hS.out⟩
          case round =>
            clear hS
            obtain ⟨m, rfl, hm0, hm1, hgk, hS⟩ := hrel
            replace hS := hidden hS
            replace hgk := hidden hgk
            by_cases hlt : m < k
            · obtain ⟨K, hK⟩ : ∃ K : Nat, m = (K : Int) := ⟨m.toNat, by omega⟩
              subst hK
              have hbl := hM.out K (by omega)
              go_wp2_with fail
              refine (sys_read_op hS.out K (by omega) (by decide)).mono ?_
              clear hS
              rintro ev w7 ⟨v7, rfl, hb7, hS, -⟩
              rw [hbl] at hb7
              replace hS := hidden hS
              replace hb7 := hidden hb7
              go_wp2_with fail
              refine (is_calls 0 (by omega) (by omega) w7).mono ?_
              rintro ev w8 ⟨v8, rfl, hb8, hB8⟩
              have hc8 := conv_bytes w8 v8 _ hb8
              replace hb7 := hidden (hb7.out.below hB8)
              replace hS := hidden (hS.out.more hB8)
              rw [show isL 0 = zeroL from rfl] at hc8
              clear hb8 hB8
              by_cases hAk : (K : Int) < A
              · rw [if_pos ⟨hlt, hAk⟩] at hb7
                go_wp2_with fail
                refine (fill_new K w8).mono ?_
                rintro ev w9 ⟨v9, rfl, hb9, hB9⟩
                have hc9 := conv_bytes w9 v9 _ hb9
                have hc7 := conv_bytes w9 v7 _ (hb7.out.below hB9)
                replace hS := hidden (hS.out.more hB9)
                clear hb9 hB9 hb7 hc8
                generalize ofBytes (fillL K) = s at hc9 hc7
                go_wp2
                go_roundg (16 - ((K : Int) + 1).toNat)
                case measure => rw [hgk.out]; omega
                case rel => exact ⟨(K : Int) + 1, rfl, by omega, by omega, rfl, hS.out⟩
              · rw [if_neg (fun h => hAk h.2)] at hb7
                have hc7 := conv_bytes w8 v7 _ hb7.out
                clear hb7
                generalize ofBytes zeroL = s at hc8 hc7
                go_wp2
                go_roundg (16 - ((K : Int) + 1).toNat)
                case measure => rw [hgk.out]; omega
                case rel => exact ⟨(K : Int) + 1, rfl, by omega, by omega, rfl, hS.out⟩
            · go_wp2_with fail
              refine (awake_calls _ hS.out.ground).mono ?_
              rintro ev w8 ⟨rfl, hB8⟩
              have hE := hidden (hS.out.below.trans (hB8.mono hS.out.below.size))
              clear hB8
              go_wp2
              go_ret
              exact ⟨rfl, hE.out⟩
end Go.Proofs.YtahehgbibmmaeaaDoor
