/- CacheFull, walked. -/
import Derived.Test.YtlomogicfhpljaaGreatDoorCf
namespace Go.Proofs.YtlomogicfhpljaaGreatDoor
open Go.RowKit Go.Extern.Stop Go.Stop Go.Extern Go.Maps
set_option maxRecDepth 100000

/-- The block that is written k-th. -/
abbrev ring (f k : Nat) : Nat := (f + k) % 12
theorem ring_lt (f k : Nat) : ring f k < 12 := Nat.mod_lt _ (by decide)
theorem ring_apart {f j k : Nat} (h1 : j < k) (h2 : k < 12) : ring f j ≠ ring f k := by unfold ring; omega
/-- What holds when k blocks are changed. -/
structure FuSt (w0 : World) (d g jb cb mb most f k : Nat) (w : World) : Prop where
  ex : ∃ M, CSt w0 d g 60 jb cb mb 20 most 12 (fun _ => 0) 0 (-1) M w ∧ M.length = k ∧ (∀ p ∈ M, ∃ j, j < k ∧ p.1 = (ring f j : Nat)) ∧ ∀ j, j < k → hasM (ring f j : Nat) M = true
section
variable {w0 : World} {d g jb cb mb most f k : Nat} {w w' : World}
theorem FuSt.more (h : FuSt w0 d g jb cb mb most f k w) (hb : Below w.heap.size w w') : FuSt w0 d g jb cb mb most f k w' := by
  obtain ⟨M, h1, h2⟩ := h.ex
  exact ⟨M, h1.more hb, h2⟩
theorem FuSt.miss {M : Chg} (h : ∀ p ∈ M, ∃ j, j < k ∧ p.1 = (ring f j : Nat)) (hk : k < 12) : hasM (ring f k : Nat) M = false := by
  cases hh : hasM (ring f k : Nat) M with
  | false => rfl
  | true =>
    obtain ⟨p, hp, e⟩ := hasM_iff.1 hh
    obtain ⟨j, hj, e2⟩ := h p hp
    exact absurd (by omega) (ring_apart (f := f) hj hk)
theorem FuSt.write (h : FuSt w0 d g jb cb mb most f k w) (hk : k < most) (hm : most ≤ 8) (v : Value) (zs : List Int) (hv : BytesAt w v zs) (hz : zs.length ≤ 128) (x : Int) (hx : x = (ring f k : Nat)) :
    Calls Tryz.prog 9 #[ptr cb, .int .i64 x, .int .i64 0, v] w fun e w' => e = .returned .nilIface ∧ FuSt w0 d g jb cb mb most f (k + 1) w' := by
  obtain ⟨M, h1, h2, h3, h4⟩ := h.ex
  subst hx
  have hno := FuSt.miss h3 (by omega)
  have hr := ring_lt f k
  refine (cwrite_calls h1 (by decide) (ring f k) 0 (by omega) (by omega) v zs hv (by omega) (by rw [hno]; simp; omega) (by omega)).mono ?_
  rintro e w' ⟨rfl, hC, -⟩
  refine ⟨rfl, _, hC, by rw [put_len_new hno, h2], fun p hp => ?_, fun j hj => ?_⟩
  · rcases mem_put.1 hp with rfl | ⟨hp, -⟩
    · exact ⟨k, by omega, rfl⟩
    · obtain ⟨j, hj, e⟩ := h3 p hp
      exact ⟨j, by omega, e⟩
  · rw [hasM_put]
    by_cases e : j = k
    · subst e; simp
    · rw [h4 j (by omega)]; simp
/-- One block more is refused. -/
theorem FuSt.big (h : FuSt w0 d g jb cb mb most f most w) (hm : 1 ≤ most ∧ most ≤ 8) (v : Value) (zs : List Int) (hv : BytesAt w v zs) (hz : zs.length ≤ 128) (x : Int) (hx : x = (ring f most : Nat)) :
    Calls Tryz.prog 9 #[ptr cb, .int .i64 x, .int .i64 0, v] w fun e w' => ∃ b, e = .returned (flt b) ∧ Chain w' [(sCache, itoaB x)] (num 5) (flt b) ∧ w.heap.size ≤ b ∧ Below w.heap.size w w' := by
  obtain ⟨M, h1, h2, h3, h4⟩ := h.ex
  subst hx
  have hr := ring_lt f most
  refine (cwrite_big h1 (ring f most : Nat) 0 ⟨by omega, by omega⟩ v zs hv ⟨by omega, by omega⟩ (by omega) (FuSt.miss h3 (by omega)) (by omega)).mono ?_
  rintro e w' ⟨b, rfl, hc, hb, hB⟩
  exact ⟨b, rfl, hc, hb, hB⟩
theorem FuSt.again (h : FuSt w0 d g jb cb mb most f most w) (hm : 1 ≤ most ∧ most ≤ 8) (hf : f < 12) (v : Value) (zs : List Int) (hv : BytesAt w v zs) (hz : zs.length ≤ 100) :
    Calls Tryz.prog 9 #[ptr cb, .int .i64 f, .int .i64 5, v] w fun e w' => e = .returned .nilIface ∧ FuSt w0 d g jb cb mb most f most w' ∧ Apart [mb] w w' := by
  obtain ⟨M, h1, h2, h3, h4⟩ := h.ex
  have e0 : ring f 0 = f := by unfold ring; omega
  have hh := h4 0 (by omega)
  rw [e0] at hh
  refine (cwrite_calls h1 (by decide) f 5 (by omega) (by omega) v zs hv (by omega) (by rw [hh]; rfl) (by omega)).mono ?_
  rintro e w' ⟨rfl, hC, hA⟩
  refine ⟨rfl, ⟨_, hC, by rw [put_len_old h1.map.tidy hh, h2], fun p hp => ?_, fun j hj => ?_⟩, hA⟩
  · rcases mem_put.1 hp with rfl | ⟨hp, -⟩
    · exact ⟨0, by omega, by rw [e0]⟩
    · exact h3 p hp
  · rw [hasM_put, h4 j hj]; simp
theorem FuSt.read (h : FuSt w0 d g jb cb mb most f most w) (hm : 1 ≤ most ∧ most ≤ 8) (x : Int) (hx : x = (ring f most : Nat)) :
    Calls Tryz.prog 8 #[ptr cb, .int .i64 x] w fun e w' => ∃ b, e = .returned (.tuple #[.slice (some ⟨b, 0, none⟩) 128 128, .nilIface]) ∧ Lie w' b zeroRow ∧ Below w.heap.size w w' := by
  obtain ⟨M, h1, h2, h3, h4⟩ := h.ex
  subst hx
  have hr := ring_lt f most
  refine (read_calls h1 (by decide) (ring f most) (by omega) (by omega)).mono ?_
  rintro e w' ⟨b, rfl, hL, -, hB⟩
  have e0 : nowM (fun _ => 0) M (ring f most) = zeroRow := by
    unfold nowM
    rw [getM_none (FuSt.miss h3 (by omega))]
    exact blockL_zero _
  rw [e0] at hL
  exact ⟨b, rfl, hL, hB⟩
theorem FuSt.mb_lt (h : FuSt w0 d g jb cb mb most f k w) : mb < w.heap.size ∧ Below w0.heap.size w0 w ∧ Ground w := by
  obtain ⟨M, h1, -⟩ := h.ex
  exact ⟨h1.map.lt, h1.sys.below, h1.sys.ground⟩
end
theorem tmod12 (a b : Nat) (h : a % 12 = b) : Int.tmod (a : Int) 12 = (b : Int) := by
  rw [Int.tmod_eq_emod_of_nonneg (Int.natCast_nonneg _)]
  omega
theorem and7 (x : Int) : ∃ m : Nat, m ≤ 7 ∧ bits .and .i64 x 7 = (m : Int) := by
  have := and_low x 7 (by decide)
  exact ⟨(bits .and .i64 x 7).toNat, by have h : bits .and .i64 x ((7 : Nat) : Int) = bits .and .i64 x 7 := rfl; rw [h] at this; omega, by have h : bits .and .i64 x ((7 : Nat) : Int) = bits .and .i64 x 7 := rfl; rw [h] at this; omega⟩
theorem and255 (x : Int) : ∃ m : Nat, m ≤ 255 ∧ bits .and .i64 x 255 = (m : Int) := by
  have := and_low x 255 (by decide)
  exact ⟨(bits .and .i64 x 255).toNat, by have h : bits .and .i64 x ((255 : Nat) : Int) = bits .and .i64 x 255 := rfl; rw [h] at this; omega, by have h : bits .and .i64 x ((255 : Nat) : Int) = bits .and .i64 x 255 := rfl; rw [h] at this; omega⟩
set_option maxHeartbeats 2000000 in
theorem cacheFull_calls (mo fi : Int) (w : World) (hG : Ground w) (hGT : GT w) :
    Calls Tryz.prog 4 #[.int .i64 mo, .int .i64 fi] w fun e w' => e = .returned (.bool true) ∧ Below w.heap.size w w' := by
  obtain ⟨m0, hm0, em⟩ := and7 mo
  obtain ⟨f0, hf0, ef⟩ := and255 fi
  have em1 : (m0 : Int) + 1 = ((m0 + 1 : Nat) : Int) := by omega
  obtain ⟨most, hmo⟩ : ∃ most, m0 + 1 = most := ⟨_, rfl⟩
  rw [hmo] at em1
  have hmost : 1 ≤ most ∧ most ≤ 8 := by omega
  obtain ⟨f, hf⟩ : ∃ f, f0 % 12 = f := ⟨_, rfl⟩
  have hfl : f < 12 := by omega
  have ef1 : Int.tmod (f0 : Int) 12 = (f : Int) := tmod12 f0 f hf
  have hmd := hidden (made_calls most hmost.1 hmost.2 w hG)
  replace hGT := hidden hGT
  replace hG := hidden hG
  replace hmo := hidden hmo
  replace hf := hidden hf
  go_enter Tryz.func4, Tryz.ntmps4
  go_wp2_with fail
  refine (hmd.out).mono ?_
  rintro ev w1 ⟨jb, cb, mb, rfl, hC1⟩
  generalize hd : w.heap.size + 1 = d at hC1 ⊢
  replace hC1 := hidden hC1
  clear hmd
  go_wp2_with fail
  go_loopg [7] 9 (fun gk q wr => ∃ k : Nat, k ≤ most ∧ gk = 9 - k ∧ q = .int .i64 k ∧ Hid (FuSt w d w.heap.size jb cb mb most f k wr))
  case atStart => exact ⟨0, by omega, rfl, rfl, hidden ⟨[], hC1.out, rfl, fun p hp => (by cases hp), fun j hj => absurd hj (by omega)⟩⟩
  case round =>
    obtain ⟨k, hk, hgk, rfl, hI⟩ := hrel
    replace hgk := hidden hgk
    clear hC1
    have es : ∀ j : Nat, (f : Int) + (j : Int) = ((f + j : Nat) : Int) := fun j => by omega
    by_cases hlt : k < most
    · obtain ⟨s, hs⟩ : ∃ s : Nat, f + k = s := ⟨_, rfl⟩
      have e1 : (f : Int) + (k : Int) = (s : Int) := by omega
      have e2 := tmod12 s (ring f k) (by rw [← hs])
      have hrg : Hid (ring f k < 12) := hidden (ring_lt f k)
      obtain ⟨X, hX⟩ : ∃ X, ring f k = X := ⟨_, rfl⟩
      rw [hX] at e2
      replace hX := hidden hX
      replace hs := hidden hs
      have hs2 : s ≤ 30 := by have := hs.out; omega
      have hF := hidden (fill_calls k wr)
      clear es
      go_wp2_with fail
      refine (hF.out).mono ?_
      rintro ev w2 ⟨rfl, hw2⟩
      have hB2 : Below wr.heap.size wr w2 := by rw [hw2]; exact (Below.refl _ _).alloc (Nat.le_refl _) _
      have hb2 : BytesAt w2 (.slice (some ⟨wr.heap.size, 0, none⟩) 128 128) (fillL k) := by rw [hw2]; exact fillA_bytes k wr
      have hW := hidden ((hI.out.more hB2).write hlt hmost.2 _ _ hb2 (by rw [fillL_len]; omega) X (by rw [← hX.out]))
      clear hB2 hb2 hw2 hF hI
      go_wp2_with fail
      refine (hW.out).mono ?_
      rintro ev w3 ⟨rfl, hI3⟩
      replace hI3 := hidden hI3
      clear hW
      go_wp2_with fail
      go_roundg (9 - (k + 1))
      case measure => rw [hgk.out]; omega
      case rel => exact ⟨k + 1, by omega, rfl, by go_num, hI3⟩
    · obtain rfl : k = most := by omega
      obtain ⟨s, hs⟩ : ∃ s : Nat, f + k = s := ⟨_, rfl⟩
      have e1 : (f : Int) + (k : Int) = (s : Int) := by omega
      have e2 := tmod12 s (ring f k) (by rw [← hs])
      obtain ⟨X, hX⟩ : ∃ X, ring f k = X := ⟨_, rfl⟩
      rw [hX] at e2
      replace hX := hidden hX
      replace hs := hidden hs
      have hs2 : s ≤ 30 := by have := hs.out; omega
      clear es
      have hBa : Below wr.heap.size wr (wr.alloc (.cells #[.int .u8 1] 5)) := (Below.refl _ _).alloc (Nat.le_refl _) _
      have hW := hidden ((hI.out.more hBa).big hmost _ [1] (lit_bytes wr [1] (by decide) (by decide) (0, 0)) (by decide) X (by rw [← hX.out]))
      have hI2 := hidden (hI.out.more hBa)
      clear hBa hI
      go_wp2_with fail
      refine (hW.out).mono ?_
      rintro ev w3 ⟨b3, rfl, hc3, hb3, hB3⟩
      have hI3 := hI2.out.more hB3
      have hBb : Below w3.heap.size w3 (w3.alloc (.cells #[.int .u8 2] 5)) := (Below.refl _ _).alloc (Nat.le_refl _) _
      have hW2 := hidden ((hI3.more hBb).again hmost hfl _ [2] (lit_bytes w3 [2] (by decide) (by decide) (0, 0)) (by decide))
      have hc3b := hidden (Chain.below hBb _ _ _ hc3)
      have hmb3 : mb ≠ b3 := by have := hI2.out.mb_lt.1; omega
      clear hW hI2 hB3 hc3 hBb hI3 hb3
      go_wp2_with fail
      refine (hW2.out).mono ?_
      rintro ev w4 ⟨rfl, hI4, hA4⟩
      have hc4 := hidden (chain1_apart hc3b.out hA4 (by simp; exact fun e => hmb3 e.symm))
      have hR := hidden (hI4.read hmost X (by rw [← hX.out]))
      replace hI4 := hidden hI4
      clear hW2 hA4 hc3b
      go_wp2_with fail
      refine (hR.out).mono ?_
      rintro ev w5 ⟨b5, rfl, hL5, hB5⟩
      have hI5 := hidden (hI4.out.more hB5)
      have hc5 := Chain.below hB5 _ _ _ hc4.out
      have hGT5 := hGT.out.below hI5.out.mb_lt.2.1
      obtain ⟨Zc, S, hS, hmk, hcz⟩ := make_zero
      have kC : ∀ w1, Below w5.heap.size w5 w1 → (convert 26 9 (.slice (some ⟨b5, 0, none⟩) 128 128)).run Tryz.prog w1 = .ok (.string S) w1 := fun w1 h1 => by rw [hS]; exact conv_bytes w1 _ _ ((hL5.below h1).bytes)
      have kN : ∀ w1, Below w5.heap.size w5 w1 → Calls Tryz.prog 15 #[flt b3] w1 fun ev w' => ev = .returned (.int .i64 5) ∧ Below w5.heap.size w5 w' := fun w1 h1 => (law_num 5 w1 _ _ (Chain.below h1 _ _ _ hc5) (hGT5.below h1)).mono fun _ _ h => ⟨h.1, h1.trans (h.2.mono h1.size)⟩
      have hd0 : Below w5.heap.size w5 w5.drew := below_drew1 w5
      replace kN := hidden kN
      replace kC := hidden kC
      replace hd0 := hidden hd0
      replace hmk := hidden hmk
      replace hcz := hidden hcz
      clear hS hL5 hGT5 hc5 hc4 hB5 hR hI4
      go_upto_region 14 with fail
      go_cut [76] (fun c wx => c = .bool false ∧ Below w5.heap.size w5 wx)
      case first =>
        clear hI5
        refine wp_region_any (by kernel_rfl) ?_
        try (change wpAny _ _ _ _ _ _ _ (World.drew _))
        refine wpAny_ready (rs := [0]) (by kernel_rfl) (by simp) ?_
        refine AllReady.cons rfl (fun K hK => ?_) AllReady.nil
        go_simp
        try (refine hK _ _ ?_; clear hK K)
        refine wpAny_ready (rs := [1]) (by kernel_rfl) (by simp) ?_
        refine AllReady.cons rfl (fun K hK => ?_) AllReady.nil
        go_simp
        go_wp2_with (go_at_call 15; refine (kN.out _ hd0.out).mono ?_; rintro ev w6 ⟨rfl, hB6⟩; have hB6a : Below w5.heap.size w5 (w6.alloc (.cells Zc 5)) := hB6.alloc hB6.size _; have e1 := kC.out w6 hB6; have e2 := kC.out _ hB6a; have e3 := hcz.out w6 _ (Below.refl _ _); have hmk1 := hmk.out w6)
        try (refine hK _ _ ?_; clear hK K)
        refine wpAny_ready (rs := [2]) (by kernel_rfl) (by simp) ?_
        refine AllReady.cons rfl (fun K hK => ?_) AllReady.nil
        go_simp
        try (refine hK _ _ ?_; clear hK K)
        refine wpAny_ready (rs := [3]) (by kernel_rfl) (by simp) ?_
        refine AllReady.cons rfl (fun K hK => ?_) AllReady.nil
        go_simp
        try (refine hK _ _ ?_; clear hK K)
        refine wpAny_ready (rs := [4]) (by kernel_rfl) (by simp) ?_
        refine AllReady.cons rfl (fun K hK => ?_) AllReady.nil
        go_simp
        try (refine hK _ _ ?_; clear hK K)
        refine wpAny_ready (rs := [5]) (by kernel_rfl) (by simp) ?_
        refine AllReady.cons rfl (fun K hK => ?_) AllReady.nil
        go_simp
        try (refine hK _ _ ?_; clear hK K)
        refine wpAny_ready (rs := [6]) (by kernel_rfl) (by simp) ?_
        refine AllReady.cons rfl (fun K hK => ?_) AllReady.nil
        go_simp
        try (refine hK _ _ ?_; clear hK K)
        refine wpAny_ready (rs := [7]) (by kernel_rfl) (by simp) ?_
        refine AllReady.cons rfl (fun K hK => ?_) AllReady.nil
        go_simp
        try (refine hK _ _ ?_; clear hK K)
        refine wpAny_ready (rs := [8]) (by kernel_rfl) (by simp) ?_
        refine AllReady.cons rfl (fun K hK => ?_) AllReady.nil
        go_simp
        try (refine hK _ _ ?_; clear hK K)
        refine wpAny_ready (rs := [9]) (by kernel_rfl) (by simp) ?_
        refine AllReady.cons rfl (fun K hK => ?_) AllReady.nil
        go_simp
        try (refine hK _ _ ?_; clear hK K)
        refine wpAny_ready (rs := [10]) (by kernel_rfl) (by simp) ?_
        refine AllReady.cons rfl (fun K hK => ?_) AllReady.nil
        go_simp
        try (refine hK _ _ ?_; clear hK K)
        refine wpAny_ready (rs := [11]) (by kernel_rfl) (by simp) ?_
        refine AllReady.cons rfl (fun K hK => ?_) AllReady.nil
        go_simp
        try (refine hK _ _ ?_; clear hK K)
        refine wpAny_take (i := 12) (v := ?_) rfl (by kernel_rfl) (by kernel_rfl) (by kernel_rfl) (fun _ _ _ h => h) (Or.inl ⟨by rfl, ?_⟩) ?_
        rotate_left
        · intro w; go_simp; try (with_reducible rfl)
        refine wpAny_ready (rs := [13, 14]) (by kernel_rfl) (by simp) ?_
        refine AllReady.cons rfl (fun K hK => ?_) ?_
        · go_simp
          try (refine hK _ _ ?_; clear hK K)
          refine wpAny_ready (rs := [14]) (by kernel_rfl) (by simp) ?_
          refine AllReady.cons rfl (fun K hK => ?_) AllReady.nil
          go_simp
          try (refine hK _ _ ?_; clear hK K)
          refine wpAny_ready (rs := [15]) (by kernel_rfl) (by simp) ?_
          refine AllReady.cons rfl (fun K hK => ?_) AllReady.nil
          go_simp
          try (refine hK _ _ ?_; clear hK K)
          refine wpAny_ready (rs := [16]) (by kernel_rfl) (by simp) ?_
          refine AllReady.cons rfl (fun K hK => ?_) AllReady.nil
          go_simp
          try (refine hK _ _ ?_; clear hK K)
          refine wpAny_ready (rs := [17]) (by kernel_rfl) (by simp) ?_
          refine AllReady.cons rfl (fun K hK => ?_) AllReady.nil
          go_simp
          try (refine hK _ _ ?_; clear hK K)
          refine wpAny_done (by kernel_rfl) ?_ _
          go_wp2_with fail
          go_meet
          case rel => exact ⟨rfl, hB6a⟩
        refine AllReady.cons rfl (fun K hK => ?_) ?_
        · go_simp
          try (refine hK _ _ ?_; clear hK K)
          refine wpAny_ready (rs := [13, 15]) (by kernel_rfl) (by simp) ?_
          refine AllReady.cons rfl (fun K hK => ?_) ?_
          · go_simp
            try (refine hK _ _ ?_; clear hK K)
            refine wpAny_ready (rs := [15]) (by kernel_rfl) (by simp) ?_
            refine AllReady.cons rfl (fun K hK => ?_) AllReady.nil
            go_simp
            try (refine hK _ _ ?_; clear hK K)
            refine wpAny_ready (rs := [16]) (by kernel_rfl) (by simp) ?_
            refine AllReady.cons rfl (fun K hK => ?_) AllReady.nil
            go_simp
            try (refine hK _ _ ?_; clear hK K)
            refine wpAny_ready (rs := [17]) (by kernel_rfl) (by simp) ?_
            refine AllReady.cons rfl (fun K hK => ?_) AllReady.nil
            go_simp
            try (refine hK _ _ ?_; clear hK K)
            refine wpAny_done (by kernel_rfl) ?_ _
            go_wp2_with fail
            go_meet
            case rel => exact ⟨rfl, hB6a⟩
          refine AllReady.cons rfl (fun K hK => ?_) ?_
          · go_simp
            try (refine hK _ _ ?_; clear hK K)
            refine wpAny_ready (rs := [13]) (by kernel_rfl) (by simp) ?_
            refine AllReady.cons rfl (fun K hK => ?_) AllReady.nil
            go_simp
            try (refine hK _ _ ?_; clear hK K)
            refine wpAny_ready (rs := [16]) (by kernel_rfl) (by simp) ?_
            refine AllReady.cons rfl (fun K hK => ?_) AllReady.nil
            go_simp
            try (refine hK _ _ ?_; clear hK K)
            refine wpAny_ready (rs := [17]) (by kernel_rfl) (by simp) ?_
            refine AllReady.cons rfl (fun K hK => ?_) AllReady.nil
            go_simp
            try (refine hK _ _ ?_; clear hK K)
            refine wpAny_done (by kernel_rfl) ?_ _
            go_wp2_with fail
            go_meet
            case rel => exact ⟨rfl, hB6a⟩
          exact AllReady.nil
        exact AllReady.nil
      case rest =>
        obtain ⟨rfl, hB7⟩ := hcut
        obtain ⟨M, hC7, -⟩ := (hI5.out.more hB7).ex
        have hD := hidden (drop_calls hC7)
        clear hB7 hC7 kN kC hmk hcz hd0 hI5
        go_wp2_with fail
        refine (hD.out).mono ?_
        rintro ev w8 ⟨rfl, hC8, -⟩
        have hBa : Below w8.heap.size w8 (w8.alloc (.cells #[.int .u8 1] 5)) := (Below.refl _ _).alloc (Nat.le_refl _) _
        have hX12 : X < 12 := by rw [← hX.out]; exact ring_lt f k
        have hW := hidden (cwrite_calls (hC8.more hBa) (by decide) X 0 (by omega) (by omega) _ [1] (lit_bytes w8 [1] (by decide) (by decide) (0, 0)) (by decide) (by simp; omega) (by decide))
        clear hBa hC8 hD
        go_wp2_with fail
        refine (hW.out).mono ?_
        rintro ev w9 ⟨rfl, hC9, -⟩
        have hM : putM (X : Nat) (layL (nowM (fun _ => 0) [] X) 0 [1]) [] = [((X : Int), layL (nowM (fun _ => 0) [] X) 0 [1])] := rfl
        rw [hM] at hC9
        have hCh := hidden (changed_calls hC9.cat hC9.map (by simp))
        replace hC9 := hidden hC9
        clear hW hM
        go_wp2_with fail
        refine (hCh.out).mono ?_
        rintro ev w10 ⟨v10, rfl, hT10, hB10⟩
        obtain ⟨a10, cap10, rfl⟩ := told_len hT10
        have hC10 := hidden (hC9.out.more hB10)
        simp only [List.length_singleton]
        clear hCh hT10 hB10 hC9
        go_wp2_with fail
        refine (cawake_calls _ hC10.out.sys.ground (hGT.out.below hC10.out.sys.below)).mono ?_
        rintro ev w11 ⟨rfl, hB11⟩
        have hE := hidden (hC10.out.sys.below.trans (hB11.mono hC10.out.sys.below.size))
        clear hB11 hC10
        go_wp2
        go_ret
        exact ⟨by simp, hE.out⟩
end Go.Proofs.YtlomogicfhpljaaGreatDoor
