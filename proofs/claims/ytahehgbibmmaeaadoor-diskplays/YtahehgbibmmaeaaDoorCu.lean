/- DiskCuts answers true, whatever it is given, and changes nothing that was there. -/
import Derived.Test.YtahehgbibmmaeaaDoorCo
namespace Go.Proofs.YtahehgbibmmaeaaDoor
open Go.RowKit Go.Extern.Stop Go.Stop Go.Extern
set_option maxRecDepth 100000

/-- A row of ints as it lies in memory. -/
def IntsAt (w : World) (v : Value) (zs : List Int) : Prop :=
  ∃ a cap, v = .slice a zs.length cap ∧ zs.length ≤ maxLen ∧ (zs ≠ [] → ∃ b off, a = some ⟨b, off, none⟩ ∧ b < w.heap.size ∧ ∀ k, k < zs.length → w.cell? ⟨b, off + k, none⟩ = some (.int .i64 (zs.getD k 0)))
/-- The statement's own list: for each block the number of the Write that stands there. -/
structure NowAt (nb : Nat) (nw : Nat → Int) (w : World) : Prop where
  cells : ∀ j, j < 20 → w.cell? ⟨nb, j, none⟩ = some (.int .i64 (nw j))
  free : ∀ j, j < 20 → w.frozen? ⟨nb, j, none⟩ = false
theorem NowAt.lt {nb : Nat} {nw : Nat → Int} {w : World} (h : NowAt nb nw w) : nb < w.heap.size := lt_of_cell (a := ⟨nb, 0, none⟩) (h.cells 0 (by decide))
theorem NowAt.keep {nb : Nat} {nw : Nat → Int} {w w' : World} {bs : List Nat} (h : NowAt nb nw w) (ha : Apart bs w w') (hn : nb ∉ bs) : NowAt nb nw w' :=
  ⟨fun j hj => (ha.cell (p := ⟨nb, j, none⟩) h.lt hn).trans (h.cells j hj), fun j hj => (ha.frozen (p := ⟨nb, j, none⟩) h.lt hn).trans (h.free j hj)⟩
theorem NowAt.set {nb : Nat} {nw : Nat → Int} {w : World} (h : NowAt nb nw w) (i : Nat) (hi : i < 20) (x : Int) : NowAt nb (fun j => if j = i then x else nw j) (w.setCell ⟨nb, i, none⟩ (.int .i64 x)) :=
  ⟨fun j hj => by
    by_cases e : j = i
    · subst e
      simp only [if_true]
      exact World.cell?_setCell_same' _ _ _ (by rw [h.cells j hj]; rfl)
    · simp only [if_neg e]
      exact (World.cell?_setCell_other _ _ _ _ (by intro x; exact e (congrArg Addr.off x).symm)).trans (h.cells j hj), fun j hj => by simp [h.free j hj]⟩
/-- What stands in the blocks, by that list. -/
def Told (k : Int) (nw : Nat → Int) (mem : Nat → Int) : Prop := ∀ j : Nat, j < 20 → blockL mem j = isL (nw j) ∧ 0 ≤ nw j ∧ nw j ≤ k
theorem Told.step {k : Int} {nw mem : Nat → Int} (h : Told k nw mem) (hk : 0 ≤ k) (i : Nat) : Told (k + 1) (fun j => if j = i then k + 1 else nw j) (memW i (fillL k) mem) := by
  intro j hj
  by_cases e : j = i
  · subst e
    simp only [if_true]
    refine ⟨?_, by omega, by omega⟩
    rw [memW_same _ _ (fillL_len k)]
    unfold isL
    rw [if_neg (by omega), Int.add_sub_cancel]
  · simp only [if_neg e]
    obtain ⟨h1, h2, h3⟩ := h j hj
    exact ⟨by rw [memW_other _ _ (fun x => e x.symm)]; exact h1, h2, by omega⟩
theorem Told.more {k : Int} {nw mem : Nat → Int} (h : Told k nw mem) : Told (k + 1) nw mem := fun j hj => ⟨(h j hj).1, (h j hj).2.1, by have := (h j hj).2.2; omega⟩
abbrev zeros20 : Array Value := #[.int .i64 0, .int .i64 0, .int .i64 0, .int .i64 0, .int .i64 0, .int .i64 0, .int .i64 0, .int .i64 0, .int .i64 0, .int .i64 0, .int .i64 0, .int .i64 0, .int .i64 0, .int .i64 0, .int .i64 0, .int .i64 0, .int .i64 0, .int .i64 0, .int .i64 0, .int .i64 0]
theorem zeros20_get (j : Nat) (hj : j < 20) : zeros20[j]? = some (.int .i64 0) := by
  have h : zeros20 = Array.replicate 20 (.int .i64 0) := rfl
  rw [h]
  simp [hj]
theorem now_new (w : World) : NowAt w.heap.size (fun _ => 0) (w.alloc (.cells zeros20 46)) :=
  ⟨fun j hj => by rw [cells_new]; exact zeros20_get j hj, fun j _ => by simp⟩

set_option maxHeartbeats 4000000 in
theorem diskCuts_calls (zs : List Int) (v : Value) (n : Int) (w : World) (hG : Ground w) (hv : IntsAt w v zs) :
    Calls Tryd.prog 7 #[v, .int .i64 n] w fun e w' => e = .returned (.bool true) ∧ Below w.heap.size w w' := by
  obtain ⟨N, hN⟩ : ∃ N, bits .and .i64 n 63 = N := ⟨_, rfl⟩
  have hN0 : 0 ≤ N := hN ▸ (and_low n 63 (by decide)).1
  have hN1 : N ≤ 63 := hN ▸ (and_low n 63 (by decide)).2
  obtain ⟨va, vcap, rfl, hm, hc⟩ := hv
  have hm' : zs.length ≤ 9223372036854775807 := by unfold maxLen at hm; omega
  replace hc := hidden hc
  go_enter Tryd.func7, Tryd.ntmps7
  go_wp2_with fail
  refine (sys_new 20 (by omega) (by omega) w hG).mono ?_
  rintro ev w1 ⟨rfl, hS⟩
  replace hS := hidden hS
  go_wp2_with fail
  refine (sys_fuse hS.out _).mono ?_
  clear hS
  rintro ev w1 ⟨rfl, hS, -⟩
  have hf : fused (-1) N = leftOf N 0 := by unfold fused leftOf; rw [if_neg (by decide)]; split <;> omega
  rw [hf] at hS
  clear hf
  have hlt0 := hS.disk.lt
  have hSn := hidden (hS.more ((Below.refl _ _).alloc (Nat.le_refl _) (.cells zeros20 46)))
  have hNw := hidden (now_new w1)
  clear hS
  go_wp2_with fail
  go_loopg [8, 9, 10] 61 (fun gk i x y wr => ∃ k : Int, i = .int .i64 k ∧ 0 ≤ k ∧ k ≤ 60 ∧ k ≤ (zs.length : Int) ∧ gk = 61 - k.toNat ∧ ∃ mem nw, Told k nw mem ∧ NowAt w1.heap.size nw wr ∧ Sys w (w.heap.size + 1) w.heap.size 20 mem (min k N) (leftOf N k) wr)
  case atStart => exact ⟨0, rfl, by omega, by omega, by omega, rfl, fun _ => 0, fun _ => 0, fun j _ => ⟨blockL_zero j, Int.le_refl 0, Int.le_refl 0⟩, hNw.out, by rw [Int.min_eq_left hN0]; exact hSn.out⟩
  case round =>
    clear hSn hNw
    obtain ⟨k, rfl, hk0, hk60, hkl, hgk, mem, nw, hT, hNw, hS⟩ := hrel
    replace hS := hidden hS
    replace hgk := hidden hgk
    replace hT := hidden hT
    replace hNw := hidden hNw
    by_cases hlt : k < (zs.length : Int) ∧ k < 60
    · obtain ⟨hlt1, hlt2⟩ := hlt
      obtain ⟨K, hK⟩ : ∃ K : Nat, k = (K : Int) := ⟨k.toNat, by omega⟩
      subst hK
      obtain ⟨b, off, rfl, hb, hcell⟩ := hc.out (by intro h; rw [h] at hlt1; simp at hlt1; omega)
      have hcK := (hS.out.below.cell (p := ⟨b, off + K, none⟩) hb).trans (hcell K (by omega))
      clear hcell
      generalize zs.getD K 0 = z at hcK
      have hz0 : 0 ≤ bits .and .i64 z 255 := (and_low z 255 (by decide)).1
      obtain ⟨M, hMm, hM2⟩ : ∃ M : Nat, (bits .and .i64 z 255).tmod 20 = (M : Int) ∧ M < 20 := ⟨_, (Int.toNat_of_nonneg (Int.tmod_nonneg _ hz0)).symm, by have := Int.tmod_lt_of_pos (bits .and .i64 z 255) (b := 20) (by decide); omega⟩
      have hM3 : (M : Int) < 20 := by omega
      go_wp2_with fail
      refine (fill_calls K _).mono ?_
      rintro ev w3 ⟨rfl, hw3⟩
      have hbb : BytesAt w3 (.slice (some ⟨wr.heap.size, 0, none⟩) 128 128) (fillL K) := by rw [hw3]; exact fillA_bytes K _
      have hB3 : Below wr.heap.size wr w3 := by rw [hw3]; exact (Below.refl _ _).alloc (Nat.le_refl _) _
      replace hS := hidden (hS.out.more hB3)
      replace hNw := hidden (hNw.out.keep (Apart.of_below (bs := []) hB3) (by simp))
      clear hw3 hB3 hcK
      replace hbb := hidden hbb
      go_wp2_with fail
      refine (sys_write_some hS.out M hM2 (by omega) _ _ hbb.out (fillL_len _) (leftOf_range _ _ (by omega) hk0) (by omega)).mono ?_
      clear hS hbb
      rintro ev w4 ⟨r, mem2, writes2, rfl, hw2, hw3, hS, hcase, hAp⟩
      rw [leftOf_succ] at hS
      replace hNw := hidden (hNw.out.keep hAp (by simp; omega))
      clear hAp
      by_cases hAk : N ≤ (K : Int)
      · have hl0 : leftOf N K = 0 := by unfold leftOf; rw [if_pos hAk]
        rw [if_pos hl0] at hcase
        obtain ⟨⟨bb, rfl, -, -⟩, rfl, rfl⟩ := hcase
        clear hl0
        rw [show min (K : Int) N = min ((K : Int) + 1) N by omega] at hS
        replace hS := hidden hS
        have hnlt : ¬ (K : Int) < N := by omega
        have hge : N ≤ (K : Int) + 1 := by omega
        go_wp2_with fail
        refine (sys_dead hS.out).mono ?_
        rintro ev w4 ⟨rfl, rfl⟩
        rw [leftOf_zero N ((K : Int) + 1)]
        go_wp2
        go_roundg (61 - ((K : Int) + 1).toNat)
        case measure => rw [hgk.out]; omega
        case rel => exact ⟨(K : Int) + 1, rfl, by omega, by omega, by omega, rfl, _, _, hT.out.more, hNw.out, hS.out⟩
      · have hl0 : leftOf N K ≠ 0 := by unfold leftOf; rw [if_neg hAk]; omega
        rw [if_neg hl0] at hcase
        obtain ⟨rfl, rfl, rfl⟩ := hcase
        clear hl0
        rw [show min (K : Int) N + 1 = min ((K : Int) + 1) N by omega] at hS
        replace hS := hidden hS
        have hplt : (K : Int) < N := by omega
        have c1 := hNw.out.cells M hM2
        have f1 := hNw.out.free M hM2
        go_wp2_with fail
        refine (sys_dead hS.out).mono ?_
        rintro ev w4 ⟨rfl, rfl⟩
        rw [leftOf_zero N ((K : Int) + 1)]
        have R := hidden (And.intro (hNw.out.set M hM2 ((K : Int) + 1)) (hS.out.keep ((Apart.refl [w1.heap.size] w4).setCell (p := ⟨w1.heap.size, M, none⟩) (by simp) (.int .i64 ((K : Int) + 1))) (by simp; omega) (by simp; omega) (by simp; omega)))
        go_wp2
        go_roundg (61 - ((K : Int) + 1).toNat)
        case measure => rw [hgk.out]; omega
        case rel => exact ⟨(K : Int) + 1, rfl, by omega, by omega, by omega, rfl, _, _, hT.out.step hk0 M, R.out.1, R.out.2⟩
    · rcases Classical.em (k < (zs.length : Int)) with hl1 | hl1
      · have hl2 : ¬ k < 60 := by omega
        clear hc
        go_wp2_with fail
        refine (sys_power hS.out).mono ?_
        clear hS
        rintro ev w5 ⟨rfl, hS, hAp⟩
        replace hNw := hidden (hNw.out.keep hAp (by simp; omega))
        replace hS := hidden hS
        clear hAp
        go_wp2_with fail
        go_loopg [11] 20 (fun gk i wx => ∃ m : Int, i = .int .i64 m ∧ 0 ≤ m ∧ m ≤ 20 ∧ gk = 20 - m.toNat ∧ NowAt w1.heap.size nw wx ∧ Sys w (w.heap.size + 1) w.heap.size 20 mem (min k N) (-1) wx)
        case atStart => exact ⟨0, rfl, by omega, by omega, rfl, hNw.out, hS.out⟩
        case round =>
          clear hS hNw
          obtain ⟨m, rfl, hm0, hm1, hgk, hNw, hS⟩ := hrel
          replace hS := hidden hS
          replace hNw := hidden hNw
          replace hgk := hidden hgk
          by_cases hlt : m < 20
          · obtain ⟨K, hK⟩ : ∃ K : Nat, m = (K : Int) := ⟨m.toNat, by omega⟩
            subst hK
            obtain ⟨hbl, hn0, hn1⟩ := hT.out K (by omega)
            go_wp2_with fail
            refine (sys_read_op hS.out K (by omega) (by decide)).mono ?_
            clear hS
            rintro ev w5 ⟨v5, rfl, hb5, hS, hB5⟩
            rw [hbl] at hb5
            have hc5 := (hNw.out.keep (Apart.of_below (bs := []) hB5) (by simp)).cells K (by omega)
            replace hNw := hidden (hNw.out.keep (Apart.of_below (bs := []) hB5) (by simp))
            clear hB5 hbl
            generalize nw K = x at hb5 hc5 hn0 hn1
            have kC : ∀ w1, Below w5.heap.size w5 w1 → (convert 27 9 v5).run Tryd.prog w1 = .ok (.string (ofBytes (isL x))) w1 := fun w1 h1 => conv_bytes w1 _ _ (hb5.below h1)
            have kI : ∀ w1, Below w5.heap.size w5 w1 → Calls Tryd.prog 18 #[.int .i64 x] w1 fun ev w' => ∃ v, ev = .returned v ∧ Below w5.heap.size w5 w' ∧ (convert 27 9 v).run Tryd.prog w' = .ok (.string (ofBytes (isL x))) w' := fun w1 h1 =>
              (is_calls x hn0 (by omega) w1).mono fun _ w' ⟨v, h2, h3, h4⟩ => ⟨v, h2, h1.trans (h4.mono h1.size), conv_bytes w' _ _ h3⟩
            generalize ofBytes (isL x) = s at kC kI
            have hS0 : Below w5.heap.size w5 w5.drew := (Below.refl _ _).drew
            have hc0 := kC w5.drew hS0
            have hK20 : (K : Int) < 20 := by omega
            replace kC := hidden kC
            replace kI := hidden kI
            replace hS := hidden hS
            clear hb5
            go_upto_region 21 with fail
            go_cut [94] (fun c wx => c = .bool false ∧ Below w5.heap.size w5 wx)
            case first =>
              refine wp_region_any (by kernel_rfl) ?_
              try (change wpAny _ _ _ _ _ _ _ (World.drew _))
              refine wpAny_ready (rs := [0]) (by kernel_rfl) (by simp) ?_
              refine AllReady.cons rfl (fun K hK => ?_) AllReady.nil
              go_simp
              try (refine hK _ _ ?_; clear hK K)
              refine wpAny_ready (rs := [1]) (by kernel_rfl) (by simp) ?_
              refine AllReady.cons rfl (fun K hK => ?_) AllReady.nil
              go_simp
              try (refine hK _ _ ?_; clear hK K)
              refine wpAny_ready (rs := [2]) (by kernel_rfl) (by simp) ?_
              refine AllReady.cons rfl (fun K hK => ?_) AllReady.nil
              go_simp
              try (refine hK _ _ ?_; clear hK K)
              refine wpAny_take (i := 3) (v := ?_) rfl (by kernel_rfl) (by kernel_rfl) (by kernel_rfl) (fun _ _ _ h => h) (Or.inl ⟨by rfl, ?_⟩) ?_
              rotate_left
              · intro w; go_simp; try (with_reducible rfl)
              refine wpAny_take (i := 5) (v := ?_) rfl (by kernel_rfl) (by kernel_rfl) (by kernel_rfl) (fun _ _ _ h => h) (Or.inl ⟨by rfl, ?_⟩) ?_
              rotate_left
              · intro w; go_simp; try (with_reducible rfl)
              refine wpAny_take (i := 6) (v := ?_) rfl (by kernel_rfl) (by kernel_rfl) (by kernel_rfl) (fun _ _ _ h => h) (Or.inl ⟨by rfl, ?_⟩) ?_
              rotate_left
              · intro w; go_simp; try (with_reducible rfl)
              refine wpAny_ready (rs := [4, 7]) (by kernel_rfl) (by simp) ?_
              refine AllReady.cons rfl (fun K hK => ?_) ?_
              · go_simp
                try (refine hK _ _ ?_; clear hK K)
                refine wpAny_ready (rs := [7]) (by kernel_rfl) (by simp) ?_
                refine AllReady.cons rfl (fun K hK => ?_) AllReady.nil
                go_simp
                try (refine hK _ _ ?_; clear hK K)
                refine wpAny_ready (rs := [8]) (by kernel_rfl) (by simp) ?_
                refine AllReady.cons rfl (fun K hK => ?_) AllReady.nil
                go_simp
                go_wp2_with (go_at_call 18; refine (kI.out _ hS0).mono ?_; rintro ev w6 ⟨v6, rfl, hB6, hc6⟩; have hc5 := kC.out w6 hB6)
                try (refine hK _ _ ?_; clear hK K)
                refine wpAny_ready (rs := [9]) (by kernel_rfl) (by simp) ?_
                refine AllReady.cons rfl (fun K hK => ?_) AllReady.nil
                go_simp
                try (refine hK _ _ ?_; clear hK K)
                refine wpAny_ready (rs := [10]) (by kernel_rfl) (by simp) ?_
                refine AllReady.cons rfl (fun K hK => ?_) AllReady.nil
                go_simp
                try (refine hK _ _ ?_; clear hK K)
                refine wpAny_ready (rs := [11]) (by kernel_rfl) (by simp) ?_
                refine AllReady.cons rfl (fun K hK => ?_) AllReady.nil
                go_simp
                try (refine hK _ _ ?_; clear hK K)
                refine wpAny_done (by kernel_rfl) ?_ _
                go_wp2_with fail
                go_meet
                case rel => exact ⟨rfl, hB6⟩
              refine AllReady.cons rfl (fun K hK => ?_) ?_
              · go_simp
                try (refine hK _ _ ?_; clear hK K)
                refine wpAny_ready (rs := [4, 8]) (by kernel_rfl) (by simp) ?_
                refine AllReady.cons rfl (fun K hK => ?_) ?_
                · go_simp
                  try (refine hK _ _ ?_; clear hK K)
                  refine wpAny_ready (rs := [8]) (by kernel_rfl) (by simp) ?_
                  refine AllReady.cons rfl (fun K hK => ?_) AllReady.nil
                  go_simp
                  go_wp2_with (go_at_call 18; refine (kI.out _ hS0).mono ?_; rintro ev w6 ⟨v6, rfl, hB6, hc6⟩; have hc5 := kC.out w6 hB6)
                  try (refine hK _ _ ?_; clear hK K)
                  refine wpAny_ready (rs := [9]) (by kernel_rfl) (by simp) ?_
                  refine AllReady.cons rfl (fun K hK => ?_) AllReady.nil
                  go_simp
                  try (refine hK _ _ ?_; clear hK K)
                  refine wpAny_ready (rs := [10]) (by kernel_rfl) (by simp) ?_
                  refine AllReady.cons rfl (fun K hK => ?_) AllReady.nil
                  go_simp
                  try (refine hK _ _ ?_; clear hK K)
                  refine wpAny_ready (rs := [11]) (by kernel_rfl) (by simp) ?_
                  refine AllReady.cons rfl (fun K hK => ?_) AllReady.nil
                  go_simp
                  try (refine hK _ _ ?_; clear hK K)
                  refine wpAny_done (by kernel_rfl) ?_ _
                  go_wp2_with fail
                  go_meet
                  case rel => exact ⟨rfl, hB6⟩
                refine AllReady.cons rfl (fun K hK => ?_) ?_
                · go_simp
                  go_wp2_with (go_at_call 18; refine (kI.out _ hS0).mono ?_; rintro ev w6 ⟨v6, rfl, hB6, hc6⟩; have hc5 := kC.out w6 hB6)
                  try (refine hK _ _ ?_; clear hK K)
                  refine wpAny_ready (rs := [4, 9]) (by kernel_rfl) (by simp) ?_
                  refine AllReady.cons rfl (fun K hK => ?_) ?_
                  · go_simp
                    try (refine hK _ _ ?_; clear hK K)
                    refine wpAny_ready (rs := [9]) (by kernel_rfl) (by simp) ?_
                    refine AllReady.cons rfl (fun K hK => ?_) AllReady.nil
                    go_simp
                    try (refine hK _ _ ?_; clear hK K)
                    refine wpAny_ready (rs := [10]) (by kernel_rfl) (by simp) ?_
                    refine AllReady.cons rfl (fun K hK => ?_) AllReady.nil
                    go_simp
                    try (refine hK _ _ ?_; clear hK K)
                    refine wpAny_ready (rs := [11]) (by kernel_rfl) (by simp) ?_
                    refine AllReady.cons rfl (fun K hK => ?_) AllReady.nil
                    go_simp
                    try (refine hK _ _ ?_; clear hK K)
                    refine wpAny_done (by kernel_rfl) ?_ _
                    go_wp2_with fail
                    go_meet
                    case rel => exact ⟨rfl, hB6⟩
                  refine AllReady.cons rfl (fun K hK => ?_) ?_
                  · go_simp
                    try (refine hK _ _ ?_; clear hK K)
                    refine wpAny_ready (rs := [4]) (by kernel_rfl) (by simp) ?_
                    refine AllReady.cons rfl (fun K hK => ?_) AllReady.nil
                    go_simp
                    try (refine hK _ _ ?_; clear hK K)
                    refine wpAny_ready (rs := [10]) (by kernel_rfl) (by simp) ?_
                    refine AllReady.cons rfl (fun K hK => ?_) AllReady.nil
                    go_simp
                    try (refine hK _ _ ?_; clear hK K)
                    refine wpAny_ready (rs := [11]) (by kernel_rfl) (by simp) ?_
                    refine AllReady.cons rfl (fun K hK => ?_) AllReady.nil
                    go_simp
                    try (refine hK _ _ ?_; clear hK K)
                    refine wpAny_done (by kernel_rfl) ?_ _
                    go_wp2_with fail
                    go_meet
                    case rel => exact ⟨rfl, hB6⟩
                  exact AllReady.nil
                exact AllReady.nil
              exact AllReady.nil
            case rest =>
              obtain ⟨rfl, hBc⟩ := hcut
              replace hS := hidden (hS.out.more hBc)
              replace hNw := hidden (hNw.out.keep (Apart.of_below (bs := []) hBc) (by simp))
              clear hBc
              go_wp2
              go_roundg (20 - ((K : Int) + 1).toNat)
              case measure => rw [hgk.out]; omega
              case rel => exact ⟨(K : Int) + 1, rfl, by omega, by omega, rfl, hNw.out, hS.out⟩
          · go_wp2_with fail
            refine (awake_calls _ hS.out.ground).mono ?_
            rintro ev w8 ⟨rfl, hB8⟩
            have hE := hidden (hS.out.below.trans (hB8.mono hS.out.below.size))
            clear hB8
            go_wp2
            go_ret
            exact ⟨rfl, hE.out⟩
      · clear hlt
        clear hc
        go_wp2_with fail
        refine (sys_power hS.out).mono ?_
        clear hS
        rintro ev w5 ⟨rfl, hS, hAp⟩
        replace hNw := hidden (hNw.out.keep hAp (by simp; omega))
        replace hS := hidden hS
        clear hAp
        go_wp2_with fail
        go_loopg [11] 20 (fun gk i wx => ∃ m : Int, i = .int .i64 m ∧ 0 ≤ m ∧ m ≤ 20 ∧ gk = 20 - m.toNat ∧ NowAt w1.heap.size nw wx ∧ Sys w (w.heap.size + 1) w.heap.size 20 mem (min k N) (-1) wx)
        case atStart => exact ⟨0, rfl, by omega, by omega, rfl, hNw.out, hS.out⟩
        case round =>
          clear hS hNw
          obtain ⟨m, rfl, hm0, hm1, hgk, hNw, hS⟩ := hrel
          replace hS := hidden hS
          replace hNw := hidden hNw
          replace hgk := hidden hgk
          by_cases hlt : m < 20
          · obtain ⟨K, hK⟩ : ∃ K : Nat, m = (K : Int) := ⟨m.toNat, by omega⟩
            subst hK
            obtain ⟨hbl, hn0, hn1⟩ := hT.out K (by omega)
            go_wp2_with fail
            refine (sys_read_op hS.out K (by omega) (by decide)).mono ?_
            clear hS
            rintro ev w5 ⟨v5, rfl, hb5, hS, hB5⟩
            rw [hbl] at hb5
            have hc5 := (hNw.out.keep (Apart.of_below (bs := []) hB5) (by simp)).cells K (by omega)
            replace hNw := hidden (hNw.out.keep (Apart.of_below (bs := []) hB5) (by simp))
            clear hB5 hbl
            generalize nw K = x at hb5 hc5 hn0 hn1
            have kC : ∀ w1, Below w5.heap.size w5 w1 → (convert 27 9 v5).run Tryd.prog w1 = .ok (.string (ofBytes (isL x))) w1 := fun w1 h1 => conv_bytes w1 _ _ (hb5.below h1)
            have kI : ∀ w1, Below w5.heap.size w5 w1 → Calls Tryd.prog 18 #[.int .i64 x] w1 fun ev w' => ∃ v, ev = .returned v ∧ Below w5.heap.size w5 w' ∧ (convert 27 9 v).run Tryd.prog w' = .ok (.string (ofBytes (isL x))) w' := fun w1 h1 =>
              (is_calls x hn0 (by omega) w1).mono fun _ w' ⟨v, h2, h3, h4⟩ => ⟨v, h2, h1.trans (h4.mono h1.size), conv_bytes w' _ _ h3⟩
            generalize ofBytes (isL x) = s at kC kI
            have hS0 : Below w5.heap.size w5 w5.drew := (Below.refl _ _).drew
            have hc0 := kC w5.drew hS0
            have hK20 : (K : Int) < 20 := by omega
            replace kC := hidden kC
            replace kI := hidden kI
            replace hS := hidden hS
            clear hb5
            go_upto_region 21 with fail
            go_cut [94] (fun c wx => c = .bool false ∧ Below w5.heap.size w5 wx)
            case first =>
              refine wp_region_any (by kernel_rfl) ?_
              try (change wpAny _ _ _ _ _ _ _ (World.drew _))
              refine wpAny_ready (rs := [0]) (by kernel_rfl) (by simp) ?_
              refine AllReady.cons rfl (fun K hK => ?_) AllReady.nil
              go_simp
              try (refine hK _ _ ?_; clear hK K)
              refine wpAny_ready (rs := [1]) (by kernel_rfl) (by simp) ?_
              refine AllReady.cons rfl (fun K hK => ?_) AllReady.nil
              go_simp
              try (refine hK _ _ ?_; clear hK K)
              refine wpAny_ready (rs := [2]) (by kernel_rfl) (by simp) ?_
              refine AllReady.cons rfl (fun K hK => ?_) AllReady.nil
              go_simp
              try (refine hK _ _ ?_; clear hK K)
              refine wpAny_take (i := 3) (v := ?_) rfl (by kernel_rfl) (by kernel_rfl) (by kernel_rfl) (fun _ _ _ h => h) (Or.inl ⟨by rfl, ?_⟩) ?_
              rotate_left
              · intro w; go_simp; try (with_reducible rfl)
              refine wpAny_take (i := 5) (v := ?_) rfl (by kernel_rfl) (by kernel_rfl) (by kernel_rfl) (fun _ _ _ h => h) (Or.inl ⟨by rfl, ?_⟩) ?_
              rotate_left
              · intro w; go_simp; try (with_reducible rfl)
              refine wpAny_take (i := 6) (v := ?_) rfl (by kernel_rfl) (by kernel_rfl) (by kernel_rfl) (fun _ _ _ h => h) (Or.inl ⟨by rfl, ?_⟩) ?_
              rotate_left
              · intro w; go_simp; try (with_reducible rfl)
              refine wpAny_ready (rs := [4, 7]) (by kernel_rfl) (by simp) ?_
              refine AllReady.cons rfl (fun K hK => ?_) ?_
              · go_simp
                try (refine hK _ _ ?_; clear hK K)
                refine wpAny_ready (rs := [7]) (by kernel_rfl) (by simp) ?_
                refine AllReady.cons rfl (fun K hK => ?_) AllReady.nil
                go_simp
                try (refine hK _ _ ?_; clear hK K)
                refine wpAny_ready (rs := [8]) (by kernel_rfl) (by simp) ?_
                refine AllReady.cons rfl (fun K hK => ?_) AllReady.nil
                go_simp
                go_wp2_with (go_at_call 18; refine (kI.out _ hS0).mono ?_; rintro ev w6 ⟨v6, rfl, hB6, hc6⟩; have hc5 := kC.out w6 hB6)
                try (refine hK _ _ ?_; clear hK K)
                refine wpAny_ready (rs := [9]) (by kernel_rfl) (by simp) ?_
                refine AllReady.cons rfl (fun K hK => ?_) AllReady.nil
                go_simp
                try (refine hK _ _ ?_; clear hK K)
                refine wpAny_ready (rs := [10]) (by kernel_rfl) (by simp) ?_
                refine AllReady.cons rfl (fun K hK => ?_) AllReady.nil
                go_simp
                try (refine hK _ _ ?_; clear hK K)
                refine wpAny_ready (rs := [11]) (by kernel_rfl) (by simp) ?_
                refine AllReady.cons rfl (fun K hK => ?_) AllReady.nil
                go_simp
                try (refine hK _ _ ?_; clear hK K)
                refine wpAny_done (by kernel_rfl) ?_ _
                go_wp2_with fail
                go_meet
                case rel => exact ⟨rfl, hB6⟩
              refine AllReady.cons rfl (fun K hK => ?_) ?_
              · go_simp
                try (refine hK _ _ ?_; clear hK K)
                refine wpAny_ready (rs := [4, 8]) (by kernel_rfl) (by simp) ?_
                refine AllReady.cons rfl (fun K hK => ?_) ?_
                · go_simp
                  try (refine hK _ _ ?_; clear hK K)
                  refine wpAny_ready (rs := [8]) (by kernel_rfl) (by simp) ?_
                  refine AllReady.cons rfl (fun K hK => ?_) AllReady.nil
                  go_simp
                  go_wp2_with (go_at_call 18; refine (kI.out _ hS0).mono ?_; rintro ev w6 ⟨v6, rfl, hB6, hc6⟩; have hc5 := kC.out w6 hB6)
                  try (refine hK _ _ ?_; clear hK K)
                  refine wpAny_ready (rs := [9]) (by kernel_rfl) (by simp) ?_
                  refine AllReady.cons rfl (fun K hK => ?_) AllReady.nil
                  go_simp
                  try (refine hK _ _ ?_; clear hK K)
                  refine wpAny_ready (rs := [10]) (by kernel_rfl) (by simp) ?_
                  refine AllReady.cons rfl (fun K hK => ?_) AllReady.nil
                  go_simp
                  try (refine hK _ _ ?_; clear hK K)
                  refine wpAny_ready (rs := [11]) (by kernel_rfl) (by simp) ?_
                  refine AllReady.cons rfl (fun K hK => ?_) AllReady.nil
                  go_simp
                  try (refine hK _ _ ?_; clear hK K)
                  refine wpAny_done (by kernel_rfl) ?_ _
                  go_wp2_with fail
                  go_meet
                  case rel => exact ⟨rfl, hB6⟩
                refine AllReady.cons rfl (fun K hK => ?_) ?_
                · go_simp
                  go_wp2_with (go_at_call 18; refine (kI.out _ hS0).mono ?_; rintro ev w6 ⟨v6, rfl, hB6, hc6⟩; have hc5 := kC.out w6 hB6)
                  try (refine hK _ _ ?_; clear hK K)
                  refine wpAny_ready (rs := [4, 9]) (by kernel_rfl) (by simp) ?_
                  refine AllReady.cons rfl (fun K hK => ?_) ?_
                  · go_simp
                    try (refine hK _ _ ?_; clear hK K)
                    refine wpAny_ready (rs := [9]) (by kernel_rfl) (by simp) ?_
                    refine AllReady.cons rfl (fun K hK => ?_) AllReady.nil
                    go_simp
                    try (refine hK _ _ ?_; clear hK K)
                    refine wpAny_ready (rs := [10]) (by kernel_rfl) (by simp) ?_
                    refine AllReady.cons rfl (fun K hK => ?_) AllReady.nil
                    go_simp
                    try (refine hK _ _ ?_; clear hK K)
                    refine wpAny_ready (rs := [11]) (by kernel_rfl) (by simp) ?_
                    refine AllReady.cons rfl (fun K hK => ?_) AllReady.nil
                    go_simp
                    try (refine hK _ _ ?_; clear hK K)
                    refine wpAny_done (by kernel_rfl) ?_ _
                    go_wp2_with fail
                    go_meet
                    case rel => exact ⟨rfl, hB6⟩
                  refine AllReady.cons rfl (fun K hK => ?_) ?_
                  · go_simp
                    try (refine hK _ _ ?_; clear hK K)
                    refine wpAny_ready (rs := [4]) (by kernel_rfl) (by simp) ?_
                    refine AllReady.cons rfl (fun K hK => ?_) AllReady.nil
                    go_simp
                    try (refine hK _ _ ?_; clear hK K)
                    refine wpAny_ready (rs := [10]) (by kernel_rfl) (by simp) ?_
                    refine AllReady.cons rfl (fun K hK => ?_) AllReady.nil
                    go_simp
                    try (refine hK _ _ ?_; clear hK K)
                    refine wpAny_ready (rs := [11]) (by kernel_rfl) (by simp) ?_
                    refine AllReady.cons rfl (fun K hK => ?_) AllReady.nil
                    go_simp
                    try (refine hK _ _ ?_; clear hK K)
                    refine wpAny_done (by kernel_rfl) ?_ _
                    go_wp2_with fail
                    go_meet
                    case rel => exact ⟨rfl, hB6⟩
                  exact AllReady.nil
                exact AllReady.nil
              exact AllReady.nil
            case rest =>
              obtain ⟨rfl, hBc⟩ := hcut
              replace hS := hidden (hS.out.more hBc)
              replace hNw := hidden (hNw.out.keep (Apart.of_below (bs := []) hBc) (by simp))
              clear hBc
              go_wp2
              go_roundg (20 - ((K : Int) + 1).toNat)
              case measure => rw [hgk.out]; omega
              case rel => exact ⟨(K : Int) + 1, rfl, by omega, by omega, rfl, hNw.out, hS.out⟩
          · go_wp2_with fail
            refine (awake_calls _ hS.out.ground).mono ?_
            rintro ev w8 ⟨rfl, hB8⟩
            have hE := hidden (hS.out.below.trans (hB8.mono hS.out.below.size))
            clear hB8
            go_wp2
            go_ret
            exact ⟨rfl, hE.out⟩
end Go.Proofs.YtahehgbibmmaeaaDoor
