/- What layer 5's statements call made. -/
import Derived.Test.YtkaippiblpedhaaGreatDoorCa7
import Derived.Test.YtkaippiblpedhaaGreatDoorJq2
import Derived.Lib.SlBytesConst
namespace Go.Proofs.YtkaippiblpedhaaGreatDoor
open Go.RowKit Go.Extern.Stop Go.Stop Go.Extern Go.Maps
set_option maxRecDepth 100000

theorem need8 (most : Nat) (h : most ≤ 8) : 20 + needN most ≤ 60 := by unfold needN rowsN; omega
theorem made_calls (most : Nat) (h1 : 1 ≤ most) (h2 : most ≤ 8) (w : World) (hG : Ground w) :
    Calls Tryz.prog 4 #[.int .i64 most] w fun e w' => ∃ jb cb mb, e = .returned (.tuple #[ptr (w.heap.size + 1), ptr cb]) ∧ CSt w (w.heap.size + 1) w.heap.size 60 jb cb mb 20 most 12 (fun _ => 0) 0 (-1) [] w' := by
  go_enter Tryz.func4, Tryz.ntmps4
  go_wp2_with fail
  refine (sys_new 60 (by omega) (by omega) w hG).mono ?_
  rintro ev w1 ⟨rfl, hS⟩
  have hO := hidden (open_idle hS (by decide) 20 most ⟨by omega, by omega⟩ (need8 most h2) (idle_zero 20))
  have hdl1 := hS.disk.lt
  replace hS := hidden hS
  clear hG
  go_wp2_with fail
  refine (hO.out).mono ?_
  rintro ev w2 ⟨jb, rfl, hJ, hjb, hB2⟩
  have hN := hidden (cnew_calls (hS.out.more hB2) hJ ⟨by omega, by omega⟩ 12 (by omega))
  clear hO hS hJ hB2
  go_wp2_with fail
  refine (hN.out).mono ?_
  rintro ev w3 ⟨rfl, hC, -⟩
  replace hC := hidden hC
  clear hN
  go_wp2
  go_ret2
  exact ⟨jb, _, _, rfl, hC.out⟩
/-- A new row of bytes that a literal makes. -/
theorem lit_bytes (w : World) (zs : List Int) (hr : ∀ z ∈ zs, 0 ≤ z ∧ z ≤ 255) (hl : zs.length ≤ 1000) (fz : Nat × Nat) : BytesAt (w.alloc (.cells (zs.map (Value.int .u8)).toArray 5 fz)) (.slice (some ⟨w.heap.size, 0, none⟩) zs.length zs.length) zs :=
  ⟨_, _, rfl, hr, by unfold maxLen; omega, fun e => (by cases e), fun _ => ⟨w.heap.size, 0, rfl, by simp, fun k hk => by
    rw [Nat.zero_add]
    rw [cell_of_row _ _ _ _ _ _ (heap_alloc_new w _), List.getElem?_toArray, getD_map hk]⟩⟩
theorem make_zero : ∃ (Zc : Array Value) (S : ByteArray), S = ofBytes zeroRow ∧ (∀ w : World, (Instr.makeSlice 29 (.int .i64 128) (.int .i64 128)).run Tryz.prog w = .ok (.slice (some ⟨w.heap.size, 0, none⟩) 128 128) (w.alloc (.cells Zc 5))) ∧
    (∀ w w' : World, Below (w.heap.size + 1) (w.alloc (.cells Zc 5)) w' → (convert 29 9 (.slice (some ⟨w.heap.size, 0, none⟩) 128 128)).run Tryz.prog w' = .ok (.string S) w') := by
  refine ⟨_, _, rfl, fun w => make_block w, fun w w' hb => ?_⟩
  refine conv_bytes w' _ zeroRow ?_
  have hb0 := lit_bytes w zeroRow zeroRow_row.2 (by simp) (0, 0)
  have e : (zeroRow.map (Value.int .u8)).toArray = Array.replicate 128 (.int .u8 0) := by simp only [zeroRow, List.map_replicate, List.toArray_replicate]
  rw [e, zeroRow_row.1] at hb0
  exact hb0.below (by rw [World.size_alloc]; exact hb)
theorem told_len {base : Nat} {w : World} {v : Value} {M : Chg} (h : Told base w v M) : ∃ a cap, v = .slice a M.length cap := by
  rcases h.row.2 with ⟨rfl, h0⟩ | ⟨g', cap', cur, rfl, rest⟩
  · exact ⟨none, 0, by rw [h0]⟩
  · exact ⟨_, _, rfl⟩
theorem blockL_zero (i : Nat) : blockL (fun _ => 0) i = zeroRow := idle_zero i
theorem row_nowM_zero : Row (nowM (fun _ => 0) [] 3) := by
  show Row (blockL (fun _ => 0) 3)
  rw [blockL_zero]
  exact zeroRow_row
set_option maxHeartbeats 2000000 in
theorem cawake_calls (w : World) (hG : Ground w) (hGT : GT w) :
    Calls Tryz.prog 5 #[] w fun ev w' => ev = .returned (.bool true) ∧ Below w.heap.size w w' := by
  have hmd := hidden (made_calls 4 (by omega) (by omega) w hG)
  replace hGT := hidden hGT
  clear hG
  go_enter Tryz.func5, Tryz.ntmps5
  go_wp2_with fail
  refine (hmd.out).mono ?_
  rintro ev w1 ⟨jb, cb, mb, rfl, hC1⟩
  have hcv : (convert 29 29 (.slice (some ⟨w1.heap.size, 0, none⟩) 2 2)).run Tryz.prog (w1.alloc (.cells #[.int .u8 120, .int .u8 121] 5)) = .ok (.slice (some ⟨w1.heap.size, 0, none⟩) 2 2) (w1.alloc (.cells #[.int .u8 120, .int .u8 121] 5 (2, 3))) := Lib.run_convert_bytes_const w1 _ _ _ 2 2 Tryz.underlying29 Tryz.underlying5
  have hB2 : Below w1.heap.size w1 (w1.alloc (.cells #[.int .u8 120, .int .u8 121] 5 (2, 3))) := (Below.refl _ _).alloc (Nat.le_refl _) _
  have hW := hidden (cwrite_calls (hC1.more hB2) (by decide) 3 5 (by omega) (by omega) _ [120, 121] (lit_bytes w1 [120, 121] (by decide) (by decide) (2, 3)) (by decide) (by decide) (by decide))
  clear hC1 hB2 hmd
  go_wp2_with fail
  refine (hW.out).mono ?_
  rintro ev w3 ⟨rfl, hC3, hA3⟩
  have hM : putM (3 : Nat) (layL (nowM (fun _ => 0) [] 3) 5 [120, 121]) [] = [(3, layL (nowM (fun _ => 0) [] 3) 5 [120, 121])] := rfl
  rw [hM] at hC3
  have hCh := hidden (changed_calls hC3.cat hC3.map (by simp))
  replace hC3 := hidden hC3
  clear hW hcv hA3 hM
  generalize layL (nowM (fun _ => 0) [] 3) 5 [120, 121] = row at hC3 hCh
  go_wp2_with fail
  refine (hCh.out).mono ?_
  rintro ev w4 ⟨v4, rfl, hT4, hB4⟩
  obtain ⟨lb, lcap, rfl, hlb, hcell⟩ := hT4.cell (by simp)
  have hc4 := hcell 0 _ rfl
  simp only [List.length_singleton] at hT4 ⊢
  have hD := hidden (drop_calls (hC3.out.more hB4))
  have hml := hC3.out.map.lt
  have hs4 := hB4.size
  have hlb3 : Hid (w3.heap.size ≤ lb) := hidden (by
    rcases hT4.row.2 with ⟨h0, _⟩ | ⟨g', cap', cur, h0, h1, _⟩
    · cases h0
    · simp at h0; omega)
  clear hCh hT4 hcell hC3 hB4
  go_wp2_with fail
  refine (hD.out).mono ?_
  rintro ev w5 ⟨rfl, hC5, hA5⟩
  replace hc4 := (hA5.cell (p := ⟨lb, 0, none⟩) hlb (by simp; have := hlb3.out; omega)).trans hc4
  have hs5 := hA5.size
  have hR := hidden (read_calls hC5 (by decide) 3 (by omega) (by omega))
  have hnow : nowM (fun _ => 0) [] 3 = zeroRow := blockL_zero 3
  rw [hnow] at hR
  replace hC5 := hidden hC5
  clear hA5 hD hlb3 hnow
  go_wp2_with fail
  refine (hR.out).mono ?_
  rintro ev w6 ⟨b6, rfl, hL6, -, hB6⟩
  have hc6 := (hB6.cell (p := ⟨lb, 0, none⟩) (Nat.lt_of_lt_of_le hlb hs5)).trans hc4
  have hC6 := hC5.out.more hB6
  have hN := hidden (cnew_nil 5 ⟨by omega, by omega⟩ w6 hC6.sys.ground)
  have hGT6 := hidden (hGT.out.below hC6.sys.below)
  have hBw6 := hidden hC6.sys.below
  replace hL6 := hidden hL6
  have hlb6 : lb < w6.heap.size := by have := hB6.size; omega
  clear hR hB6 hC6 hc4 hC5
  go_wp2_with fail
  refine (hN.out).mono ?_
  rintro ev w7 ⟨b7, rfl, hCh7, hB7⟩
  have hc7 := (hB7.cell (p := ⟨lb, 0, none⟩) hlb6).trans hc6
  have hL7 := hL6.out.below hB7
  have hBw7 := hidden (hBw6.out.trans (hB7.mono hBw6.out.size))
  have hGT7 := hGT6.out.below hB7
  obtain ⟨Zc, S, hS, hmk, hcz⟩ := make_zero
  have kC : ∀ w1, Below w7.heap.size w7 w1 → (convert 29 9 (.slice (some ⟨b6, 0, none⟩) 128 128)).run Tryz.prog w1 = .ok (.string S) w1 := fun w1 h1 => by rw [hS]; exact conv_bytes w1 _ _ ((hL7.below h1).bytes)
  have kN : ∀ w1, Below w7.heap.size w7 w1 → Calls Tryz.prog 19 #[flt b7] w1 fun ev w' => ev = .returned (.int .i64 1) ∧ Below w7.heap.size w7 w' := fun w1 h1 => (law_num 1 w1 _ _ (Chain.below h1 _ _ _ hCh7) (hGT7.below h1)).mono fun _ _ h => ⟨h.1, h1.trans (h.2.mono h1.size)⟩
  have hd0 : Below w7.heap.size w7 w7.drew := below_drew1 w7
  have hd1 : Below w7.heap.size w7 (w7.alloc (.cells Zc 5)).drew := hd0.alloc hd0.size _
  have e1 := kC _ hd0
  have e2 := kC _ hd1
  have e3 : (convert 29 9 (.slice (some ⟨w7.heap.size, 0, none⟩) 128 128)).run Tryz.prog (w7.alloc (.cells Zc 5)).drew = .ok (.string S) (w7.alloc (.cells Zc 5)).drew := hcz w7.drew _ (Below.refl _ _)
  have hmk1 : (Instr.makeSlice 29 (.int .i64 128) (.int .i64 128)).run Tryz.prog w7.drew = .ok (.slice (some ⟨w7.heap.size, 0, none⟩) 128 128) (w7.alloc (.cells Zc 5)).drew := hmk w7.drew
  have hc8 := (hd0.cell (p := ⟨lb, 0, none⟩) (by have := hB7.size; show lb < _; omega)).trans hc7
  have hc9 := (hd1.cell (p := ⟨lb, 0, none⟩) (by have := hB7.size; show lb < _; omega)).trans hc7
  replace kN := hidden kN
  replace hd1 := hidden hd1
  clear kC hcz hmk hS hL7 hGT7 hCh7 hc6 hN hL6 hBw6 hGT6 hB7 hd0 hGT
  go_upto_region 9 with fail
  go_cut [0] (fun c wx => c = .bool true ∧ Below w7.heap.size w7 wx)
  case first =>
    clear hBw7
    refine wp_region_any (by kernel_rfl) ?_
    try (change wpAny _ _ _ _ _ _ _ (World.drew _))
    refine wpAny_ready (rs := [0]) (by kernel_rfl) (by simp) ?_
    refine AllReady.cons rfl (fun K hK => ?_) AllReady.nil
    go_simp
    try (refine hK _ _ ?_; clear hK K)
    refine wpAny_ready (rs := [1]) (by kernel_rfl) (by simp) ?_
    refine AllReady.cons rfl (fun K hK => ?_) AllReady.nil
    go_simp
    try (refine hK _ _ ?_; clear hK K)
    refine wpAny_ready (rs := [2]) (by kernel_rfl) (by simp) ?_
    refine AllReady.cons rfl (fun K hK => ?_) AllReady.nil
    go_simp
    try (refine hK _ _ ?_; clear hK K)
    refine wpAny_ready (rs := [3]) (by kernel_rfl) (by simp) ?_
    refine AllReady.cons rfl (fun K hK => ?_) AllReady.nil
    go_simp
    try (refine hK _ _ ?_; clear hK K)
    refine wpAny_ready (rs := [4]) (by kernel_rfl) (by simp) ?_
    refine AllReady.cons rfl (fun K hK => ?_) AllReady.nil
    go_simp
    try (refine hK _ _ ?_; clear hK K)
    refine wpAny_ready (rs := [5]) (by kernel_rfl) (by simp) ?_
    refine AllReady.cons rfl (fun K hK => ?_) AllReady.nil
    go_simp
    try (refine hK _ _ ?_; clear hK K)
    refine wpAny_ready (rs := [6]) (by kernel_rfl) (by simp) ?_
    refine AllReady.cons rfl (fun K hK => ?_) AllReady.nil
    go_simp
    try (refine hK _ _ ?_; clear hK K)
    refine wpAny_ready (rs := [7]) (by kernel_rfl) (by simp) ?_
    refine AllReady.cons rfl (fun K hK => ?_) AllReady.nil
    go_simp
    try (refine hK _ _ ?_; clear hK K)
    refine wpAny_ready (rs := [8]) (by kernel_rfl) (by simp) ?_
    refine AllReady.cons rfl (fun K hK => ?_) AllReady.nil
    go_simp
    try (refine hK _ _ ?_; clear hK K)
    refine wpAny_ready (rs := [9]) (by kernel_rfl) (by simp) ?_
    refine AllReady.cons rfl (fun K hK => ?_) AllReady.nil
    go_simp
    try (refine hK _ _ ?_; clear hK K)
    refine wpAny_ready (rs := [10]) (by kernel_rfl) (by simp) ?_
    refine AllReady.cons rfl (fun K hK => ?_) AllReady.nil
    go_simp
    try (refine hK _ _ ?_; clear hK K)
    refine wpAny_ready (rs := [11]) (by kernel_rfl) (by simp) ?_
    refine AllReady.cons rfl (fun K hK => ?_) AllReady.nil
    go_simp
    try (refine hK _ _ ?_; clear hK K)
    refine wpAny_ready (rs := [12]) (by kernel_rfl) (by simp) ?_
    refine AllReady.cons rfl (fun K hK => ?_) AllReady.nil
    go_simp
    try (refine hK _ _ ?_; clear hK K)
    refine wpAny_ready (rs := [13]) (by kernel_rfl) (by simp) ?_
    refine AllReady.cons rfl (fun K hK => ?_) AllReady.nil
    go_simp
    try (refine hK _ _ ?_; clear hK K)
    refine wpAny_ready (rs := [14]) (by kernel_rfl) (by simp) ?_
    refine AllReady.cons rfl (fun K hK => ?_) AllReady.nil
    go_simp
    try (refine hK _ _ ?_; clear hK K)
    refine wpAny_ready (rs := [15]) (by kernel_rfl) (by simp) ?_
    refine AllReady.cons rfl (fun K hK => ?_) AllReady.nil
    go_simp
    try (refine hK _ _ ?_; clear hK K)
    refine wpAny_ready (rs := [16]) (by kernel_rfl) (by simp) ?_
    refine AllReady.cons rfl (fun K hK => ?_) AllReady.nil
    go_simp
    try (refine hK _ _ ?_; clear hK K)
    refine wpAny_ready (rs := [17]) (by kernel_rfl) (by simp) ?_
    refine AllReady.cons rfl (fun K hK => ?_) AllReady.nil
    go_simp
    try (refine hK _ _ ?_; clear hK K)
    refine wpAny_take (i := 18) (v := ?_) rfl (by kernel_rfl) (by kernel_rfl) (by kernel_rfl) (fun _ _ _ h => h) (Or.inl ⟨by rfl, ?_⟩) ?_
    rotate_left
    · intro w; go_simp; try (with_reducible rfl)
    refine wpAny_ready (rs := [19, 20]) (by kernel_rfl) (by simp) ?_
    refine AllReady.cons rfl (fun K hK => ?_) ?_
    · go_simp
      try (refine hK _ _ ?_; clear hK K)
      refine wpAny_ready (rs := [20]) (by kernel_rfl) (by simp) ?_
      refine AllReady.cons rfl (fun K hK => ?_) AllReady.nil
      go_simp
      try (refine hK _ _ ?_; clear hK K)
      refine wpAny_ready (rs := [21]) (by kernel_rfl) (by simp) ?_
      refine AllReady.cons rfl (fun K hK => ?_) AllReady.nil
      go_simp
      try (refine hK _ _ ?_; clear hK K)
      refine wpAny_ready (rs := [22]) (by kernel_rfl) (by simp) ?_
      refine AllReady.cons rfl (fun K hK => ?_) AllReady.nil
      go_simp
      try (refine hK _ _ ?_; clear hK K)
      refine wpAny_ready (rs := [23]) (by kernel_rfl) (by simp) ?_
      refine AllReady.cons rfl (fun K hK => ?_) AllReady.nil
      go_simp
      try (refine hK _ _ ?_; clear hK K)
      refine wpAny_ready (rs := [24]) (by kernel_rfl) (by simp) ?_
      refine AllReady.cons rfl (fun K hK => ?_) AllReady.nil
      go_simp
      try (refine hK _ _ ?_; clear hK K)
      refine wpAny_ready (rs := [25]) (by kernel_rfl) (by simp) ?_
      refine AllReady.cons rfl (fun K hK => ?_) AllReady.nil
      go_simp
      try (refine hK _ _ ?_; clear hK K)
      refine wpAny_ready (rs := [26]) (by kernel_rfl) (by simp) ?_
      refine AllReady.cons rfl (fun K hK => ?_) AllReady.nil
      go_simp
      try (refine hK _ _ ?_; clear hK K)
      refine wpAny_ready (rs := [27]) (by kernel_rfl) (by simp) ?_
      refine AllReady.cons rfl (fun K hK => ?_) AllReady.nil
      go_simp
      try (refine hK _ _ ?_; clear hK K)
      refine wpAny_ready (rs := [28]) (by kernel_rfl) (by simp) ?_
      refine AllReady.cons rfl (fun K hK => ?_) AllReady.nil
      go_simp
      try (refine hK _ _ ?_; clear hK K)
      refine wpAny_ready (rs := [29]) (by kernel_rfl) (by simp) ?_
      refine AllReady.cons rfl (fun K hK => ?_) AllReady.nil
      go_simp
      try (refine hK _ _ ?_; clear hK K)
      refine wpAny_ready (rs := [30]) (by kernel_rfl) (by simp) ?_
      refine AllReady.cons rfl (fun K hK => ?_) AllReady.nil
      go_simp
      go_wp2_with (go_at_call 19; refine (kN.out _ hd1.out).mono ?_; rintro ev w8 ⟨rfl, hB8⟩)
      try (refine hK _ _ ?_; clear hK K)
      refine wpAny_ready (rs := [31]) (by kernel_rfl) (by simp) ?_
      refine AllReady.cons rfl (fun K hK => ?_) AllReady.nil
      go_simp
      try (refine hK _ _ ?_; clear hK K)
      refine wpAny_ready (rs := [32]) (by kernel_rfl) (by simp) ?_
      refine AllReady.cons rfl (fun K hK => ?_) AllReady.nil
      go_simp
      try (refine hK _ _ ?_; clear hK K)
      refine wpAny_ready (rs := [33]) (by kernel_rfl) (by simp) ?_
      refine AllReady.cons rfl (fun K hK => ?_) AllReady.nil
      go_simp
      try (refine hK _ _ ?_; clear hK K)
      refine wpAny_done (by kernel_rfl) ?_ _
      go_wp2_with fail
      go_meet
      case rel => exact ⟨rfl, hB8⟩
    refine AllReady.cons rfl (fun K hK => ?_) ?_
    · go_simp
      try (refine hK _ _ ?_; clear hK K)
      refine wpAny_ready (rs := [19, 21]) (by kernel_rfl) (by simp) ?_
      refine AllReady.cons rfl (fun K hK => ?_) ?_
      · go_simp
        try (refine hK _ _ ?_; clear hK K)
        refine wpAny_ready (rs := [21]) (by kernel_rfl) (by simp) ?_
        refine AllReady.cons rfl (fun K hK => ?_) AllReady.nil
        go_simp
        try (refine hK _ _ ?_; clear hK K)
        refine wpAny_ready (rs := [22]) (by kernel_rfl) (by simp) ?_
        refine AllReady.cons rfl (fun K hK => ?_) AllReady.nil
        go_simp
        try (refine hK _ _ ?_; clear hK K)
        refine wpAny_ready (rs := [23]) (by kernel_rfl) (by simp) ?_
        refine AllReady.cons rfl (fun K hK => ?_) AllReady.nil
        go_simp
        try (refine hK _ _ ?_; clear hK K)
        refine wpAny_ready (rs := [24]) (by kernel_rfl) (by simp) ?_
        refine AllReady.cons rfl (fun K hK => ?_) AllReady.nil
        go_simp
        try (refine hK _ _ ?_; clear hK K)
        refine wpAny_ready (rs := [25]) (by kernel_rfl) (by simp) ?_
        refine AllReady.cons rfl (fun K hK => ?_) AllReady.nil
        go_simp
        try (refine hK _ _ ?_; clear hK K)
        refine wpAny_ready (rs := [26]) (by kernel_rfl) (by simp) ?_
        refine AllReady.cons rfl (fun K hK => ?_) AllReady.nil
        go_simp
        try (refine hK _ _ ?_; clear hK K)
        refine wpAny_ready (rs := [27]) (by kernel_rfl) (by simp) ?_
        refine AllReady.cons rfl (fun K hK => ?_) AllReady.nil
        go_simp
        try (refine hK _ _ ?_; clear hK K)
        refine wpAny_ready (rs := [28]) (by kernel_rfl) (by simp) ?_
        refine AllReady.cons rfl (fun K hK => ?_) AllReady.nil
        go_simp
        try (refine hK _ _ ?_; clear hK K)
        refine wpAny_ready (rs := [29]) (by kernel_rfl) (by simp) ?_
        refine AllReady.cons rfl (fun K hK => ?_) AllReady.nil
        go_simp
        try (refine hK _ _ ?_; clear hK K)
        refine wpAny_ready (rs := [30]) (by kernel_rfl) (by simp) ?_
        refine AllReady.cons rfl (fun K hK => ?_) AllReady.nil
        go_simp
        go_wp2_with (go_at_call 19; refine (kN.out _ hd1.out).mono ?_; rintro ev w8 ⟨rfl, hB8⟩)
        try (refine hK _ _ ?_; clear hK K)
        refine wpAny_ready (rs := [31]) (by kernel_rfl) (by simp) ?_
        refine AllReady.cons rfl (fun K hK => ?_) AllReady.nil
        go_simp
        try (refine hK _ _ ?_; clear hK K)
        refine wpAny_ready (rs := [32]) (by kernel_rfl) (by simp) ?_
        refine AllReady.cons rfl (fun K hK => ?_) AllReady.nil
        go_simp
        try (refine hK _ _ ?_; clear hK K)
        refine wpAny_ready (rs := [33]) (by kernel_rfl) (by simp) ?_
        refine AllReady.cons rfl (fun K hK => ?_) AllReady.nil
        go_simp
        try (refine hK _ _ ?_; clear hK K)
        refine wpAny_done (by kernel_rfl) ?_ _
        go_wp2_with fail
        go_meet
        case rel => exact ⟨rfl, hB8⟩
      refine AllReady.cons rfl (fun K hK => ?_) ?_
      · go_simp
        try (refine hK _ _ ?_; clear hK K)
        refine wpAny_ready (rs := [19]) (by kernel_rfl) (by simp) ?_
        refine AllReady.cons rfl (fun K hK => ?_) AllReady.nil
        go_simp
        try (refine hK _ _ ?_; clear hK K)
        refine wpAny_ready (rs := [22]) (by kernel_rfl) (by simp) ?_
        refine AllReady.cons rfl (fun K hK => ?_) AllReady.nil
        go_simp
        try (refine hK _ _ ?_; clear hK K)
        refine wpAny_ready (rs := [23]) (by kernel_rfl) (by simp) ?_
        refine AllReady.cons rfl (fun K hK => ?_) AllReady.nil
        go_simp
        try (refine hK _ _ ?_; clear hK K)
        refine wpAny_ready (rs := [24]) (by kernel_rfl) (by simp) ?_
        refine AllReady.cons rfl (fun K hK => ?_) AllReady.nil
        go_simp
        try (refine hK _ _ ?_; clear hK K)
        refine wpAny_ready (rs := [25]) (by kernel_rfl) (by simp) ?_
        refine AllReady.cons rfl (fun K hK => ?_) AllReady.nil
        go_simp
        try (refine hK _ _ ?_; clear hK K)
        refine wpAny_ready (rs := [26]) (by kernel_rfl) (by simp) ?_
        refine AllReady.cons rfl (fun K hK => ?_) AllReady.nil
        go_simp
        try (refine hK _ _ ?_; clear hK K)
        refine wpAny_ready (rs := [27]) (by kernel_rfl) (by simp) ?_
        refine AllReady.cons rfl (fun K hK => ?_) AllReady.nil
        go_simp
        try (refine hK _ _ ?_; clear hK K)
        refine wpAny_ready (rs := [28]) (by kernel_rfl) (by simp) ?_
        refine AllReady.cons rfl (fun K hK => ?_) AllReady.nil
        go_simp
        try (refine hK _ _ ?_; clear hK K)
        refine wpAny_ready (rs := [29]) (by kernel_rfl) (by simp) ?_
        refine AllReady.cons rfl (fun K hK => ?_) AllReady.nil
        go_simp
        try (refine hK _ _ ?_; clear hK K)
        refine wpAny_ready (rs := [30]) (by kernel_rfl) (by simp) ?_
        refine AllReady.cons rfl (fun K hK => ?_) AllReady.nil
        go_simp
        go_wp2_with (go_at_call 19; refine (kN.out _ hd1.out).mono ?_; rintro ev w8 ⟨rfl, hB8⟩)
        try (refine hK _ _ ?_; clear hK K)
        refine wpAny_ready (rs := [31]) (by kernel_rfl) (by simp) ?_
        refine AllReady.cons rfl (fun K hK => ?_) AllReady.nil
        go_simp
        try (refine hK _ _ ?_; clear hK K)
        refine wpAny_ready (rs := [32]) (by kernel_rfl) (by simp) ?_
        refine AllReady.cons rfl (fun K hK => ?_) AllReady.nil
        go_simp
        try (refine hK _ _ ?_; clear hK K)
        refine wpAny_ready (rs := [33]) (by kernel_rfl) (by simp) ?_
        refine AllReady.cons rfl (fun K hK => ?_) AllReady.nil
        go_simp
        try (refine hK _ _ ?_; clear hK K)
        refine wpAny_done (by kernel_rfl) ?_ _
        go_wp2_with fail
        go_meet
        case rel => exact ⟨rfl, hB8⟩
      exact AllReady.nil
    exact AllReady.nil
  case rest =>
    obtain ⟨rfl, hB⟩ := hcut
    have hE := hidden (hBw7.out.trans (hB.mono hBw7.out.size))
    clear hB hBw7
    go_wp2
    go_ret
    exact ⟨rfl, hE.out⟩
end Go.Proofs.YtkaippiblpedhaaGreatDoor
