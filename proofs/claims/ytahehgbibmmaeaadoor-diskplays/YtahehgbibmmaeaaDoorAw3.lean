/- What layer 3's statements call awake: the document's own example holds. -/
import Derived.Test.YtahehgbibmmaeaaDoorSy
import Derived.Deep.RegionHeld3
namespace Go.Proofs.YtahehgbibmmaeaaDoor
open Go.RowKit Go.Extern.Stop Go.Stop Go.Extern
set_option maxRecDepth 100000

set_option maxHeartbeats 2000000 in
theorem awake_calls (w : World) (hG : Ground w) :
    Calls Tryd.prog 13 #[] w fun ev w' => ev = .returned (.bool true) ∧ Below w.heap.size w w' := by
  go_enter Tryd.func13, Tryd.ntmps13
  go_wp2_with fail
  refine (sys_new 16 (by omega) (by omega) w hG).mono ?_
  rintro ev w1 ⟨rfl, hS⟩
  replace hS := hidden hS
  go_wp2_with fail
  refine (sys_fuse hS.out 1).mono ?_
  clear hS
  rintro ev w1 ⟨rfl, hS, -⟩
  rw [show fused (-1) 1 = 1 from rfl] at hS
  replace hS := hidden hS
  go_wp2_with fail
  refine (sys_fill hS.out 3).mono ?_
  clear hS
  rintro ev w2 ⟨rfl, hb, hS, -⟩
  replace hS := hidden hS
  replace hb := hidden hb
  go_wp2_with fail
  refine (sys_write hS.out 0 (by omega) _ _ hb.out (fillL_len 3) (by decide) (by decide) (by decide)).mono ?_
  clear hS
  rintro ev w2 ⟨rfl, hS, -⟩
  rw [show burnt 1 = 0 from rfl, show (0 : Int) + 1 = 1 from rfl] at hS
  replace hS := hidden hS
  clear hb
  go_wp2_with fail
  refine (sys_fill hS.out 4).mono ?_
  clear hS
  rintro ev w3 ⟨rfl, hb, hS, -⟩
  replace hS := hidden hS
  replace hb := hidden hb
  go_wp2_with fail
  have hlt := hS.out.disk.lt.1
  refine (sys_write_bad hS.out 1 50 (by decide) _ _ hb.out (Or.inr ⟨fillL_len 4, rfl⟩)).mono ?_
  clear hS
  rintro ev w3 ⟨b4, rfl, hC, hb4, hS, -⟩
  rw [itoa_one] at hC
  replace hS := hidden hS
  replace hC := hidden hC
  clear hb
  go_wp2_with fail
  refine (sys_power hS.out).mono ?_
  clear hS
  rintro ev w4 ⟨rfl, hS4, hA⟩
  have hC4 : Chain w4 [(sDisk, ⟨#[49]⟩)] (num 50) (flt b4) := chain1_apart hC.out hA (by simp; omega)
  replace hS := hidden hS4
  go_wp2_with fail
  refine (sys_read hS.out 0 (by omega) (by decide)).mono ?_
  clear hS
  rintro ev w5 ⟨b5, rfl, hb5, -, -, hS5, hB5⟩
  rw [memW_same 0 (fillL 3) (fillL_len 3)] at hb5
  obtain ⟨A3, Z3, hZ, hF⟩ := fill_op 3
  rw [← hZ] at hb5
  clear hZ
  generalize memW 0 (fillL 3) (fun _ => 0) = mem at hS5
  generalize Value.slice (some ⟨b5, 0, none⟩) 128 128 = v5 at hb5 ⊢
  have hC5 := hC4.below hB5
  have kI : ∀ w1, Below w5.heap.size w5 w1 → Calls Tryd.prog 20 #[flt b4, .string sDisk, .string ⟨#[49]⟩, .int .i64 50] w1 fun ev w' => ev = .returned (.bool true) ∧ Below w5.heap.size w5 w' := fun w1 h1 =>
    (law_is 50 (by decide) w1 sDisk ⟨#[49]⟩ [] (flt b4) (hC5.below h1) (hS5.ground.g.below h1)).mono fun _ _ h => ⟨h.1, h1.trans (h.2.mono h1.size)⟩
  have kC : ∀ w1, Below w5.heap.size w5 w1 → (convert 27 9 v5).run Tryd.prog w1 = .ok (.string (ofBytes Z3)) w1 := fun w1 h1 => conv_bytes w1 _ _ (hb5.below h1)
  have kF : ∀ w1, Below w5.heap.size w5 w1 → ∃ v, Calls Tryd.prog 9 #[.int .i64 3] w1 fun ev w' => ev = .returned v ∧ Below w5.heap.size w5 w' ∧ (convert 27 9 v).run Tryd.prog w' = .ok (.string (ofBytes Z3)) w' := fun w1 h1 => by
    obtain ⟨v, hv, hc⟩ := hF.out w1
    exact ⟨v, hc.mono fun _ w' ⟨h2, h3⟩ => ⟨h2, by rw [h3]; exact h1.alloc h1.size _, by rw [h3]; exact conv_bytes _ _ _ hv⟩⟩
  have kW : ∀ w1, Below w5.heap.size w5 w1 → Calls Tryd.prog 12 #[ptr (w.heap.size + 1)] w1 fun ev w' => ev = .returned (.int .i64 1) ∧ Below w5.heap.size w5 w' := fun w1 h1 => (sys_writes (hS5.more h1)).mono fun _ _ h => ⟨h.1, by rw [h.2]; exact h1⟩
  have kB : ∀ w1, Below w5.heap.size w5 w1 → Calls Tryd.prog 22 #[ptr (w.heap.size + 1)] w1 fun ev w' => ev = .returned (.int .i64 16) ∧ Below w5.heap.size w5 w' := fun w1 h1 => (sys_blocks (hS5.more h1)).mono fun _ _ h => ⟨h.1, by rw [h.2]; exact h1⟩
  have hS0 : Below w5.heap.size w5 w5.drew := (Below.refl _ _).drew
  have hB0 := hidden hS5.below
  replace kI := hidden kI
  replace kC := hidden kC
  replace kF := hidden kF
  replace kW := hidden kW
  replace kB := hidden kB
  clear hC4 hC5 hC hA hB5 hb4 hlt hG hS5 hb5 hF
  go_upto_region 9 with fail
  go_cut [0] (fun c wx => c = .bool true ∧ Below w5.heap.size w5 wx)
  case first =>
    clear hB0
    refine wp_region_any (by kernel_rfl) ?_
    try (change wpAny _ _ _ _ _ _ _ (World.drew _))
    refine wpAny_ready (rs := [0]) (by kernel_rfl) (by simp) ?_
    refine AllReady.cons rfl (fun K hK => ?_) AllReady.nil
    go_simp
    try (refine hK _ _ ?_; clear hK K)
    refine wpAny_ready (rs := [1]) (by kernel_rfl) (by simp) ?_
    refine AllReady.cons rfl (fun K hK => ?_) AllReady.nil
    go_simp
    try (refine hK _ _ ?_; clear hK K)
    refine wpAny_ready (rs := [2]) (by kernel_rfl) (by simp) ?_
    refine AllReady.cons rfl (fun K hK => ?_) AllReady.nil
    go_simp
    try (refine hK _ _ ?_; clear hK K)
    refine wpAny_ready (rs := [3]) (by kernel_rfl) (by simp) ?_
    refine AllReady.cons rfl (fun K hK => ?_) AllReady.nil
    go_simp
    try (refine hK _ _ ?_; clear hK K)
    refine wpAny_ready (rs := [4]) (by kernel_rfl) (by simp) ?_
    refine AllReady.cons rfl (fun K hK => ?_) AllReady.nil
    go_simp
    go_wp2_with (go_at_call 20; refine (kI.out _ hS0).mono ?_; rintro ev w6 ⟨rfl, hB6⟩; have hc6 := kC.out w6 hB6)
    try (refine hK _ _ ?_; clear hK K)
    refine wpAny_ready (rs := [5]) (by kernel_rfl) (by simp) ?_
    refine AllReady.cons rfl (fun K hK => ?_) AllReady.nil
    go_simp
    try (refine hK _ _ ?_; clear hK K)
    refine wpAny_ready (rs := [6]) (by kernel_rfl) (by simp) ?_
    refine AllReady.cons rfl (fun K hK => ?_) AllReady.nil
    go_simp
    try (refine hK _ _ ?_; clear hK K)
    refine wpAny_ready (rs := [7]) (by kernel_rfl) (by simp) ?_
    refine AllReady.cons rfl (fun K hK => ?_) AllReady.nil
    go_simp
    try (refine hK _ _ ?_; clear hK K)
    refine wpAny_ready (rs := [8]) (by kernel_rfl) (by simp) ?_
    refine AllReady.cons rfl (fun K hK => ?_) AllReady.nil
    go_simp
    try (refine hK _ _ ?_; clear hK K)
    refine wpAny_ready (rs := [9]) (by kernel_rfl) (by simp) ?_
    refine AllReady.cons rfl (fun K hK => ?_) AllReady.nil
    go_simp
    try (refine hK _ _ ?_; clear hK K)
    refine wpAny_ready (rs := [10]) (by kernel_rfl) (by simp) ?_
    refine AllReady.cons rfl (fun K hK => ?_) AllReady.nil
    go_simp
    try (refine hK _ _ ?_; clear hK K)
    refine wpAny_take (i := 11) (v := ?_) rfl (by kernel_rfl) (by kernel_rfl) (by kernel_rfl) (fun _ _ _ h => h) (Or.inl ⟨by rfl, ?_⟩) ?_
    rotate_left
    · intro w; go_simp; try (with_reducible rfl)
    refine wpAny_ready (rs := [12, 13]) (by kernel_rfl) (by simp) ?_
    refine AllReady.cons rfl (fun K hK => ?_) ?_
    · go_simp
      try (refine hK _ _ ?_; clear hK K)
      refine wpAny_ready (rs := [13]) (by kernel_rfl) (by simp) ?_
      refine AllReady.cons rfl (fun K hK => ?_) AllReady.nil
      go_simp
      go_wp2_with (go_at_call 9; obtain ⟨v7, hF7⟩ := kF.out w6 hB6; refine (hF7).mono ?_; clear hF7; rintro ev w7 ⟨rfl, hB7, hc8⟩; have hc7 := kC.out w7 hB7)
      try (refine hK _ _ ?_; clear hK K)
      refine wpAny_ready (rs := [14]) (by kernel_rfl) (by simp) ?_
      refine AllReady.cons rfl (fun K hK => ?_) AllReady.nil
      go_simp
      try (refine hK _ _ ?_; clear hK K)
      refine wpAny_ready (rs := [15]) (by kernel_rfl) (by simp) ?_
      refine AllReady.cons rfl (fun K hK => ?_) AllReady.nil
      go_simp
      try (refine hK _ _ ?_; clear hK K)
      refine wpAny_ready (rs := [16]) (by kernel_rfl) (by simp) ?_
      refine AllReady.cons rfl (fun K hK => ?_) AllReady.nil
      go_simp
      try (refine hK _ _ ?_; clear hK K)
      refine wpAny_ready (rs := [17]) (by kernel_rfl) (by simp) ?_
      refine AllReady.cons rfl (fun K hK => ?_) AllReady.nil
      go_simp
      try (refine hK _ _ ?_; clear hK K)
      refine wpAny_ready (rs := [18]) (by kernel_rfl) (by simp) ?_
      refine AllReady.cons rfl (fun K hK => ?_) AllReady.nil
      go_simp
      try (refine hK _ _ ?_; clear hK K)
      refine wpAny_ready (rs := [19]) (by kernel_rfl) (by simp) ?_
      refine AllReady.cons rfl (fun K hK => ?_) AllReady.nil
      go_simp
      go_wp2_with (go_at_call 12; refine (kW.out w7 hB7).mono ?_; rintro ev w8 ⟨rfl, hB8⟩)
      try (refine hK _ _ ?_; clear hK K)
      refine wpAny_ready (rs := [20]) (by kernel_rfl) (by simp) ?_
      refine AllReady.cons rfl (fun K hK => ?_) AllReady.nil
      go_simp
      try (refine hK _ _ ?_; clear hK K)
      refine wpAny_ready (rs := [21]) (by kernel_rfl) (by simp) ?_
      refine AllReady.cons rfl (fun K hK => ?_) AllReady.nil
      go_simp
      try (refine hK _ _ ?_; clear hK K)
      refine wpAny_ready (rs := [22]) (by kernel_rfl) (by simp) ?_
      refine AllReady.cons rfl (fun K hK => ?_) AllReady.nil
      go_simp
      try (refine hK _ _ ?_; clear hK K)
      refine wpAny_ready (rs := [23]) (by kernel_rfl) (by simp) ?_
      refine AllReady.cons rfl (fun K hK => ?_) AllReady.nil
      go_simp
      try (refine hK _ _ ?_; clear hK K)
      refine wpAny_ready (rs := [24]) (by kernel_rfl) (by simp) ?_
      refine AllReady.cons rfl (fun K hK => ?_) AllReady.nil
      go_simp
      go_wp2_with (go_at_call 22; refine (kB.out w8 hB8).mono ?_; rintro ev w9 ⟨rfl, hB9⟩)
      try (refine hK _ _ ?_; clear hK K)
      refine wpAny_ready (rs := [25]) (by kernel_rfl) (by simp) ?_
      refine AllReady.cons rfl (fun K hK => ?_) AllReady.nil
      go_simp
      try (refine hK _ _ ?_; clear hK K)
      refine wpAny_ready (rs := [26]) (by kernel_rfl) (by simp) ?_
      refine AllReady.cons rfl (fun K hK => ?_) AllReady.nil
      go_simp
      try (refine hK _ _ ?_; clear hK K)
      refine wpAny_ready (rs := [27]) (by kernel_rfl) (by simp) ?_
      refine AllReady.cons rfl (fun K hK => ?_) AllReady.nil
      go_simp
      try (refine hK _ _ ?_; clear hK K)
      refine wpAny_done (by kernel_rfl) ?_ _
      go_wp2_with fail
      go_meet
      case rel => exact ⟨rfl, hB9⟩
    refine AllReady.cons rfl (fun K hK => ?_) ?_
    · go_simp
      go_wp2_with (go_at_call 9; obtain ⟨v7, hF7⟩ := kF.out w6 hB6; refine (hF7).mono ?_; clear hF7; rintro ev w7 ⟨rfl, hB7, hc8⟩; have hc7 := kC.out w7 hB7)
      try (refine hK _ _ ?_; clear hK K)
      refine wpAny_ready (rs := [12, 14]) (by kernel_rfl) (by simp) ?_
      refine AllReady.cons rfl (fun K hK => ?_) ?_
      · go_simp
        try (refine hK _ _ ?_; clear hK K)
        refine wpAny_ready (rs := [14]) (by kernel_rfl) (by simp) ?_
        refine AllReady.cons rfl (fun K hK => ?_) AllReady.nil
        go_simp
        try (refine hK _ _ ?_; clear hK K)
        refine wpAny_ready (rs := [15]) (by kernel_rfl) (by simp) ?_
        refine AllReady.cons rfl (fun K hK => ?_) AllReady.nil
        go_simp
        try (refine hK _ _ ?_; clear hK K)
        refine wpAny_ready (rs := [16]) (by kernel_rfl) (by simp) ?_
        refine AllReady.cons rfl (fun K hK => ?_) AllReady.nil
        go_simp
        try (refine hK _ _ ?_; clear hK K)
        refine wpAny_ready (rs := [17]) (by kernel_rfl) (by simp) ?_
        refine AllReady.cons rfl (fun K hK => ?_) AllReady.nil
        go_simp
        try (refine hK _ _ ?_; clear hK K)
        refine wpAny_ready (rs := [18]) (by kernel_rfl) (by simp) ?_
        refine AllReady.cons rfl (fun K hK => ?_) AllReady.nil
        go_simp
        try (refine hK _ _ ?_; clear hK K)
        refine wpAny_ready (rs := [19]) (by kernel_rfl) (by simp) ?_
        refine AllReady.cons rfl (fun K hK => ?_) AllReady.nil
        go_simp
        go_wp2_with (go_at_call 12; refine (kW.out w7 hB7).mono ?_; rintro ev w8 ⟨rfl, hB8⟩)
        try (refine hK _ _ ?_; clear hK K)
        refine wpAny_ready (rs := [20]) (by kernel_rfl) (by simp) ?_
        refine AllReady.cons rfl (fun K hK => ?_) AllReady.nil
        go_simp
        try (refine hK _ _ ?_; clear hK K)
        refine wpAny_ready (rs := [21]) (by kernel_rfl) (by simp) ?_
        refine AllReady.cons rfl (fun K hK => ?_) AllReady.nil
        go_simp
        try (refine hK _ _ ?_; clear hK K)
        refine wpAny_ready (rs := [22]) (by kernel_rfl) (by simp) ?_
        refine AllReady.cons rfl (fun K hK => ?_) AllReady.nil
        go_simp
        try (refine hK _ _ ?_; clear hK K)
        refine wpAny_ready (rs := [23]) (by kernel_rfl) (by simp) ?_
        refine AllReady.cons rfl (fun K hK => ?_) AllReady.nil
        go_simp
        try (refine hK _ _ ?_; clear hK K)
        refine wpAny_ready (rs := [24]) (by kernel_rfl) (by simp) ?_
        refine AllReady.cons rfl (fun K hK => ?_) AllReady.nil
        go_simp
        go_wp2_with (go_at_call 22; refine (kB.out w8 hB8).mono ?_; rintro ev w9 ⟨rfl, hB9⟩)
        try (refine hK _ _ ?_; clear hK K)
        refine wpAny_ready (rs := [25]) (by kernel_rfl) (by simp) ?_
        refine AllReady.cons rfl (fun K hK => ?_) AllReady.nil
        go_simp
        try (refine hK _ _ ?_; clear hK K)
        refine wpAny_ready (rs := [26]) (by kernel_rfl) (by simp) ?_
        refine AllReady.cons rfl (fun K hK => ?_) AllReady.nil
        go_simp
        try (refine hK _ _ ?_; clear hK K)
        refine wpAny_ready (rs := [27]) (by kernel_rfl) (by simp) ?_
        refine AllReady.cons rfl (fun K hK => ?_) AllReady.nil
        go_simp
        try (refine hK _ _ ?_; clear hK K)
        refine wpAny_done (by kernel_rfl) ?_ _
        go_wp2_with fail
        go_meet
        case rel => exact ⟨rfl, hB9⟩
      refine AllReady.cons rfl (fun K hK => ?_) ?_
      · go_simp
        try (refine hK _ _ ?_; clear hK K)
        refine wpAny_ready (rs := [12]) (by kernel_rfl) (by simp) ?_
        refine AllReady.cons rfl (fun K hK => ?_) AllReady.nil
        go_simp
        try (refine hK _ _ ?_; clear hK K)
        refine wpAny_ready (rs := [15]) (by kernel_rfl) (by simp) ?_
        refine AllReady.cons rfl (fun K hK => ?_) AllReady.nil
        go_simp
        try (refine hK _ _ ?_; clear hK K)
        refine wpAny_ready (rs := [16]) (by kernel_rfl) (by simp) ?_
        refine AllReady.cons rfl (fun K hK => ?_) AllReady.nil
        go_simp
        try (refine hK _ _ ?_; clear hK K)
        refine wpAny_ready (rs := [17]) (by kernel_rfl) (by simp) ?_
        refine AllReady.cons rfl (fun K hK => ?_) AllReady.nil
        go_simp
        try (refine hK _ _ ?_; clear hK K)
        refine wpAny_ready (rs := [18]) (by kernel_rfl) (by simp) ?_
        refine AllReady.cons rfl (fun K hK => ?_) AllReady.nil
        go_simp
        try (refine hK _ _ ?_; clear hK K)
        refine wpAny_ready (rs := [19]) (by kernel_rfl) (by simp) ?_
        refine AllReady.cons rfl (fun K hK => ?_) AllReady.nil
        go_simp
        go_wp2_with (go_at_call 12; refine (kW.out w7 hB7).mono ?_; rintro ev w8 ⟨rfl, hB8⟩)
        try (refine hK _ _ ?_; clear hK K)
        refine wpAny_ready (rs := [20]) (by kernel_rfl) (by simp) ?_
        refine AllReady.cons rfl (fun K hK => ?_) AllReady.nil
        go_simp
        try (refine hK _ _ ?_; clear hK K)
        refine wpAny_ready (rs := [21]) (by kernel_rfl) (by simp) ?_
        refine AllReady.cons rfl (fun K hK => ?_) AllReady.nil
        go_simp
        try (refine hK _ _ ?_; clear hK K)
        refine wpAny_ready (rs := [22]) (by kernel_rfl) (by simp) ?_
        refine AllReady.cons rfl (fun K hK => ?_) AllReady.nil
        go_simp
        try (refine hK _ _ ?_; clear hK K)
        refine wpAny_ready (rs := [23]) (by kernel_rfl) (by simp) ?_
        refine AllReady.cons rfl (fun K hK => ?_) AllReady.nil
        go_simp
        try (refine hK _ _ ?_; clear hK K)
        refine wpAny_ready (rs := [24]) (by kernel_rfl) (by simp) ?_
        refine AllReady.cons rfl (fun K hK => ?_) AllReady.nil
        go_simp
        go_wp2_with (go_at_call 22; refine (kB.out w8 hB8).mono ?_; rintro ev w9 ⟨rfl, hB9⟩)
        try (refine hK _ _ ?_; clear hK K)
        refine wpAny_ready (rs := [25]) (by kernel_rfl) (by simp) ?_
        refine AllReady.cons rfl (fun K hK => ?_) AllReady.nil
        go_simp
        try (refine hK _ _ ?_; clear hK K)
        refine wpAny_ready (rs := [26]) (by kernel_rfl) (by simp) ?_
        refine AllReady.cons rfl (fun K hK => ?_) AllReady.nil
        go_simp
        try (refine hK _ _ ?_; clear hK K)
        refine wpAny_ready (rs := [27]) (by kernel_rfl) (by simp) ?_
        refine AllReady.cons rfl (fun K hK => ?_) AllReady.nil
        go_simp
        try (refine hK _ _ ?_; clear hK K)
        refine wpAny_done (by kernel_rfl) ?_ _
        go_wp2_with fail
        go_meet
        case rel => exact ⟨rfl, hB9⟩
      exact AllReady.nil
    exact AllReady.nil
  case rest =>
    obtain ⟨rfl, hBc⟩ := hcut
    go_wp2
    go_ret
    exact ⟨rfl, hB0.out.trans (hBc.mono hB0.out.size)⟩
end Go.Proofs.YtahehgbibmmaeaaDoor
