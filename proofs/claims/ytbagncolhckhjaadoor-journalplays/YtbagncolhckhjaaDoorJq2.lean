/- What layer 4's statements call awake: the document's own example holds. -/
import Derived.Test.YtbagncolhckhjaaDoorJq1
namespace Go.Proofs.YtbagncolhckhjaaDoor
open Go.RowKit Go.Extern.Stop Go.Stop Go.Extern
set_option maxRecDepth 100000

theorem good_one (N at_ own no : Nat) (zs : List Int) (h1 : no < N) (h2 : zs.length = 128) (h3 : ∀ z ∈ zs, 0 ≤ z ∧ z ≤ 255) (h4 : no < at_ ∨ at_ + own ≤ no) : Good N at_ own [(no, zs)] := by
  have e : ∀ k, k < ([(no, zs)] : Grp).length → k = 0 := fun k hk => by simpa using hk
  refine ⟨by simp, fun k hk => ?_, fun k hk => ?_, fun k hk => ?_, fun k hk => ?_, fun k j hk hj => ?_⟩
  · obtain rfl := e k hk; exact h1
  · obtain rfl := e k hk; exact h2
  · obtain rfl := e k hk; exact h3
  · obtain rfl := e k hk; exact h4
  · have := e k hk; omega
theorem idle_zero (at_ : Nat) : Idle at_ (fun _ => 0) := by
  show blockL (fun _ => 0) at_ = List.replicate 128 0
  apply List.ext_getElem?
  intro j
  by_cases hj : j < 128
  · rw [blockL_get _ _ _ hj, List.getElem?_replicate, if_pos hj]
  · rw [List.getElem?_eq_none (by rw [blockL_len]; omega), List.getElem?_replicate, if_neg hj]
set_option maxHeartbeats 2000000 in
theorem jawake_calls (w : World) (hG : Ground w) :
    Calls Tryd.prog 15 #[] w fun ev w' => ev = .returned (.bool true) ∧ Below w.heap.size w w' := by
  go_enter Tryd.func15, Tryd.ntmps15
  go_wp2_with fail
  refine (sys_new 40 (by omega) (by omega) w hG).mono ?_
  rintro ev w1 ⟨rfl, hS⟩
  have hO := hidden (open_idle hS (by decide) 0 8 ⟨by omega, by omega⟩ (by decide) (idle_zero 0))
  have hb1 := hS.below.size
  have hdl1 := hS.disk.lt
  replace hS := hidden hS
  go_wp2_with fail
  refine (hO.out).mono ?_
  rintro ev w2 ⟨jb, rfl, hJ, hjb, hB2⟩
  have hS2 := hS.out.more hB2
  have hb2 := hB2.size
  clear hO hS
  replace hS2 := hidden hS2
  replace hJ := hidden hJ
  replace hB2 := hidden hB2
  have hF := hidden (fill_calls 5 w2)
  go_wp2_with fail
  refine (hF.out).mono ?_
  rintro ev w3 ⟨rfl, hw3⟩
  have hD := fill_data w2.heap.size w2 (Nat.le_refl _) 30 5
  rw [← hw3] at hD
  have hB3 : Below w2.heap.size w2 w3 := by rw [hw3]; exact (Below.refl _ _).alloc (Nat.le_refl _) _
  have hGo := GOwn.lit w2.heap.size w3 hB3.size _ hD
  have hB4 : Below w3.heap.size w3 (w3.alloc (.cells #[.int .i64 30, .slice (some ⟨w2.heap.size, 0, none⟩) 128 128] 35)) := (Below.refl _ _).alloc (Nat.le_refl _) _
  have hB24 := hB3.trans (hB4.mono hB3.size)
  have hC := hidden (commit_good (hS2.out.more hB24) (by decide) (by decide) jb 0 8 ⟨by omega, by omega⟩ (hJ.out.below hB24) ⟨by omega, by omega⟩ (by decide) (idle_zero 0) [(30, fillL 5)] (by decide) (by decide) (good_one _ _ _ _ _ (by decide) (fillL_len 5) (fillL_range 5) (by decide)) _ (hGo.off (by simp) (by omega) (by omega)))
  clear hw3 hGo hB4 hD hF
  replace hB24 := hidden hB24
  clear hB3
  go_wp2_with fail
  refine (hC.out).mono ?_
  rintro ev w5 ⟨r, rfl, hDn⟩
  rcases hDn.out with ⟨rfl, left', hS5, -, hl5⟩ | ⟨_, _, _, _, _, _, _, _, hne⟩
  rotate_left
  · exact absurd rfl hne
  rw [hl5 rfl] at hS5
  have hA5 := hDn.apart
  have hm := (all_all (mem := fun _ => 0) (good_one 40 0 11 30 (fillL 5) (by decide) (fillL_len 5) (fillL_range 5) (by decide)) (by decide)).2.2 _ (List.mem_singleton.2 rfl)
  generalize laid (allWs 0 [(30, fillL 5)]) (fun _ => 0) = mem5 at hS5 hm
  have hJ5 := (hJ.out.below hB24.out).keep hA5 (by simp; omega)
  have hR := hidden (jread_calls hS5 (by decide) jb 0 8 hJ5 30 (by omega))
  rw [show blockL mem5 30 = fillL 5 from hm] at hR
  clear hDn hC hl5 hA5 hm
  replace hS5 := hidden hS5
  replace hJ5 := hidden hJ5
  go_wp2_with fail
  refine (hR.out).mono ?_
  rintro ev w6 ⟨v6, rfl, hb6, hB6⟩
  obtain ⟨A3, Z3, hZ, hF⟩ := fill_op 5
  rw [← hZ] at hb6
  clear hZ hR
  have hJ6 := hJ5.out.below hB6
  have kC : ∀ w1, Below w6.heap.size w6 w1 → (convert 32 9 v6).run Tryd.prog w1 = .ok (.string (ofBytes Z3)) w1 := fun w1 h1 => conv_bytes w1 _ _ (hb6.below h1)
  have kF : ∀ w1, Below w6.heap.size w6 w1 → ∃ v, Calls Tryd.prog 10 #[.int .i64 5] w1 fun ev w' => ev = .returned v ∧ Below w6.heap.size w6 w' ∧ (convert 32 9 v).run Tryd.prog w' = .ok (.string (ofBytes Z3)) w' := fun w1 h1 => by
    obtain ⟨v, hv, hc⟩ := hF.out w1
    exact ⟨v, hc.mono fun _ w' ⟨h2, h3⟩ => ⟨h2, by rw [h3]; exact h1.alloc h1.size _, by rw [h3]; exact conv_bytes _ _ _ hv⟩⟩
  have kM : ∀ w1, Below w6.heap.size w6 w1 → Calls Tryd.prog 16 #[ptr jb] w1 fun ev w' => ev = .returned (.int .i64 8) ∧ Below w6.heap.size w6 w' := fun w1 h1 => (most_calls jb 0 8 (hJ6.below h1)).mono fun _ _ h => ⟨h.1, by rw [h.2]; exact h1⟩
  have kN : ∀ w1, Below w6.heap.size w6 w1 → Calls Tryd.prog 18 #[.int .i64 8] w1 fun ev w' => ev = .returned (.int .i64 11) ∧ Below w6.heap.size w6 w' := fun w1 h1 => (need_calls 8 (by omega) (by omega) w1).mono fun _ _ h => ⟨h.1, by rw [h.2]; exact h1⟩
  have hS0 : Below w6.heap.size w6 w6.drew := (Below.refl _ _).drew
  have hB0 := hidden ((hS5.out.more hB6).below)
  have hc6 := kC _ hS0
  replace kC := hidden kC
  replace kF := hidden kF
  replace kM := hidden kM
  replace kN := hidden kN
  clear hG hb6 hF hJ6 hS5 hJ5 hB6 hB24 hJ hS2 hB2 hb1 hdl1 hjb hb2
  go_upto_region 9 with fail
  go_cut [0] (fun c wx => c = .bool true ∧ Below w6.heap.size w6 wx)
  case first =>
    clear hB0
    refine wp_region_any (by kernel_rfl) ?_
    try (change wpAny _ _ _ _ _ _ _ (World.drew _))
    refine wpAny_ready (rs := [0]) (by kernel_rfl) (by simp) ?_
    refine AllReady.cons rfl (fun K hK => ?_) AllReady.nil
    go_simp
    try (refine hK _ _ ?_; clear hK K)
    refine wpAny_ready (rs := [1]) (by kernel_rfl) (by simp) ?_
    refine AllReady.cons rfl (fun K hK => ?_) AllReady.nil
    go_simp
    try (refine hK _ _ ?_; clear hK K)
    refine wpAny_ready (rs := [2]) (by kernel_rfl) (by simp) ?_
    refine AllReady.cons rfl (fun K hK => ?_) AllReady.nil
    go_simp
    try (refine hK _ _ ?_; clear hK K)
    refine wpAny_ready (rs := [3]) (by kernel_rfl) (by simp) ?_
    refine AllReady.cons rfl (fun K hK => ?_) AllReady.nil
    go_simp
    try (refine hK _ _ ?_; clear hK K)
    refine wpAny_ready (rs := [4]) (by kernel_rfl) (by simp) ?_
    refine AllReady.cons rfl (fun K hK => ?_) AllReady.nil
    go_simp
    try (refine hK _ _ ?_; clear hK K)
    refine wpAny_ready (rs := [5]) (by kernel_rfl) (by simp) ?_
    refine AllReady.cons rfl (fun K hK => ?_) AllReady.nil
    go_simp
    try (refine hK _ _ ?_; clear hK K)
    refine wpAny_ready (rs := [6]) (by kernel_rfl) (by simp) ?_
    refine AllReady.cons rfl (fun K hK => ?_) AllReady.nil
    go_simp
    try (refine hK _ _ ?_; clear hK K)
    refine wpAny_take (i := 7) (v := ?_) rfl (by kernel_rfl) (by kernel_rfl) (by kernel_rfl) (fun _ _ _ h => h) (Or.inl ⟨by rfl, ?_⟩) ?_
    rotate_left
    · intro w; go_simp; try (with_reducible rfl)
    refine wpAny_ready (rs := [8, 9]) (by kernel_rfl) (by simp) ?_
    refine AllReady.cons rfl (fun K hK => ?_) ?_
    · go_simp
      try (refine hK _ _ ?_; clear hK K)
      refine wpAny_ready (rs := [9]) (by kernel_rfl) (by simp) ?_
      refine AllReady.cons rfl (fun K hK => ?_) AllReady.nil
      go_simp
      go_wp2_with (go_at_call 10; obtain ⟨v7, hF7⟩ := kF.out _ hS0; refine (hF7).mono ?_; clear hF7; rintro ev w7 ⟨rfl, hB7, hc8⟩; have hc7 := kC.out w7 hB7)
      try (refine hK _ _ ?_; clear hK K)
      refine wpAny_ready (rs := [10]) (by kernel_rfl) (by simp) ?_
      refine AllReady.cons rfl (fun K hK => ?_) AllReady.nil
      go_simp
      try (refine hK _ _ ?_; clear hK K)
      refine wpAny_ready (rs := [11]) (by kernel_rfl) (by simp) ?_
      refine AllReady.cons rfl (fun K hK => ?_) AllReady.nil
      go_simp
      try (refine hK _ _ ?_; clear hK K)
      refine wpAny_ready (rs := [12]) (by kernel_rfl) (by simp) ?_
      refine AllReady.cons rfl (fun K hK => ?_) AllReady.nil
      go_simp
      try (refine hK _ _ ?_; clear hK K)
      refine wpAny_ready (rs := [13]) (by kernel_rfl) (by simp) ?_
      refine AllReady.cons rfl (fun K hK => ?_) AllReady.nil
      go_simp
      try (refine hK _ _ ?_; clear hK K)
      refine wpAny_ready (rs := [14]) (by kernel_rfl) (by simp) ?_
      refine AllReady.cons rfl (fun K hK => ?_) AllReady.nil
      go_simp
      try (refine hK _ _ ?_; clear hK K)
      refine wpAny_ready (rs := [15]) (by kernel_rfl) (by simp) ?_
      refine AllReady.cons rfl (fun K hK => ?_) AllReady.nil
      go_simp
      go_wp2_with (go_at_call 16; refine (kM.out w7 hB7).mono ?_; rintro ev w8 ⟨rfl, hB8⟩)
      try (refine hK _ _ ?_; clear hK K)
      refine wpAny_ready (rs := [16]) (by kernel_rfl) (by simp) ?_
      refine AllReady.cons rfl (fun K hK => ?_) AllReady.nil
      go_simp
      try (refine hK _ _ ?_; clear hK K)
      refine wpAny_ready (rs := [17]) (by kernel_rfl) (by simp) ?_
      refine AllReady.cons rfl (fun K hK => ?_) AllReady.nil
      go_simp
      try (refine hK _ _ ?_; clear hK K)
      refine wpAny_ready (rs := [18]) (by kernel_rfl) (by simp) ?_
      refine AllReady.cons rfl (fun K hK => ?_) AllReady.nil
      go_simp
      try (refine hK _ _ ?_; clear hK K)
      refine wpAny_ready (rs := [19]) (by kernel_rfl) (by simp) ?_
      refine AllReady.cons rfl (fun K hK => ?_) AllReady.nil
      go_simp
      go_wp2_with (go_at_call 18; refine (kN.out w8 hB8).mono ?_; rintro ev w9 ⟨rfl, hB9⟩)
      try (refine hK _ _ ?_; clear hK K)
      refine wpAny_ready (rs := [20]) (by kernel_rfl) (by simp) ?_
      refine AllReady.cons rfl (fun K hK => ?_) AllReady.nil
      go_simp
      try (refine hK _ _ ?_; clear hK K)
      refine wpAny_ready (rs := [21]) (by kernel_rfl) (by simp) ?_
      refine AllReady.cons rfl (fun K hK => ?_) AllReady.nil
      go_simp
      try (refine hK _ _ ?_; clear hK K)
      refine wpAny_ready (rs := [22]) (by kernel_rfl) (by simp) ?_
      refine AllReady.cons rfl (fun K hK => ?_) AllReady.nil
      go_simp
      try (refine hK _ _ ?_; clear hK K)
      refine wpAny_done (by kernel_rfl) ?_ _
      go_wp2_with fail
      go_meet
      case rel => exact ⟨rfl, hB9⟩
    refine AllReady.cons rfl (fun K hK => ?_) ?_
    · go_simp
      go_wp2_with (go_at_call 10; obtain ⟨v7, hF7⟩ := kF.out _ hS0; refine (hF7).mono ?_; clear hF7; rintro ev w7 ⟨rfl, hB7, hc8⟩; have hc7 := kC.out w7 hB7)
      try (refine hK _ _ ?_; clear hK K)
      refine wpAny_ready (rs := [8, 10]) (by kernel_rfl) (by simp) ?_
      refine AllReady.cons rfl (fun K hK => ?_) ?_
      · go_simp
        try (refine hK _ _ ?_; clear hK K)
        refine wpAny_ready (rs := [10]) (by kernel_rfl) (by simp) ?_
        refine AllReady.cons rfl (fun K hK => ?_) AllReady.nil
        go_simp
        try (refine hK _ _ ?_; clear hK K)
        refine wpAny_ready (rs := [11]) (by kernel_rfl) (by simp) ?_
        refine AllReady.cons rfl (fun K hK => ?_) AllReady.nil
        go_simp
        try (refine hK _ _ ?_; clear hK K)
        refine wpAny_ready (rs := [12]) (by kernel_rfl) (by simp) ?_
        refine AllReady.cons rfl (fun K hK => ?_) AllReady.nil
        go_simp
        try (refine hK _ _ ?_; clear hK K)
        refine wpAny_ready (rs := [13]) (by kernel_rfl) (by simp) ?_
        refine AllReady.cons rfl (fun K hK => ?_) AllReady.nil
        go_simp
        try (refine hK _ _ ?_; clear hK K)
        refine wpAny_ready (rs := [14]) (by kernel_rfl) (by simp) ?_
        refine AllReady.cons rfl (fun K hK => ?_) AllReady.nil
        go_simp
        try (refine hK _ _ ?_; clear hK K)
        refine wpAny_ready (rs := [15]) (by kernel_rfl) (by simp) ?_
        refine AllReady.cons rfl (fun K hK => ?_) AllReady.nil
        go_simp
        go_wp2_with (go_at_call 16; refine (kM.out w7 hB7).mono ?_; rintro ev w8 ⟨rfl, hB8⟩)
        try (refine hK _ _ ?_; clear hK K)
        refine wpAny_ready (rs := [16]) (by kernel_rfl) (by simp) ?_
        refine AllReady.cons rfl (fun K hK => ?_) AllReady.nil
        go_simp
        try (refine hK _ _ ?_; clear hK K)
        refine wpAny_ready (rs := [17]) (by kernel_rfl) (by simp) ?_
        refine AllReady.cons rfl (fun K hK => ?_) AllReady.nil
        go_simp
        try (refine hK _ _ ?_; clear hK K)
        refine wpAny_ready (rs := [18]) (by kernel_rfl) (by simp) ?_
        refine AllReady.cons rfl (fun K hK => ?_) AllReady.nil
        go_simp
        try (refine hK _ _ ?_; clear hK K)
        refine wpAny_ready (rs := [19]) (by kernel_rfl) (by simp) ?_
        refine AllReady.cons rfl (fun K hK => ?_) AllReady.nil
        go_simp
        go_wp2_with (go_at_call 18; refine (kN.out w8 hB8).mono ?_; rintro ev w9 ⟨rfl, hB9⟩)
        try (refine hK _ _ ?_; clear hK K)
        refine wpAny_ready (rs := [20]) (by kernel_rfl) (by simp) ?_
        refine AllReady.cons rfl (fun K hK => ?_) AllReady.nil
        go_simp
        try (refine hK _ _ ?_; clear hK K)
        refine wpAny_ready (rs := [21]) (by kernel_rfl) (by simp) ?_
        refine AllReady.cons rfl (fun K hK => ?_) AllReady.nil
        go_simp
        try (refine hK _ _ ?_; clear hK K)
        refine wpAny_ready (rs := [22]) (by kernel_rfl) (by simp) ?_
        refine AllReady.cons rfl (fun K hK => ?_) AllReady.nil
        go_simp
        try (refine hK _ _ ?_; clear hK K)
        refine wpAny_done (by kernel_rfl) ?_ _
        go_wp2_with fail
        go_meet
        case rel => exact ⟨rfl, hB9⟩
      refine AllReady.cons rfl (fun K hK => ?_) ?_
      · go_simp
        try (refine hK _ _ ?_; clear hK K)
        refine wpAny_ready (rs := [8]) (by kernel_rfl) (by simp) ?_
        refine AllReady.cons rfl (fun K hK => ?_) AllReady.nil
        go_simp
        try (refine hK _ _ ?_; clear hK K)
        refine wpAny_ready (rs := [11]) (by kernel_rfl) (by simp) ?_
        refine AllReady.cons rfl (fun K hK => ?_) AllReady.nil
        go_simp
        try (refine hK _ _ ?_; clear hK K)
        refine wpAny_ready (rs := [12]) (by kernel_rfl) (by simp) ?_
        refine AllReady.cons rfl (fun K hK => ?_) AllReady.nil
        go_simp
        try (refine hK _ _ ?_; clear hK K)
        refine wpAny_ready (rs := [13]) (by kernel_rfl) (by simp) ?_
        refine AllReady.cons rfl (fun K hK => ?_) AllReady.nil
        go_simp
        try (refine hK _ _ ?_; clear hK K)
        refine wpAny_ready (rs := [14]) (by kernel_rfl) (by simp) ?_
        refine AllReady.cons rfl (fun K hK => ?_) AllReady.nil
        go_simp
        try (refine hK _ _ ?_; clear hK K)
        refine wpAny_ready (rs := [15]) (by kernel_rfl) (by simp) ?_
        refine AllReady.cons rfl (fun K hK => ?_) AllReady.nil
        go_simp
        go_wp2_with (go_at_call 16; refine (kM.out w7 hB7).mono ?_; rintro ev w8 ⟨rfl, hB8⟩)
        try (refine hK _ _ ?_; clear hK K)
        refine wpAny_ready (rs := [16]) (by kernel_rfl) (by simp) ?_
        refine AllReady.cons rfl (fun K hK => ?_) AllReady.nil
        go_simp
        try (refine hK _ _ ?_; clear hK K)
        refine wpAny_ready (rs := [17]) (by kernel_rfl) (by simp) ?_
        refine AllReady.cons rfl (fun K hK => ?_) AllReady.nil
        go_simp
        try (refine hK _ _ ?_; clear hK K)
        refine wpAny_ready (rs := [18]) (by kernel_rfl) (by simp) ?_
        refine AllReady.cons rfl (fun K hK => ?_) AllReady.nil
        go_simp
        try (refine hK _ _ ?_; clear hK K)
        refine wpAny_ready (rs := [19]) (by kernel_rfl) (by simp) ?_
        refine AllReady.cons rfl (fun K hK => ?_) AllReady.nil
        go_simp
        go_wp2_with (go_at_call 18; refine (kN.out w8 hB8).mono ?_; rintro ev w9 ⟨rfl, hB9⟩)
        try (refine hK _ _ ?_; clear hK K)
        refine wpAny_ready (rs := [20]) (by kernel_rfl) (by simp) ?_
        refine AllReady.cons rfl (fun K hK => ?_) AllReady.nil
        go_simp
        try (refine hK _ _ ?_; clear hK K)
        refine wpAny_ready (rs := [21]) (by kernel_rfl) (by simp) ?_
        refine AllReady.cons rfl (fun K hK => ?_) AllReady.nil
        go_simp
        try (refine hK _ _ ?_; clear hK K)
        refine wpAny_ready (rs := [22]) (by kernel_rfl) (by simp) ?_
        refine AllReady.cons rfl (fun K hK => ?_) AllReady.nil
        go_simp
        try (refine hK _ _ ?_; clear hK K)
        refine wpAny_done (by kernel_rfl) ?_ _
        go_wp2_with fail
        go_meet
        case rel => exact ⟨rfl, hB9⟩
      exact AllReady.nil
    exact AllReady.nil
  case rest =>
    obtain ⟨rfl, hBc⟩ := hcut
    go_wp2
    go_ret
    exact ⟨rfl, hB0.out.trans (hBc.mono hB0.out.size)⟩
end Go.Proofs.YtbagncolhckhjaaDoor
