/- settle. -/
import Derived.Test.YtpofmiecjkghgaaGreatDoorGVap
import Derived.Deep.RegionHeld3
namespace Go.Proofs.YtpofmiecjkghgaaGreatDoor
open Go.RowKit Go.Extern.Stop Go.Stop Go.Extern Go.Maps Go.Sort Go.Shelf
set_option maxRecDepth 100000
set_option maxHeartbeats 12000000
theorem layL_full {old zs : List Int} (ho : old.length = 128) (hz : zs.length = 128) : layL old 0 zs = zs := by
  unfold layL
  rw [List.take_zero, List.nil_append, Nat.zero_add, hz, List.drop_of_length_le (by omega), List.append_nil]
def IntsC (m : Nat) (w : World) (v : Value) (ks : List Int) : Prop := ∀ wx, Apart [m] w wx -> IntsAt wx v ks
theorem IntsC.keep {m : Nat} {w w' : World} {v : Value} {ks : List Int} (h : IntsC m w v ks) (ha : Apart [m] w w') : IntsC m w' v ks := fun wx hx => h wx (ha.trans hx)
theorem IntsC.below {m : Nat} {w w' : World} {v : Value} {ks : List Int} (h : IntsC m w v ks) (hb : Below w.heap.size w w') : IntsC m w' v ks := h.keep (Apart.of_below hb)
theorem IntsC.at {m : Nat} {w : World} {v : Value} {ks : List Int} (h : IntsC m w v ks) : IntsAt w v ks := h w (Apart.refl _ _)
theorem Kept.toC {base m : Nat} {w : World} {v : Value} {ks : List Int} (h : Kept base w v ks) (hm : m < base) : IntsC m w v ks := fun _ hx => (h.keep hx (by simpa using hm)).ints
section
variable {E : TE} {mem : Nat -> Int} {writes : Int} {M : Chg} {w w' : World}
theorem isettle_same (tb : Nat) (id K0 K S : Int) (v0 v : Value) :
    Calls Tryz.prog 223 #[ptr tb, .int .i64 id, nodeV K0 S v0, nodeV K S v] w fun e w' => e = .returned .nilIface /\ Below w.heap.size w w' := by
  go_enter Tryz.func223, Tryz.ntmps223
  go_wp2
  go_ret
  exact ⟨rfl, ((Below.refl _ _).alloc (Nat.le_refl _) _).alloc (by simp) _⟩
def Settled (mem : Nat -> Int) (M M' : Chg) (rec : Nat) (K S : Nat) (ks : List Int) (L0 : Nat) : Prop :=
  ∀ no, nowM mem M' no = if no = rec then recL K S ks else if 9 < ks.length /\ ks.length ≠ L0 /\ no = (ks.getD 8 0).toNat then restL ks else nowM mem M no
theorem isettle_short {w : World} (REC : Nat) (id : Nat) (K0 S0 : Int) (K S L0 : Nat) (a0 : Option Addr) (c0 : Nat) {av : Option Addr} {cv KL : Nat} (RC_ RS_ : List Int) (z8 : Int) (hS : ¬ S0 = (S : Int)) (h : E.St mem writes M w)
    (kHm : ∀ wx Mx, E.St mem writes Mx wx -> Calls Tryz.prog 171 #[ptr E.tb, .int .i64 id] wx fun e w' => e = .returned (.int .i64 (REC : Nat)) /\ w' = wx)
    (kWr : ∀ wx, Apart [E.mb] w wx -> Calls Tryz.prog 172 #[nodeV K S (.slice av KL cv)] wx fun e w' => ∃ b, e = .returned (.slice (some ⟨b, 0, none⟩) 128 128) /\ OwnB wx.heap.size w' b 128 128 RC_ /\ Below wx.heap.size wx w')
    (kC1 : ∀ wx Mx, E.St mem writes Mx wx -> ∀ b base, OwnB base wx b 128 128 RC_ -> Calls Tryz.prog 170 #[ptr E.cb, .int .i64 (REC : Nat), .int .i64 0, .slice (some ⟨b, 0, none⟩) 128 128] wx fun e w' => e = .returned .nilIface /\ ∃ M', E.St mem writes M' w' /\ Apart [E.mb] wx w' /\ ∀ j, nowM mem M' j = if j = REC then RC_ else nowM mem Mx j) (htm : E.tb ≠ E.mb) (hb : ¬ (9 < KL /\ ¬ KL = L0)) :
    Calls Tryz.prog 223 #[ptr E.tb, .int .i64 id, nodeV K0 S0 (.slice a0 L0 c0), nodeV K S (.slice av KL cv)] w fun e w' => e = .returned .nilIface /\ ∃ M', (∀ no, nowM mem M' no = if no = REC then RC_ else if 9 < KL /\ KL ≠ L0 /\ no = z8.toNat then RS_ else nowM mem M no) /\ E.St mem writes M' w' /\ Apart [E.mb] w w' := by
  have hmb : E.mb < w.heap.size := h.lts.2.2.2.2.1
  have hlt : E.tb < w.heap.size := h.t.lt
  obtain ⟨wa, hwa, hBa, hNw, hNn, hsa⟩ : ∃ wa, (w.alloc (.cells #[.int .i64 K0, .int .i64 S0, .slice a0 L0 c0] 151)).alloc (.cells #[.int .i64 K, .int .i64 S, .slice av KL cv] 151) = wa /\ Below w.heap.size w wa /\ NdAt wa w.heap.size K0 S0 (.slice a0 L0 c0) /\ NdAt wa (w.heap.size + 1) K S (.slice av KL cv) /\ wa.heap.size = w.heap.size + 2 :=
    ⟨_, rfl, ((Below.refl _ _).alloc (Nat.le_refl _) _).alloc (by simp) _, ⟨by simp, by simp, by simp⟩, ⟨by simp, by simp, by simp⟩, by simp⟩
  have hS1 := hidden (h.more hBa)
  have w1c := hNw.c1
  have w2c := hNw.c2
  have n1 := hNn.c1
  have n2 := hNn.c2
  have n0 := hNn.c0
  have hA01 := hidden (Apart.of_below (bs := [E.mb]) hBa)
  have kt0 := hidden (fun (wx : World) (hx : Apart [E.mb] w wx) => (hx.cell (p := ⟨E.tb, 0, none⟩) hlt (by simpa using htm)).trans h.t.c0)
  have kN := hidden (fun (wx : World) (hx : Apart [E.mb] wa wx) => hNn.keep hx (by simp; omega))
  replace kHm := hidden kHm
  replace kWr := hidden kWr
  replace kC1 := hidden kC1
  have tc0 := kt0.out _ hA01.out
  clear hNw hBa h
  have kNd := hidden (fun (wx : World) (hx : Apart [E.mb] wa wx) => show wx.cell? ⟨w.heap.size + 1, 0, none⟩ = some (.int .i64 (K : Int)) /\ wx.cell? ⟨w.heap.size + 1, 1, none⟩ = some (.int .i64 (S : Int)) /\ wx.cell? ⟨w.heap.size + 1, 2, none⟩ = some (.slice av KL cv) from ⟨(kN.out wx hx).c0, (kN.out wx hx).c1, (kN.out wx hx).c2⟩)
  have hSd := hidden (hS1.out.more (below_drew1 wa))
  have hAda := hidden (Apart.of_below (bs := [E.mb]) (below_drew1 wa))
  have hAd := hidden (hA01.out.trans hAda.out)
  have hltb : E.tb < wa.heap.size := by omega
  have hEq : Hid (∀ no, (if no = REC then RC_ else nowM mem M no) = if no = REC then RC_ else if 9 < KL /\ KL ≠ L0 /\ no = z8.toNat then RS_ else nowM mem M no) := hidden (fun no => by
    by_cases e : no = REC
    · rw [if_pos e, if_pos e]
    · rw [if_neg e, if_neg e, if_neg (fun hh => hb ⟨hh.1, hh.2.1⟩)])
  clear hS1 hNn kN
  by_cases h9 : 9 < KL
  · have hKL : KL = L0 := by omega
    subst hKL
    clear hb
    go_enter Tryz.func223, Tryz.ntmps223
    go_upto_region 7 with fail
    have hS0 := And.intro hAd.out hAda.out
    refine wp_region_held_drew (S := fun w' => Apart [E.mb] w w' /\ Apart [E.mb] wa w') (by kernel_rfl) hS0 ?_
    intro _
    refine wpAnyH_take (i := 0) (v := ?_) rfl (by kernel_rfl) (by kernel_rfl) (by kernel_rfl) (fun _ _ _ h => h) (Or.inl ⟨by rfl, ?_⟩) hS0 ?_
    rotate_left
    · intro w hw; clear hw; go_simp; try (with_reducible rfl)
    refine wpAnyH_take (i := 1) (v := ?_) rfl (by kernel_rfl) (by kernel_rfl) (by kernel_rfl) (fun _ _ _ h => h) (Or.inl ⟨by rfl, ?_⟩) hS0 ?_
    rotate_left
    · intro w hw; clear hw; go_simp; try (with_reducible rfl)
    refine wpAnyH_take (i := 2) (v := ?_) rfl (by kernel_rfl) (by kernel_rfl) (by kernel_rfl) (fun _ _ _ h => h) (Or.inl ⟨by rfl, ?_⟩) hS0 ?_
    rotate_left
    · intro w hw; clear hw; go_simp; try (with_reducible rfl)
    refine wpAnyH_take (i := 3) (v := ?_) rfl (by kernel_rfl) (by kernel_rfl) (by kernel_rfl) (fun _ _ _ h => h) (Or.inl ⟨by rfl, ?_⟩) hS0 ?_
    rotate_left
    · intro w hw; have tcx := kt0.out _ hw.1; clear hw; go_simp; try (with_reducible rfl)
    refine wpAnyH_take (i := 4) (v := ?_) rfl (by kernel_rfl) (by kernel_rfl) (by kernel_rfl) (fun _ _ _ h => h) (Or.inl ⟨by rfl, ?_⟩) hS0 ?_
    rotate_left
    · intro w hw; clear hw; go_simp; try (with_reducible rfl)
    refine wpAnyH_take (i := 5) (v := ?_) rfl (by kernel_rfl) (by kernel_rfl) (by kernel_rfl) (fun _ _ _ h => h) (Or.inl ⟨by rfl, ?_⟩) hS0 ?_
    rotate_left
    · intro w hw; clear hw; go_simp; try (with_reducible rfl)
    refine wpAnyH_take (i := 7) (v := ?_) rfl (by kernel_rfl) (by kernel_rfl) (by kernel_rfl) (fun _ _ _ h => h) (Or.inl ⟨by rfl, ?_⟩) hS0 ?_
    rotate_left
    · intro w hw; have x0 := kNd.out _ hw.2; have m0 := x0.1; have m1 := x0.2.1; have m2 := x0.2.2; clear x0; clear hw; go_simp; try (with_reducible rfl)
    refine wpAnyH_ready (rs := [6]) (by kernel_rfl) (by simp) ?_
    refine AllReadyH.cons rfl (fun K hK => ?_) AllReadyH.nil
    go_simp
    go_wp2_with (go_at_call 171; refine (kHm.out _ _ hSd.out).mono ?_; rintro ev w5 ⟨rfl, rfl⟩)
    refine hK.out _ _ hS0 (fun _ => ?_)
    clear hK K
    refine wpAnyH_ready (rs := [8]) (by kernel_rfl) (by simp) ?_
    refine AllReadyH.cons rfl (fun K hK => ?_) AllReadyH.nil
    go_simp
    go_wp2_with (go_at_call 172; refine (kWr.out _ hAd.out).mono ?_; rintro ev w6 ⟨b6, rfl, hO6, hB6⟩)
    refine hK.out _ _ (⟨hS0.1.trans (Apart.of_below hB6), hS0.2.trans (Apart.of_below hB6)⟩) (fun hSn1 => ?_)
    clear hK K
    refine wpAnyH_ready (rs := [9]) (by kernel_rfl) (by simp) ?_
    refine AllReadyH.cons rfl (fun K hK => ?_) AllReadyH.nil
    go_simp
    go_wp2_with (go_at_call 170; refine (kC1.out _ _ (hSd.out.more hB6) _ _ hO6).mono ?_; rintro ev w7 ⟨rfl, M7, q1, q2, q3⟩)
    refine hK.out _ _ (⟨hSn1.1.trans q2, hSn1.2.trans q2⟩) (fun hSn2 => ?_)
    clear hK K
    refine wpAnyH_ready (rs := [10]) (by kernel_rfl) (by simp) ?_
    refine AllReadyH.cons rfl (fun K hK => ?_) AllReadyH.nil
    go_simp
    refine hK.out _ _ hSn2 (fun _ => ?_)
    clear hK K
    refine wpAnyH_done (by kernel_rfl) ?_ _
    have hE7 := hidden (And.intro q1 (And.intro hSn2.1 q3))
    clear q1 q2 q3 hO6 hB6
    go_wp2
    go_ret
    refine ⟨rfl, M7, fun no => ?_, hE7.out.1, hE7.out.2.1⟩
    rw [hE7.out.2.2 no]
    exact hEq.out no
  · clear hb
    go_enter Tryz.func223, Tryz.ntmps223
    go_upto_region 7 with fail
    have hS0 := And.intro hAd.out hAda.out
    refine wp_region_held_drew (S := fun w' => Apart [E.mb] w w' /\ Apart [E.mb] wa w') (by kernel_rfl) hS0 ?_
    intro _
    refine wpAnyH_take (i := 0) (v := ?_) rfl (by kernel_rfl) (by kernel_rfl) (by kernel_rfl) (fun _ _ _ h => h) (Or.inl ⟨by rfl, ?_⟩) hS0 ?_
    rotate_left
    · intro w hw; clear hw; go_simp; try (with_reducible rfl)
    refine wpAnyH_take (i := 1) (v := ?_) rfl (by kernel_rfl) (by kernel_rfl) (by kernel_rfl) (fun _ _ _ h => h) (Or.inl ⟨by rfl, ?_⟩) hS0 ?_
    rotate_left
    · intro w hw; clear hw; go_simp; try (with_reducible rfl)
    refine wpAnyH_take (i := 2) (v := ?_) rfl (by kernel_rfl) (by kernel_rfl) (by kernel_rfl) (fun _ _ _ h => h) (Or.inl ⟨by rfl, ?_⟩) hS0 ?_
    rotate_left
    · intro w hw; clear hw; go_simp; try (with_reducible rfl)
    refine wpAnyH_take (i := 3) (v := ?_) rfl (by kernel_rfl) (by kernel_rfl) (by kernel_rfl) (fun _ _ _ h => h) (Or.inl ⟨by rfl, ?_⟩) hS0 ?_
    rotate_left
    · intro w hw; have tcx := kt0.out _ hw.1; clear hw; go_simp; try (with_reducible rfl)
    refine wpAnyH_take (i := 4) (v := ?_) rfl (by kernel_rfl) (by kernel_rfl) (by kernel_rfl) (fun _ _ _ h => h) (Or.inl ⟨by rfl, ?_⟩) hS0 ?_
    rotate_left
    · intro w hw; clear hw; go_simp; try (with_reducible rfl)
    refine wpAnyH_take (i := 5) (v := ?_) rfl (by kernel_rfl) (by kernel_rfl) (by kernel_rfl) (fun _ _ _ h => h) (Or.inl ⟨by rfl, ?_⟩) hS0 ?_
    rotate_left
    · intro w hw; clear hw; go_simp; try (with_reducible rfl)
    refine wpAnyH_take (i := 7) (v := ?_) rfl (by kernel_rfl) (by kernel_rfl) (by kernel_rfl) (fun _ _ _ h => h) (Or.inl ⟨by rfl, ?_⟩) hS0 ?_
    rotate_left
    · intro w hw; have x0 := kNd.out _ hw.2; have m0 := x0.1; have m1 := x0.2.1; have m2 := x0.2.2; clear x0; clear hw; go_simp; try (with_reducible rfl)
    refine wpAnyH_ready (rs := [6]) (by kernel_rfl) (by simp) ?_
    refine AllReadyH.cons rfl (fun K hK => ?_) AllReadyH.nil
    go_simp
    go_wp2_with (go_at_call 171; refine (kHm.out _ _ hSd.out).mono ?_; rintro ev w5 ⟨rfl, rfl⟩)
    refine hK.out _ _ hS0 (fun _ => ?_)
    clear hK K
    refine wpAnyH_ready (rs := [8]) (by kernel_rfl) (by simp) ?_
    refine AllReadyH.cons rfl (fun K hK => ?_) AllReadyH.nil
    go_simp
    go_wp2_with (go_at_call 172; refine (kWr.out _ hAd.out).mono ?_; rintro ev w6 ⟨b6, rfl, hO6, hB6⟩)
    refine hK.out _ _ (⟨hS0.1.trans (Apart.of_below hB6), hS0.2.trans (Apart.of_below hB6)⟩) (fun hSn1 => ?_)
    clear hK K
    refine wpAnyH_ready (rs := [9]) (by kernel_rfl) (by simp) ?_
    refine AllReadyH.cons rfl (fun K hK => ?_) AllReadyH.nil
    go_simp
    go_wp2_with (go_at_call 170; refine (kC1.out _ _ (hSd.out.more hB6) _ _ hO6).mono ?_; rintro ev w7 ⟨rfl, M7, q1, q2, q3⟩)
    refine hK.out _ _ (⟨hSn1.1.trans q2, hSn1.2.trans q2⟩) (fun hSn2 => ?_)
    clear hK K
    refine wpAnyH_ready (rs := [10]) (by kernel_rfl) (by simp) ?_
    refine AllReadyH.cons rfl (fun K hK => ?_) AllReadyH.nil
    go_simp
    refine hK.out _ _ hSn2 (fun _ => ?_)
    clear hK K
    refine wpAnyH_done (by kernel_rfl) ?_ _
    have hE7 := hidden (And.intro q1 (And.intro hSn2.1 q3))
    clear q1 q2 q3 hO6 hB6
    go_wp2
    go_ret
    refine ⟨rfl, M7, fun no => ?_, hE7.out.1, hE7.out.2.1⟩
    rw [hE7.out.2.2 no]
    exact hEq.out no
theorem isettle_long {w : World} (REC : Nat) (id : Nat) (K0 S0 : Int) (K S L0 : Nat) (a0 : Option Addr) (c0 : Nat) {av : Option Addr} {cv KL : Nat} (RC_ RS_ : List Int) (z8 : Int) (hS : ¬ S0 = (S : Int)) (h : E.St mem writes M w)
    (kHm : ∀ wx Mx, E.St mem writes Mx wx -> Calls Tryz.prog 171 #[ptr E.tb, .int .i64 id] wx fun e w' => e = .returned (.int .i64 (REC : Nat)) /\ w' = wx)
    (kWr : ∀ wx, Apart [E.mb] w wx -> Calls Tryz.prog 172 #[nodeV K S (.slice av KL cv)] wx fun e w' => ∃ b, e = .returned (.slice (some ⟨b, 0, none⟩) 128 128) /\ OwnB wx.heap.size w' b 128 128 RC_ /\ Below wx.heap.size wx w')
    (kC1 : ∀ wx Mx, E.St mem writes Mx wx -> ∀ b base, OwnB base wx b 128 128 RC_ -> Calls Tryz.prog 170 #[ptr E.cb, .int .i64 (REC : Nat), .int .i64 0, .slice (some ⟨b, 0, none⟩) 128 128] wx fun e w' => e = .returned .nilIface /\ ∃ M', E.St mem writes M' w' /\ Apart [E.mb] wx w' /\ ∀ j, nowM mem M' j = if j = REC then RC_ else nowM mem Mx j) (htm : E.tb ≠ E.mb)
    (h9 : 9 < KL) (hne : ¬ KL = L0) {b8 off8 : Nat} (hav : av = some ⟨b8, off8, none⟩) (hc8' : ∀ wx, Apart [E.mb] w wx -> wx.cell? ⟨b8, off8 + 8, none⟩ = some (.int .i64 z8))
    (kRs' : ∀ wx, Apart [E.mb] w wx -> Calls Tryz.prog 270 #[nodeV K S (.slice av KL cv)] wx fun e w' => ∃ b, e = .returned (.slice (some ⟨b, 0, none⟩) 128 128) /\ OwnB wx.heap.size w' b 128 128 RS_ /\ Below wx.heap.size wx w')
    (kC2' : ∀ wx, E.St mem writes M wx -> ∀ b base, OwnB base wx b 128 128 RS_ -> Calls Tryz.prog 170 #[ptr E.cb, .int .i64 z8, .int .i64 0, .slice (some ⟨b, 0, none⟩) 128 128] wx fun e w' => e = .returned .nilIface /\ ∃ M', E.St mem writes M' w' /\ Apart [E.mb] wx w' /\ ∀ j, nowM mem M' j = if j = z8.toNat then RS_ else nowM mem M j) :
    Calls Tryz.prog 223 #[ptr E.tb, .int .i64 id, nodeV K0 S0 (.slice a0 L0 c0), nodeV K S (.slice av KL cv)] w fun e w' => e = .returned .nilIface /\ ∃ M', (∀ no, nowM mem M' no = if no = REC then RC_ else if 9 < KL /\ KL ≠ L0 /\ no = z8.toNat then RS_ else nowM mem M no) /\ E.St mem writes M' w' /\ Apart [E.mb] w w' := by
  have hmb : E.mb < w.heap.size := h.lts.2.2.2.2.1
  have hlt : E.tb < w.heap.size := h.t.lt
  obtain ⟨wa, hwa, hBa, hNw, hNn, hsa⟩ : ∃ wa, (w.alloc (.cells #[.int .i64 K0, .int .i64 S0, .slice a0 L0 c0] 151)).alloc (.cells #[.int .i64 K, .int .i64 S, .slice av KL cv] 151) = wa /\ Below w.heap.size w wa /\ NdAt wa w.heap.size K0 S0 (.slice a0 L0 c0) /\ NdAt wa (w.heap.size + 1) K S (.slice av KL cv) /\ wa.heap.size = w.heap.size + 2 :=
    ⟨_, rfl, ((Below.refl _ _).alloc (Nat.le_refl _) _).alloc (by simp) _, ⟨by simp, by simp, by simp⟩, ⟨by simp, by simp, by simp⟩, by simp⟩
  have hS1 := hidden (h.more hBa)
  have w1c := hNw.c1
  have w2c := hNw.c2
  have n1 := hNn.c1
  have n2 := hNn.c2
  have n0 := hNn.c0
  have hA01 := hidden (Apart.of_below (bs := [E.mb]) hBa)
  have kt0 := hidden (fun (wx : World) (hx : Apart [E.mb] w wx) => (hx.cell (p := ⟨E.tb, 0, none⟩) hlt (by simpa using htm)).trans h.t.c0)
  have kN := hidden (fun (wx : World) (hx : Apart [E.mb] wa wx) => hNn.keep hx (by simp; omega))
  replace kHm := hidden kHm
  replace kWr := hidden kWr
  replace kC1 := hidden kC1
  have tc0 := kt0.out _ hA01.out
  clear hNw hBa h
  have kNd := hidden (fun (wx : World) (hx : Apart [E.mb] wa wx) => show wx.cell? ⟨w.heap.size + 1, 0, none⟩ = some (.int .i64 (K : Int)) /\ wx.cell? ⟨w.heap.size + 1, 1, none⟩ = some (.int .i64 (S : Int)) /\ wx.cell? ⟨w.heap.size + 1, 2, none⟩ = some (.slice av KL cv) from ⟨(kN.out wx hx).c0, (kN.out wx hx).c1, (kN.out wx hx).c2⟩)
  subst hav
  have hSw := hidden (hS1.out.more (below_drew1 wa))
  have hAwa := hidden (Apart.of_below (bs := [E.mb]) (below_drew1 wa))
  have hAw := hidden (hA01.out.trans hAwa.out)
  have c8 := hc8' _ hA01.out
  have h8 : (8 : Int) < (KL : Int) := by omega
  replace hc8' := hidden hc8'
  replace kRs' := hidden kRs'
  replace kC2' := hidden kC2'
  have hltb : E.tb < wa.heap.size := by omega
  go_enter Tryz.func223, Tryz.ntmps223
  go_upto_region 4 with fail
  clear hwa
  go_cut [9] (fun p wx => p = .nilIface /\ ∃ M1, E.St mem writes M1 wx /\ Apart [E.mb] wa wx /\ ∀ j, nowM mem M1 j = if j = z8.toNat then RS_ else nowM mem M j)
  case first =>
    have hS0 := And.intro hAw.out hAwa.out
    refine wp_region_held_drew (S := fun w' => Apart [E.mb] w w' /\ Apart [E.mb] wa w') (by kernel_rfl) hS0 ?_
    intro _
    refine wpAnyH_take (i := 0) (v := ?_) rfl (by kernel_rfl) (by kernel_rfl) (by kernel_rfl) (fun _ _ _ h => h) (Or.inl ⟨by rfl, ?_⟩) hS0 ?_
    rotate_left
    · intro w hw; clear hw; go_simp; try (with_reducible rfl)
    refine wpAnyH_take (i := 1) (v := ?_) rfl (by kernel_rfl) (by kernel_rfl) (by kernel_rfl) (fun _ _ _ h => h) (Or.inl ⟨by rfl, ?_⟩) hS0 ?_
    rotate_left
    · intro w hw; clear hw; go_simp; try (with_reducible rfl)
    refine wpAnyH_take (i := 2) (v := ?_) rfl (by kernel_rfl) (by kernel_rfl) (by kernel_rfl) (fun _ _ _ h => h) (Or.inl ⟨by rfl, ?_⟩) hS0 ?_
    rotate_left
    · intro w hw; clear hw; go_simp; try (with_reducible rfl)
    refine wpAnyH_take (i := 3) (v := ?_) rfl (by kernel_rfl) (by kernel_rfl) (by kernel_rfl) (fun _ _ _ h => h) (Or.inl ⟨by rfl, ?_⟩) hS0 ?_
    rotate_left
    · intro w hw; have tcx := kt0.out _ hw.1; clear hw; go_simp; try (with_reducible rfl)
    refine wpAnyH_take (i := 4) (v := ?_) rfl (by kernel_rfl) (by kernel_rfl) (by kernel_rfl) (fun _ _ _ h => h) (Or.inl ⟨by rfl, ?_⟩) hS0 ?_
    rotate_left
    · intro w hw; clear hw; go_simp; try (with_reducible rfl)
    refine wpAnyH_take (i := 5) (v := ?_) rfl (by kernel_rfl) (by kernel_rfl) (by kernel_rfl) (fun _ _ _ h => h) (Or.inl ⟨by rfl, ?_⟩) hS0 ?_
    rotate_left
    · intro w hw; have x0 := kNd.out _ hw.2; have m0 := x0.1; have m1 := x0.2.1; have m2 := x0.2.2; clear x0; clear hw; go_simp; try (with_reducible rfl)
    refine wpAnyH_take (i := 6) (v := ?_) rfl (by kernel_rfl) (by kernel_rfl) (by kernel_rfl) (fun _ _ _ h => h) (Or.inl ⟨by rfl, ?_⟩) hS0 ?_
    rotate_left
    · intro w hw; clear hw; go_simp; try (with_reducible rfl)
    refine wpAnyH_take (i := 7) (v := ?_) rfl (by kernel_rfl) (by kernel_rfl) (by kernel_rfl) (fun _ _ _ h => h) (Or.inl ⟨by rfl, ?_⟩) hS0 ?_
    rotate_left
    · intro w hw; have c8x := hc8'.out _ hw.1; clear hw; go_simp; try (with_reducible rfl)
    refine wpAnyH_ready (rs := [8]) (by kernel_rfl) (by simp) ?_
    refine AllReadyH.cons rfl (fun K hK => ?_) AllReadyH.nil
    have x0 := kNd.out _ hS0.2; have m0 := x0.1; have m1 := x0.2.1; have m2 := x0.2.2; clear x0
    go_simp
    refine hK.out _ _ hS0 (fun _ => ?_)
    clear hK K
    refine wpAnyH_ready (rs := [9]) (by kernel_rfl) (by simp) ?_
    refine AllReadyH.cons rfl (fun K hK => ?_) AllReadyH.nil
    go_simp
    go_wp2_with (go_at_call 270; refine (kRs'.out _ hAw.out).mono ?_; rintro ev w2 ⟨b2, rfl, hO2, hB2⟩)
    refine hK.out _ _ (⟨hS0.1.trans (Apart.of_below hB2), hS0.2.trans (Apart.of_below hB2)⟩) (fun hSn1 => ?_)
    clear hK K
    refine wpAnyH_ready (rs := [10]) (by kernel_rfl) (by simp) ?_
    refine AllReadyH.cons rfl (fun K hK => ?_) AllReadyH.nil
    go_simp
    go_wp2_with (go_at_call 170; refine (kC2'.out _ (hSw.out.more hB2) _ _ hO2).mono ?_; rintro ev w3 ⟨rfl, M3, q1, q2, q3⟩)
    refine hK.out _ _ (⟨hSn1.1.trans q2, hSn1.2.trans q2⟩) (fun hSn2 => ?_)
    clear hK K
    refine wpAnyH_ready (rs := [11]) (by kernel_rfl) (by simp) ?_
    refine AllReadyH.cons rfl (fun K hK => ?_) AllReadyH.nil
    go_simp
    refine hK.out _ _ hSn2 (fun _ => ?_)
    clear hK K
    refine wpAnyH_done (by kernel_rfl) ?_ _
    have hE3 := hidden (And.intro q1 (And.intro hSn2.2 q3))
    clear q1 q2 q3 hO2 hB2
    go_wp2
    go_meet
    case rel => exact ⟨rfl, M3, hE3.out⟩
  case rest =>
    rename World => w4
    obtain ⟨rfl, M1, s1, s2, s3⟩ := hcut
    have hN4 := kN.out _ s2
    have m0 := hN4.c0
    have m1 := hN4.c1
    have m2 := hN4.c2
    have tc4 := s1.t.c0
    have hltb4 := s1.t.lt
    have hSd := hidden (s1.more (below_drew1 w4))
    have hAda := hidden (s2.trans (Apart.of_below (below_drew1 w4)))
    have hAd := hidden (hA01.out.trans hAda.out)
    have hEq : Hid (∀ no, (if no = REC then RC_ else nowM mem M1 no) = if no = REC then RC_ else if 9 < KL /\ KL ≠ L0 /\ no = z8.toNat then RS_ else nowM mem M no) := hidden (fun no => by
      by_cases e : no = REC
      · rw [if_pos e, if_pos e]
      · rw [if_neg e, if_neg e, s3 no]
        by_cases e2 : no = z8.toNat
        · rw [if_pos e2, if_pos ⟨h9, hne, e2⟩]
        · rw [if_neg e2, if_neg (fun hh => e2 hh.2.2)])
    clear s1 s2 s3 hN4 n0 n1 n2 c8 tc0 w1c w2c kRs' kC2' hSw hAw hAwa hS1
    go_upto_region 7 with fail
    have hS0 := And.intro hAd.out hAda.out
    refine wp_region_held_drew (S := fun w' => Apart [E.mb] w w' /\ Apart [E.mb] wa w') (by kernel_rfl) hS0 ?_
    intro _
    refine wpAnyH_take (i := 0) (v := ?_) rfl (by kernel_rfl) (by kernel_rfl) (by kernel_rfl) (fun _ _ _ h => h) (Or.inl ⟨by rfl, ?_⟩) hS0 ?_
    rotate_left
    · intro w hw; clear hw; go_simp; try (with_reducible rfl)
    refine wpAnyH_take (i := 1) (v := ?_) rfl (by kernel_rfl) (by kernel_rfl) (by kernel_rfl) (fun _ _ _ h => h) (Or.inl ⟨by rfl, ?_⟩) hS0 ?_
    rotate_left
    · intro w hw; clear hw; go_simp; try (with_reducible rfl)
    refine wpAnyH_take (i := 2) (v := ?_) rfl (by kernel_rfl) (by kernel_rfl) (by kernel_rfl) (fun _ _ _ h => h) (Or.inl ⟨by rfl, ?_⟩) hS0 ?_
    rotate_left
    · intro w hw; clear hw; go_simp; try (with_reducible rfl)
    refine wpAnyH_take (i := 3) (v := ?_) rfl (by kernel_rfl) (by kernel_rfl) (by kernel_rfl) (fun _ _ _ h => h) (Or.inl ⟨by rfl, ?_⟩) hS0 ?_
    rotate_left
    · intro w hw; have tcx := kt0.out _ hw.1; clear hw; go_simp; try (with_reducible rfl)
    refine wpAnyH_take (i := 4) (v := ?_) rfl (by kernel_rfl) (by kernel_rfl) (by kernel_rfl) (fun _ _ _ h => h) (Or.inl ⟨by rfl, ?_⟩) hS0 ?_
    rotate_left
    · intro w hw; clear hw; go_simp; try (with_reducible rfl)
    refine wpAnyH_take (i := 5) (v := ?_) rfl (by kernel_rfl) (by kernel_rfl) (by kernel_rfl) (fun _ _ _ h => h) (Or.inl ⟨by rfl, ?_⟩) hS0 ?_
    rotate_left
    · intro w hw; clear hw; go_simp; try (with_reducible rfl)
    refine wpAnyH_take (i := 7) (v := ?_) rfl (by kernel_rfl) (by kernel_rfl) (by kernel_rfl) (fun _ _ _ h => h) (Or.inl ⟨by rfl, ?_⟩) hS0 ?_
    rotate_left
    · intro w hw; have x0 := kNd.out _ hw.2; have m0 := x0.1; have m1 := x0.2.1; have m2 := x0.2.2; clear x0; clear hw; go_simp; try (with_reducible rfl)
    refine wpAnyH_ready (rs := [6]) (by kernel_rfl) (by simp) ?_
    refine AllReadyH.cons rfl (fun K hK => ?_) AllReadyH.nil
    go_simp
    go_wp2_with (go_at_call 171; refine (kHm.out _ _ hSd.out).mono ?_; rintro ev w5 ⟨rfl, rfl⟩)
    refine hK.out _ _ hS0 (fun _ => ?_)
    clear hK K
    refine wpAnyH_ready (rs := [8]) (by kernel_rfl) (by simp) ?_
    refine AllReadyH.cons rfl (fun K hK => ?_) AllReadyH.nil
    go_simp
    go_wp2_with (go_at_call 172; refine (kWr.out _ hAd.out).mono ?_; rintro ev w6 ⟨b6, rfl, hO6, hB6⟩)
    refine hK.out _ _ (⟨hS0.1.trans (Apart.of_below hB6), hS0.2.trans (Apart.of_below hB6)⟩) (fun hSn1 => ?_)
    clear hK K
    refine wpAnyH_ready (rs := [9]) (by kernel_rfl) (by simp) ?_
    refine AllReadyH.cons rfl (fun K hK => ?_) AllReadyH.nil
    go_simp
    go_wp2_with (go_at_call 170; refine (kC1.out _ _ (hSd.out.more hB6) _ _ hO6).mono ?_; rintro ev w7 ⟨rfl, M7, q1, q2, q3⟩)
    refine hK.out _ _ (⟨hSn1.1.trans q2, hSn1.2.trans q2⟩) (fun hSn2 => ?_)
    clear hK K
    refine wpAnyH_ready (rs := [10]) (by kernel_rfl) (by simp) ?_
    refine AllReadyH.cons rfl (fun K hK => ?_) AllReadyH.nil
    go_simp
    refine hK.out _ _ hSn2 (fun _ => ?_)
    clear hK K
    refine wpAnyH_done (by kernel_rfl) ?_ _
    have hE7 := hidden (And.intro q1 (And.intro hSn2.1 q3))
    clear q1 q2 q3 hO6 hB6
    go_wp2
    go_ret
    refine ⟨rfl, M7, fun no => ?_, hE7.out.1, hE7.out.2.1⟩
    rw [hE7.out.2.2 no]
    exact hEq.out no
end
end Go.Proofs.YtpofmiecjkghgaaGreatDoor
