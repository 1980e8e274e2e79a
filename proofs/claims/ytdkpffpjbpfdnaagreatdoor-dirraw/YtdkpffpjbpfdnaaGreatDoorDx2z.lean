/- listed: a name laid in. -/
import Derived.Test.YtdkpffpjbpfdnaaGreatDoorDx1z
import Derived.Deep.CutBlock
namespace Go.Proofs.YtdkpffpjbpfdnaaGreatDoor
open Go.RowKit Go.Extern.Stop Go.Stop Go.Extern Go.Maps Go.Sort Go.Shelf
set_option maxRecDepth 1000000

set_option maxHeartbeats 8000000 in
theorem ls_insert (rb off LL lc i k : Nat) (nms : List UInt8) (a : Option Addr) (cap base : Nat) (ks : List (List UInt8)) (w5 : World) (hV : Hid (KeptT base w5 (.slice a ks.length cap) ks)) (hks : ks.length ≤ 900) (hk : k ≤ ks.length) (hbs : base ≤ w5.heap.size) (hi : (i : Int) < (LL : Int)) (hc : Hid (w5.cell? ⟨rb, off + i * 2, none⟩ = some (.string (mkB nms))))
    (x1 x2 x6 x7 x8 x9 x10 x11 x12 x13 x14 x15 x16 x17 x18 x19 x20 x21 x22 x23 x24 x25 x26 x27 x28 x29 x30 x31 x32 x33 x34 x35 x36 x37 x38 x39 x40 x41 x42 x43 x44 x45 x46 : Value) (KK : Act → World → Prop) (Q : Exit → Act → World → Prop)
    (hKK : Hid (∀ (v30 v31 v32 v33 v34 v35 v36 v37 v38 v39 v40 v41 v42 v43 v44 v45 : Value) (v' : Value) (w' : World), KeptT base w' v' (ks.take k ++ nms :: ks.drop k) ∧ Below w5.heap.size w5 w' → KK ⟨#[.slice (some ⟨rb, off, none⟩) LL lc, x1, x2, v', .int .i64 (i : Int), .int .i64 (k : Int), x6, x7, x8, x9, x10, x11, x12, x13, x14, x15, x16, x17, x18, x19, x20, x21, x22, x23, x24, x25, x26, x27, x28, x29, v30, v31, v32, v33, v34, v35, v36, v37, v38, v39, v40, v41, v42, v43, v44, v45, x46], []⟩ w'))
    (hQp : Hid (∀ x a a' w, Q (.panic x) a w → a.defers = a'.defers → Q (.panic x) a' w)) :
    Code.wp Tryz.prog (((Tryz.f35.body.bind (regionAt 8)).getD .skip)) (Exit.then KK Q) ⟨#[.slice (some ⟨rb, off, none⟩) LL lc, x1, x2, .slice a ks.length cap, .int .i64 (i : Int), .int .i64 (k : Int), x6, x7, x8, x9, x10, x11, x12, x13, x14, x15, x16, x17, x18, x19, x20, x21, x22, x23, x24, x25, x26, x27, x28, x29, x30, x31, x32, x33, x34, x35, x36, x37, x38, x39, x40, x41, x42, x43, x44, x45, x46], []⟩ w5 := by
  have hu := hQp
  clear hu
  conv => arg 2; whnf
  try dsimp only
  have hu2 := And.intro hks (And.intro hk hbs)
  clear hu2
  have hS0 : Below w5.heap.size w5 w5.drew := (Below.refl _ _).drew
  have k1 := hidden (fun wx (hx : Below w5.heap.size w5 wx) => (hx.cell (p := ⟨rb, off + i * 2, none⟩) (lt_of_cell hc.out)).trans hc.out)
  obtain ⟨nm, hnm⟩ : ∃ nm, mkB nms = nm := ⟨_, rfl⟩
  rw [hnm] at k1
  replace hnm := hidden hnm
  rcases hV.out.row.2 with ⟨hv, h0⟩ | ⟨gb, cap', cur, hv, h1, hh, h2, h3, h4, h5⟩
  · obtain ⟨rfl, -, rfl⟩ := Value.slice.inj hv
    have hk0 : ks = [] := List.length_eq_zero_iff.1 h0
    subst hk0
    obtain rfl : k = 0 := by simpa using hk
    clear hV hv h0 hc
    refine wp_region_held_drew (S := fun w' => Below w5.heap.size w5 w') (by kernel_rfl) hS0 ?_
    intro _
    refine wpAnyH_take (i := 1) (v := ?_) rfl (by kernel_rfl) (by kernel_rfl) (by kernel_rfl) (fun _ _ _ h => hQp.out _ _ _ _ h rfl) (Or.inl ⟨by rfl, ?_⟩) hS0 ?_
    rotate_left
    · intro w hw; clear hw; go_simp; try (with_reducible rfl)
    refine wpAnyH_take (i := 2) (v := ?_) rfl (by kernel_rfl) (by kernel_rfl) (by kernel_rfl) (fun _ _ _ h => hQp.out _ _ _ _ h rfl) (Or.inl ⟨by rfl, ?_⟩) hS0 ?_
    rotate_left
    · intro w hw; clear hw; go_simp; try (with_reducible rfl)
    refine wpAnyH_take (i := 3) (v := ?_) rfl (by kernel_rfl) (by kernel_rfl) (by kernel_rfl) (fun _ _ _ h => hQp.out _ _ _ _ h rfl) (Or.inl ⟨by rfl, ?_⟩) hS0 ?_
    rotate_left
    · intro w hw; clear hw; go_simp; try (with_reducible rfl)
    refine wpAnyH_take (i := 5) (v := ?_) rfl (by kernel_rfl) (by kernel_rfl) (by kernel_rfl) (fun _ _ _ h => hQp.out _ _ _ _ h rfl) (Or.inl ⟨by rfl, ?_⟩) hS0 ?_
    rotate_left
    · intro w hw; clear hw; go_simp; try (with_reducible rfl)
    refine wpAnyH_take (i := 6) (v := ?_) rfl (by kernel_rfl) (by kernel_rfl) (by kernel_rfl) (fun _ _ _ h => hQp.out _ _ _ _ h rfl) (Or.inl ⟨by rfl, ?_⟩) hS0 ?_
    rotate_left
    · intro w hw; clear hw; go_simp; try (with_reducible rfl)
    refine wpAnyH_take (i := 7) (v := ?_) rfl (by kernel_rfl) (by kernel_rfl) (by kernel_rfl) (fun _ _ _ h => hQp.out _ _ _ _ h rfl) (Or.inl ⟨by rfl, ?_⟩) hS0 ?_
    rotate_left
    · intro w hw; clear hw; go_simp; try (with_reducible rfl)
    refine wpAnyH_take (i := 8) (v := ?_) rfl (by kernel_rfl) (by kernel_rfl) (by kernel_rfl) (fun _ _ _ h => hQp.out _ _ _ _ h rfl) (Or.inl ⟨by rfl, ?_⟩) hS0 ?_
    rotate_left
    · intro w hw; clear hw; go_simp; try (with_reducible rfl)
    refine wpAnyH_take (i := 9) (v := ?_) rfl (by kernel_rfl) (by kernel_rfl) (by kernel_rfl) (fun _ _ _ h => hQp.out _ _ _ _ h rfl) (Or.inl ⟨by rfl, ?_⟩) hS0 ?_
    rotate_left
    · intro w hw; have c1 := k1.out _ hw; clear hw; go_simp; try (with_reducible rfl)
    refine wpAnyH_take (i := 12) (v := ?_) rfl (by kernel_rfl) (by kernel_rfl) (by kernel_rfl) (fun _ _ _ h => hQp.out _ _ _ _ h rfl) (Or.inl ⟨by rfl, ?_⟩) hS0 ?_
    rotate_left
    · intro w hw; clear hw; go_simp; try (with_reducible rfl)
    refine wpAnyH_take (i := 13) (v := ?_) rfl (by kernel_rfl) (by kernel_rfl) (by kernel_rfl) (fun _ _ _ h => hQp.out _ _ _ _ h rfl) (Or.inl ⟨by rfl, ?_⟩) hS0 ?_
    rotate_left
    · intro w hw; clear hw; go_simp; try (with_reducible rfl)
    refine wpAnyH_take (i := 14) (v := ?_) rfl (by kernel_rfl) (by kernel_rfl) (by kernel_rfl) (fun _ _ _ h => hQp.out _ _ _ _ h rfl) (Or.inl ⟨by rfl, ?_⟩) hS0 ?_
    rotate_left
    · intro w hw; clear hw; go_simp; try (with_reducible rfl)
    refine wpAnyH_ready (rs := [0, 10]) (by kernel_rfl) (by simp) ?_
    refine AllReadyH.cons rfl (fun K hK => ?_) ?_
    · go_simp
      refine hK.out _ _ ((hS0).alloc (hS0).size _) (fun hSn1 => ?_)
      have hq0 := hidden (keptT_new (base := w5.heap.size) w5.drew (w5.heap.size) (by simp) (hS0).size)
      try (replace hz7 := hidden (((show Below (w5.drew).heap.size w5.drew ((w5.drew).alloc (.cells #[] 9)) from (Below.refl _ _).alloc (Nat.le_refl _) _).cell (p := ⟨_, 0, none⟩) (lt_of_cell (a := ⟨_, 0, none⟩) hz7.out)).trans hz7.out))
      clear hK K
      go_simp
      refine wpAnyH_ready (rs := [4, 10]) (by kernel_rfl) (by simp) ?_
      refine AllReadyH.cons rfl (fun K hK => ?_) ?_
      · have hr1 := keptT_append_none hq0.out 68
        refine any_append rfl rfl _ _ _ _ rfl rfl hr1 ?_
        refine hK.out _ _ (hSn1) (fun hSn2 => ?_)
        have hq1 := hidden hq0.out
        clear hK K
        refine wpAnyH_ready (rs := [10]) (by kernel_rfl) (by simp) ?_
        refine AllReadyH.cons rfl (fun K hK => ?_) AllReadyH.nil
        go_simp
        refine hK.out _ _ ((hSn2).alloc (hSn2).size _) (fun hSn3 => ?_)
        have hz7 := hidden (one_text ((w5.drew).alloc (.cells #[] 9)) (.string nm) (w5.heap.size + 1) (by simp))
        try (replace hq0 := hidden (hq0.out.below (w' := ((((w5.drew).alloc (.cells #[] 9))).alloc (.cells #[.string nm] 9))) ((Below.refl _ _).alloc (Nat.le_refl _) _)))
        try (replace hq1 := hidden (hq1.out.below (w' := ((((w5.drew).alloc (.cells #[] 9))).alloc (.cells #[.string nm] 9))) ((Below.refl _ _).alloc (Nat.le_refl _) _)))
        clear hK K
        go_simp
        refine wpAnyH_ready (rs := [11]) (by kernel_rfl) (by simp) ?_
        refine AllReadyH.cons rfl (fun K hK => ?_) AllReadyH.nil
        have hz8 : ∀ j y, [nms][j]? = some y → (((((w5.drew).alloc (.cells #[] 9))).alloc (.cells #[.string nm] 9))).cell? (Addr.add ⟨_, 0, none⟩ j) = some (.string (mkB y)) := fun j y hj => by
          match j, hj with
          | 0, hj => cases hj; rw [hnm.out]; exact hz7.out
          | n + 1, hj => cases hj
        obtain ⟨v2, w2, hr2, hq2, hb2, hkp2⟩ := keptT_appends hq1.out _ 1 1 [nms] rfl hz8 (by (try simp) <;> omega) (hSn3).size 68
        refine any_append rfl rfl _ _ _ _ rfl rfl hr2 ?_
        refine hK.out _ _ ((hSn3).trans hb2) (fun hSn4 => ?_)
        replace hq2 := hidden hq2
        clear hq1 hz7 hz8
        clear hK K
        go_simp
        refine wpAnyH_ready (rs := [15]) (by kernel_rfl) (by simp) ?_
        refine AllReadyH.cons rfl (fun K hK => ?_) AllReadyH.nil
        have hr3 := keptT_append_none hq2.out 68
        refine any_append rfl rfl _ _ _ _ rfl rfl hr3 ?_
        refine hK.out _ _ (hSn4) (fun hSn5 => ?_)
        have hq3 := hidden hq2.out
        clear hK K
        refine wpAnyH_ready (rs := [16]) (by kernel_rfl) (by simp) ?_
        refine AllReadyH.cons rfl (fun K hK => ?_) AllReadyH.nil
        go_simp
        refine hK.out _ _ hSn5 (fun _ => ?_)
        clear hK K
        refine wpAnyH_done (by kernel_rfl) ?_ _
        go_wp2_with fail
        exact hKK.out _ _ _ _ _ _ _ _ _ _ _ _ _ _ _ _ _ _ ⟨by have := hq3.out.mono hbs; simpa using this, hSn5⟩
      refine AllReadyH.cons rfl (fun K hK => ?_) ?_
      · go_simp
        refine hK.out _ _ ((hSn1).alloc (hSn1).size _) (fun hSn6 => ?_)
        have hz7 := hidden (one_text ((w5.drew).alloc (.cells #[] 9)) (.string nm) (w5.heap.size + 1) (by simp))
        try (replace hq0 := hidden (hq0.out.below (w' := ((((w5.drew).alloc (.cells #[] 9))).alloc (.cells #[.string nm] 9))) ((Below.refl _ _).alloc (Nat.le_refl _) _)))
        try (replace hq1 := hidden (hq1.out.below (w' := ((((w5.drew).alloc (.cells #[] 9))).alloc (.cells #[.string nm] 9))) ((Below.refl _ _).alloc (Nat.le_refl _) _)))
        clear hK K
        go_simp
        refine wpAnyH_ready (rs := [4]) (by kernel_rfl) (by simp) ?_
        refine AllReadyH.cons rfl (fun K hK => ?_) AllReadyH.nil
        have hr1 := keptT_append_none hq0.out 68
        refine any_append rfl rfl _ _ _ _ rfl rfl hr1 ?_
        refine hK.out _ _ (hSn6) (fun hSn7 => ?_)
        have hq1 := hidden hq0.out
        clear hK K
        go_simp
        refine wpAnyH_ready (rs := [11]) (by kernel_rfl) (by simp) ?_
        refine AllReadyH.cons rfl (fun K hK => ?_) AllReadyH.nil
        have hz8 : ∀ j y, [nms][j]? = some y → (((((w5.drew).alloc (.cells #[] 9))).alloc (.cells #[.string nm] 9))).cell? (Addr.add ⟨_, 0, none⟩ j) = some (.string (mkB y)) := fun j y hj => by
          match j, hj with
          | 0, hj => cases hj; rw [hnm.out]; exact hz7.out
          | n + 1, hj => cases hj
        obtain ⟨v2, w2, hr2, hq2, hb2, hkp2⟩ := keptT_appends hq1.out _ 1 1 [nms] rfl hz8 (by (try simp) <;> omega) (hSn7).size 68
        refine any_append rfl rfl _ _ _ _ rfl rfl hr2 ?_
        refine hK.out _ _ ((hSn7).trans hb2) (fun hSn8 => ?_)
        replace hq2 := hidden hq2
        clear hq1 hz7 hz8
        clear hK K
        go_simp
        refine wpAnyH_ready (rs := [15]) (by kernel_rfl) (by simp) ?_
        refine AllReadyH.cons rfl (fun K hK => ?_) AllReadyH.nil
        have hr3 := keptT_append_none hq2.out 68
        refine any_append rfl rfl _ _ _ _ rfl rfl hr3 ?_
        refine hK.out _ _ (hSn8) (fun hSn9 => ?_)
        have hq3 := hidden hq2.out
        clear hK K
        refine wpAnyH_ready (rs := [16]) (by kernel_rfl) (by simp) ?_
        refine AllReadyH.cons rfl (fun K hK => ?_) AllReadyH.nil
        go_simp
        refine hK.out _ _ hSn9 (fun _ => ?_)
        clear hK K
        refine wpAnyH_done (by kernel_rfl) ?_ _
        go_wp2_with fail
        exact hKK.out _ _ _ _ _ _ _ _ _ _ _ _ _ _ _ _ _ _ ⟨by have := hq3.out.mono hbs; simpa using this, hSn9⟩
      exact AllReadyH.nil
    refine AllReadyH.cons rfl (fun K hK => ?_) ?_
    · go_simp
      refine hK.out _ _ ((hS0).alloc (hS0).size _) (fun hSn10 => ?_)
      have hz7 := hidden (one_text w5.drew (.string nm) (w5.heap.size) (by simp))
      try (replace hq0 := hidden (hq0.out.below (w' := ((w5.drew).alloc (.cells #[.string nm] 9))) ((Below.refl _ _).alloc (Nat.le_refl _) _)))
      try (replace hq1 := hidden (hq1.out.below (w' := ((w5.drew).alloc (.cells #[.string nm] 9))) ((Below.refl _ _).alloc (Nat.le_refl _) _)))
      clear hK K
      refine wpAnyH_ready (rs := [0]) (by kernel_rfl) (by simp) ?_
      refine AllReadyH.cons rfl (fun K hK => ?_) AllReadyH.nil
      go_simp
      refine hK.out _ _ ((hSn10).alloc (hSn10).size _) (fun hSn11 => ?_)
      have hq0 := hidden (keptT_new (base := w5.heap.size) ((w5.drew).alloc (.cells #[.string nm] 9)) (w5.heap.size + 1) (by simp) (hSn10).size)
      try (replace hz7 := hidden (((show Below (((w5.drew).alloc (.cells #[.string nm] 9))).heap.size ((w5.drew).alloc (.cells #[.string nm] 9)) ((((w5.drew).alloc (.cells #[.string nm] 9))).alloc (.cells #[] 9)) from (Below.refl _ _).alloc (Nat.le_refl _) _).cell (p := ⟨_, 0, none⟩) (lt_of_cell (a := ⟨_, 0, none⟩) hz7.out)).trans hz7.out))
      clear hK K
      go_simp
      refine wpAnyH_ready (rs := [4]) (by kernel_rfl) (by simp) ?_
      refine AllReadyH.cons rfl (fun K hK => ?_) AllReadyH.nil
      have hr1 := keptT_append_none hq0.out 68
      refine any_append rfl rfl _ _ _ _ rfl rfl hr1 ?_
      refine hK.out _ _ (hSn11) (fun hSn12 => ?_)
      have hq1 := hidden hq0.out
      clear hK K
      go_simp
      refine wpAnyH_ready (rs := [11]) (by kernel_rfl) (by simp) ?_
      refine AllReadyH.cons rfl (fun K hK => ?_) AllReadyH.nil
      have hz8 : ∀ j y, [nms][j]? = some y → (((((w5.drew).alloc (.cells #[.string nm] 9))).alloc (.cells #[] 9))).cell? (Addr.add ⟨_, 0, none⟩ j) = some (.string (mkB y)) := fun j y hj => by
        match j, hj with
        | 0, hj => cases hj; rw [hnm.out]; exact hz7.out
        | n + 1, hj => cases hj
      obtain ⟨v2, w2, hr2, hq2, hb2, hkp2⟩ := keptT_appends hq1.out _ 1 1 [nms] rfl hz8 (by (try simp) <;> omega) (hSn12).size 68
      refine any_append rfl rfl _ _ _ _ rfl rfl hr2 ?_
      refine hK.out _ _ ((hSn12).trans hb2) (fun hSn13 => ?_)
      replace hq2 := hidden hq2
      clear hq1 hz7 hz8
      clear hK K
      go_simp
      refine wpAnyH_ready (rs := [15]) (by kernel_rfl) (by simp) ?_
      refine AllReadyH.cons rfl (fun K hK => ?_) AllReadyH.nil
      have hr3 := keptT_append_none hq2.out 68
      refine any_append rfl rfl _ _ _ _ rfl rfl hr3 ?_
      refine hK.out _ _ (hSn13) (fun hSn14 => ?_)
      have hq3 := hidden hq2.out
      clear hK K
      refine wpAnyH_ready (rs := [16]) (by kernel_rfl) (by simp) ?_
      refine AllReadyH.cons rfl (fun K hK => ?_) AllReadyH.nil
      go_simp
      refine hK.out _ _ hSn14 (fun _ => ?_)
      clear hK K
      refine wpAnyH_done (by kernel_rfl) ?_ _
      go_wp2_with fail
      exact hKK.out _ _ _ _ _ _ _ _ _ _ _ _ _ _ _ _ _ _ ⟨by have := hq3.out.mono hbs; simpa using this, hSn14⟩
    exact AllReadyH.nil
  · obtain ⟨rfl, -, rfl⟩ := Value.slice.inj hv
    have hncap : ks.length ≤ cap := h2
    have kC := hidden (fun wx (hx : Below w5.heap.size w5 wx) (j : Nat) (y : List UInt8) (hj : ks[j]? = some y) => show wx.cell? ⟨gb, j, none⟩ = some (.string (mkB y)) by
      obtain ⟨a2, cap2, e2, -, hf2⟩ := (hV.out.below hx).at
      obtain ⟨rfl, -, -⟩ := Value.slice.inj e2
      obtain ⟨b2, off2, e3, -, hcl2⟩ := hf2 (by rintro rfl; simp at hj)
      obtain ⟨rfl, rfl, -⟩ := Addr.mk.inj (Option.some.inj e3)
      have := hcl2 j y hj
      rwa [Nat.zero_add] at this)
    have hk1 : (k : Int) ≤ (cap : Int) := by omega
    have hk2 : (k : Int) ≤ (ks.length : Int) := by omega
    clear hV hv h1 hh h3 h4 h5 hc
    by_cases hck : cap = k
    · obtain rfl : k = ks.length := by omega
      have e1 : cap - ks.length = 0 := by omega
      refine wp_region_held_drew (S := fun w' => Below w5.heap.size w5 w') (by kernel_rfl) hS0 ?_
      intro _
      refine wpAnyH_take (i := 1) (v := ?_) rfl (by kernel_rfl) (by kernel_rfl) (by kernel_rfl) (fun _ _ _ h => hQp.out _ _ _ _ h rfl) (Or.inl ⟨by rfl, ?_⟩) hS0 ?_
      rotate_left
      · intro w hw; clear hw; go_simp; try (with_reducible rfl)
      refine wpAnyH_take (i := 2) (v := ?_) rfl (by kernel_rfl) (by kernel_rfl) (by kernel_rfl) (fun _ _ _ h => hQp.out _ _ _ _ h rfl) (Or.inl ⟨by rfl, ?_⟩) hS0 ?_
      rotate_left
      · intro w hw; clear hw; go_simp; try (with_reducible rfl)
      refine wpAnyH_take (i := 3) (v := ?_) rfl (by kernel_rfl) (by kernel_rfl) (by kernel_rfl) (fun _ _ _ h => hQp.out _ _ _ _ h rfl) (Or.inl ⟨by rfl, ?_⟩) hS0 ?_
      rotate_left
      · intro w hw; clear hw; go_simp; try (with_reducible rfl)
      refine wpAnyH_take (i := 5) (v := ?_) rfl (by kernel_rfl) (by kernel_rfl) (by kernel_rfl) (fun _ _ _ h => hQp.out _ _ _ _ h rfl) (Or.inl ⟨by rfl, ?_⟩) hS0 ?_
      rotate_left
      · intro w hw; clear hw; go_simp; try (with_reducible rfl)
      refine wpAnyH_take (i := 6) (v := ?_) rfl (by kernel_rfl) (by kernel_rfl) (by kernel_rfl) (fun _ _ _ h => hQp.out _ _ _ _ h rfl) (Or.inl ⟨by rfl, ?_⟩) hS0 ?_
      rotate_left
      · intro w hw; clear hw; go_simp; try (with_reducible rfl)
      refine wpAnyH_take (i := 7) (v := ?_) rfl (by kernel_rfl) (by kernel_rfl) (by kernel_rfl) (fun _ _ _ h => hQp.out _ _ _ _ h rfl) (Or.inl ⟨by rfl, ?_⟩) hS0 ?_
      rotate_left
      · intro w hw; clear hw; go_simp; try (with_reducible rfl)
      refine wpAnyH_take (i := 8) (v := ?_) rfl (by kernel_rfl) (by kernel_rfl) (by kernel_rfl) (fun _ _ _ h => hQp.out _ _ _ _ h rfl) (Or.inl ⟨by rfl, ?_⟩) hS0 ?_
      rotate_left
      · intro w hw; clear hw; go_simp; try (with_reducible rfl)
      refine wpAnyH_take (i := 9) (v := ?_) rfl (by kernel_rfl) (by kernel_rfl) (by kernel_rfl) (fun _ _ _ h => hQp.out _ _ _ _ h rfl) (Or.inl ⟨by rfl, ?_⟩) hS0 ?_
      rotate_left
      · intro w hw; have c1 := k1.out _ hw; clear hw; go_simp; try (with_reducible rfl)
      refine wpAnyH_take (i := 12) (v := ?_) rfl (by kernel_rfl) (by kernel_rfl) (by kernel_rfl) (fun _ _ _ h => hQp.out _ _ _ _ h rfl) (Or.inl ⟨by rfl, ?_⟩) hS0 ?_
      rotate_left
      · intro w hw; clear hw; go_simp; try (with_reducible rfl)
      refine wpAnyH_take (i := 13) (v := ?_) rfl (by kernel_rfl) (by kernel_rfl) (by kernel_rfl) (fun _ _ _ h => hQp.out _ _ _ _ h rfl) (Or.inl ⟨by rfl, ?_⟩) hS0 ?_
      rotate_left
      · intro w hw; clear hw; go_simp; try (with_reducible rfl)
      refine wpAnyH_take (i := 14) (v := ?_) rfl (by kernel_rfl) (by kernel_rfl) (by kernel_rfl) (fun _ _ _ h => hQp.out _ _ _ _ h rfl) (Or.inl ⟨by rfl, ?_⟩) hS0 ?_
      rotate_left
      · intro w hw; clear hw; go_simp; try (with_reducible rfl)
      refine wpAnyH_ready (rs := [0, 10]) (by kernel_rfl) (by simp) ?_
      refine AllReadyH.cons rfl (fun K hK => ?_) ?_
      · go_simp
        refine hK.out _ _ ((hS0).alloc (hS0).size _) (fun hSn1 => ?_)
        have hq0 := hidden (keptT_new (base := w5.heap.size) w5.drew (w5.heap.size) (by simp) (hS0).size)
        try (replace hz7 := hidden (((show Below (w5.drew).heap.size w5.drew ((w5.drew).alloc (.cells #[] 9)) from (Below.refl _ _).alloc (Nat.le_refl _) _).cell (p := ⟨_, 0, none⟩) (lt_of_cell (a := ⟨_, 0, none⟩) hz7.out)).trans hz7.out))
        clear hK K
        go_simp
        refine wpAnyH_ready (rs := [4, 10]) (by kernel_rfl) (by simp) ?_
        refine AllReadyH.cons rfl (fun K hK => ?_) ?_
        · obtain ⟨v1, w1, hr1, hq1, hb1, hkp1⟩ := keptT_appends hq0.out ⟨gb, 0, none⟩ ks.length cap (ks.take ks.length) (by simp) (fun j y hj => by rw [Go.WideShapes.add_plain, Nat.zero_add]; exact kC.out _ hSn1 j y (by rw [List.getElem?_take] at hj; split at hj; exact hj; cases hj)) (by (try simp) <;> omega) (hSn1).size 68
          refine any_append rfl rfl _ _ _ _ rfl rfl hr1 ?_
          refine hK.out _ _ ((hSn1).trans hb1) (fun hSn2 => ?_)
          replace hq1 := hidden hq1
          try (replace hz7 := hidden ((World.cell?_of_block (hkp1 _ (lt_of_cell (a := ⟨_, 0, none⟩) hz7.out) (by simp [Value.ownBlock]))).trans hz7.out))
          clear hK K
          refine wpAnyH_ready (rs := [10]) (by kernel_rfl) (by simp) ?_
          refine AllReadyH.cons rfl (fun K hK => ?_) AllReadyH.nil
          go_simp
          refine hK.out _ _ ((hSn2).alloc (hSn2).size _) (fun hSn3 => ?_)
          have hz7 := hidden (one_text w1 (.string nm) (w1.heap.size) (by simp))
          try (replace hq0 := hidden (hq0.out.below (w' := ((w1).alloc (.cells #[.string nm] 9))) ((Below.refl _ _).alloc (Nat.le_refl _) _)))
          try (replace hq1 := hidden (hq1.out.below (w' := ((w1).alloc (.cells #[.string nm] 9))) ((Below.refl _ _).alloc (Nat.le_refl _) _)))
          clear hK K
          go_simp
          refine wpAnyH_ready (rs := [11]) (by kernel_rfl) (by simp) ?_
          refine AllReadyH.cons rfl (fun K hK => ?_) AllReadyH.nil
          have hz8 : ∀ j y, [nms][j]? = some y → (((w1).alloc (.cells #[.string nm] 9))).cell? (Addr.add ⟨_, 0, none⟩ j) = some (.string (mkB y)) := fun j y hj => by
            match j, hj with
            | 0, hj => cases hj; rw [hnm.out]; exact hz7.out
            | n + 1, hj => cases hj
          obtain ⟨v2, w2, hr2, hq2, hb2, hkp2⟩ := keptT_appends hq1.out _ 1 1 [nms] rfl hz8 (by (try simp) <;> omega) (hSn3).size 68
          refine any_append rfl rfl _ _ _ _ rfl rfl hr2 ?_
          refine hK.out _ _ ((hSn3).trans hb2) (fun hSn4 => ?_)
          replace hq2 := hidden hq2
          clear hK K
          go_simp
          refine wpAnyH_ready (rs := [15]) (by kernel_rfl) (by simp) ?_
          refine AllReadyH.cons rfl (fun K hK => ?_) AllReadyH.nil
          obtain ⟨v3, w3, hr3, hq3, hb3, -⟩ := keptT_appends hq2.out ⟨gb, 0, none⟩ 0 0 [] (rfl) (fun j y hj => by cases hj) (by (try simp) <;> omega) (hSn4).size 68
          refine any_append rfl rfl _ _ _ _ rfl rfl hr3 ?_
          refine hK.out _ _ ((hSn4).trans hb3) (fun hSn5 => ?_)
          replace hq3 := hidden hq3
          clear hK K
          refine wpAnyH_ready (rs := [16]) (by kernel_rfl) (by simp) ?_
          refine AllReadyH.cons rfl (fun K hK => ?_) AllReadyH.nil
          go_simp
          refine hK.out _ _ hSn5 (fun _ => ?_)
          clear hK K
          refine wpAnyH_done (by kernel_rfl) ?_ _
          go_wp2_with fail
          exact hKK.out _ _ _ _ _ _ _ _ _ _ _ _ _ _ _ _ _ _ ⟨by have := hq3.out.mono hbs; simpa using this, hSn5⟩
        refine AllReadyH.cons rfl (fun K hK => ?_) ?_
        · go_simp
          refine hK.out _ _ ((hSn1).alloc (hSn1).size _) (fun hSn6 => ?_)
          have hz7 := hidden (one_text ((w5.drew).alloc (.cells #[] 9)) (.string nm) (w5.heap.size + 1) (by simp))
          try (replace hq0 := hidden (hq0.out.below (w' := ((((w5.drew).alloc (.cells #[] 9))).alloc (.cells #[.string nm] 9))) ((Below.refl _ _).alloc (Nat.le_refl _) _)))
          try (replace hq1 := hidden (hq1.out.below (w' := ((((w5.drew).alloc (.cells #[] 9))).alloc (.cells #[.string nm] 9))) ((Below.refl _ _).alloc (Nat.le_refl _) _)))
          clear hK K
          go_simp
          refine wpAnyH_ready (rs := [4]) (by kernel_rfl) (by simp) ?_
          refine AllReadyH.cons rfl (fun K hK => ?_) AllReadyH.nil
          obtain ⟨v1, w1, hr1, hq1, hb1, hkp1⟩ := keptT_appends hq0.out ⟨gb, 0, none⟩ ks.length cap (ks.take ks.length) (by simp) (fun j y hj => by rw [Go.WideShapes.add_plain, Nat.zero_add]; exact kC.out _ hSn6 j y (by rw [List.getElem?_take] at hj; split at hj; exact hj; cases hj)) (by (try simp) <;> omega) (hSn6).size 68
          refine any_append rfl rfl _ _ _ _ rfl rfl hr1 ?_
          refine hK.out _ _ ((hSn6).trans hb1) (fun hSn7 => ?_)
          replace hq1 := hidden hq1
          try (replace hz7 := hidden ((World.cell?_of_block (hkp1 _ (lt_of_cell (a := ⟨_, 0, none⟩) hz7.out) (by simp [Value.ownBlock]))).trans hz7.out))
          clear hK K
          go_simp
          refine wpAnyH_ready (rs := [11]) (by kernel_rfl) (by simp) ?_
          refine AllReadyH.cons rfl (fun K hK => ?_) AllReadyH.nil
          have hz8 : ∀ j y, [nms][j]? = some y → (w1).cell? (Addr.add ⟨_, 0, none⟩ j) = some (.string (mkB y)) := fun j y hj => by
            match j, hj with
            | 0, hj => cases hj; rw [hnm.out]; exact hz7.out
            | n + 1, hj => cases hj
          obtain ⟨v2, w2, hr2, hq2, hb2, hkp2⟩ := keptT_appends hq1.out _ 1 1 [nms] rfl hz8 (by (try simp) <;> omega) (hSn7).size 68
          refine any_append rfl rfl _ _ _ _ rfl rfl hr2 ?_
          refine hK.out _ _ ((hSn7).trans hb2) (fun hSn8 => ?_)
          replace hq2 := hidden hq2
          clear hK K
          go_simp
          refine wpAnyH_ready (rs := [15]) (by kernel_rfl) (by simp) ?_
          refine AllReadyH.cons rfl (fun K hK => ?_) AllReadyH.nil
          obtain ⟨v3, w3, hr3, hq3, hb3, -⟩ := keptT_appends hq2.out ⟨gb, 0, none⟩ 0 0 [] (rfl) (fun j y hj => by cases hj) (by (try simp) <;> omega) (hSn8).size 68
          refine any_append rfl rfl _ _ _ _ rfl rfl hr3 ?_
          refine hK.out _ _ ((hSn8).trans hb3) (fun hSn9 => ?_)
          replace hq3 := hidden hq3
          clear hK K
          refine wpAnyH_ready (rs := [16]) (by kernel_rfl) (by simp) ?_
          refine AllReadyH.cons rfl (fun K hK => ?_) AllReadyH.nil
          go_simp
          refine hK.out _ _ hSn9 (fun _ => ?_)
          clear hK K
          refine wpAnyH_done (by kernel_rfl) ?_ _
          go_wp2_with fail
          exact hKK.out _ _ _ _ _ _ _ _ _ _ _ _ _ _ _ _ _ _ ⟨by have := hq3.out.mono hbs; simpa using this, hSn9⟩
        exact AllReadyH.nil
      refine AllReadyH.cons rfl (fun K hK => ?_) ?_
      · go_simp
        refine hK.out _ _ ((hS0).alloc (hS0).size _) (fun hSn10 => ?_)
        have hz7 := hidden (one_text w5.drew (.string nm) (w5.heap.size) (by simp))
        try (replace hq0 := hidden (hq0.out.below (w' := ((w5.drew).alloc (.cells #[.string nm] 9))) ((Below.refl _ _).alloc (Nat.le_refl _) _)))
        try (replace hq1 := hidden (hq1.out.below (w' := ((w5.drew).alloc (.cells #[.string nm] 9))) ((Below.refl _ _).alloc (Nat.le_refl _) _)))
        clear hK K
        refine wpAnyH_ready (rs := [0]) (by kernel_rfl) (by simp) ?_
        refine AllReadyH.cons rfl (fun K hK => ?_) AllReadyH.nil
        go_simp
        refine hK.out _ _ ((hSn10).alloc (hSn10).size _) (fun hSn11 => ?_)
        have hq0 := hidden (keptT_new (base := w5.heap.size) ((w5.drew).alloc (.cells #[.string nm] 9)) (w5.heap.size + 1) (by simp) (hSn10).size)
        try (replace hz7 := hidden (((show Below (((w5.drew).alloc (.cells #[.string nm] 9))).heap.size ((w5.drew).alloc (.cells #[.string nm] 9)) ((((w5.drew).alloc (.cells #[.string nm] 9))).alloc (.cells #[] 9)) from (Below.refl _ _).alloc (Nat.le_refl _) _).cell (p := ⟨_, 0, none⟩) (lt_of_cell (a := ⟨_, 0, none⟩) hz7.out)).trans hz7.out))
        clear hK K
        go_simp
        refine wpAnyH_ready (rs := [4]) (by kernel_rfl) (by simp) ?_
        refine AllReadyH.cons rfl (fun K hK => ?_) AllReadyH.nil
        obtain ⟨v1, w1, hr1, hq1, hb1, hkp1⟩ := keptT_appends hq0.out ⟨gb, 0, none⟩ ks.length cap (ks.take ks.length) (by simp) (fun j y hj => by rw [Go.WideShapes.add_plain, Nat.zero_add]; exact kC.out _ hSn11 j y (by rw [List.getElem?_take] at hj; split at hj; exact hj; cases hj)) (by (try simp) <;> omega) (hSn11).size 68
        refine any_append rfl rfl _ _ _ _ rfl rfl hr1 ?_
        refine hK.out _ _ ((hSn11).trans hb1) (fun hSn12 => ?_)
        replace hq1 := hidden hq1
        try (replace hz7 := hidden ((World.cell?_of_block (hkp1 _ (lt_of_cell (a := ⟨_, 0, none⟩) hz7.out) (by simp [Value.ownBlock]))).trans hz7.out))
        clear hK K
        go_simp
        refine wpAnyH_ready (rs := [11]) (by kernel_rfl) (by simp) ?_
        refine AllReadyH.cons rfl (fun K hK => ?_) AllReadyH.nil
        have hz8 : ∀ j y, [nms][j]? = some y → (w1).cell? (Addr.add ⟨_, 0, none⟩ j) = some (.string (mkB y)) := fun j y hj => by
          match j, hj with
          | 0, hj => cases hj; rw [hnm.out]; exact hz7.out
          | n + 1, hj => cases hj
        obtain ⟨v2, w2, hr2, hq2, hb2, hkp2⟩ := keptT_appends hq1.out _ 1 1 [nms] rfl hz8 (by (try simp) <;> omega) (hSn12).size 68
        refine any_append rfl rfl _ _ _ _ rfl rfl hr2 ?_
        refine hK.out _ _ ((hSn12).trans hb2) (fun hSn13 => ?_)
        replace hq2 := hidden hq2
        clear hK K
        go_simp
        refine wpAnyH_ready (rs := [15]) (by kernel_rfl) (by simp) ?_
        refine AllReadyH.cons rfl (fun K hK => ?_) AllReadyH.nil
        obtain ⟨v3, w3, hr3, hq3, hb3, -⟩ := keptT_appends hq2.out ⟨gb, 0, none⟩ 0 0 [] (rfl) (fun j y hj => by cases hj) (by (try simp) <;> omega) (hSn13).size 68
        refine any_append rfl rfl _ _ _ _ rfl rfl hr3 ?_
        refine hK.out _ _ ((hSn13).trans hb3) (fun hSn14 => ?_)
        replace hq3 := hidden hq3
        clear hK K
        refine wpAnyH_ready (rs := [16]) (by kernel_rfl) (by simp) ?_
        refine AllReadyH.cons rfl (fun K hK => ?_) AllReadyH.nil
        go_simp
        refine hK.out _ _ hSn14 (fun _ => ?_)
        clear hK K
        refine wpAnyH_done (by kernel_rfl) ?_ _
        go_wp2_with fail
        exact hKK.out _ _ _ _ _ _ _ _ _ _ _ _ _ _ _ _ _ _ ⟨by have := hq3.out.mono hbs; simpa using this, hSn14⟩
      exact AllReadyH.nil
    · skip
      refine wp_region_held_drew (S := fun w' => Below w5.heap.size w5 w') (by kernel_rfl) hS0 ?_
      intro _
      refine wpAnyH_take (i := 1) (v := ?_) rfl (by kernel_rfl) (by kernel_rfl) (by kernel_rfl) (fun _ _ _ h => hQp.out _ _ _ _ h rfl) (Or.inl ⟨by rfl, ?_⟩) hS0 ?_
      rotate_left
      · intro w hw; clear hw; go_simp; try (with_reducible rfl)
      refine wpAnyH_take (i := 2) (v := ?_) rfl (by kernel_rfl) (by kernel_rfl) (by kernel_rfl) (fun _ _ _ h => hQp.out _ _ _ _ h rfl) (Or.inl ⟨by rfl, ?_⟩) hS0 ?_
      rotate_left
      · intro w hw; clear hw; go_simp; try (with_reducible rfl)
      refine wpAnyH_take (i := 3) (v := ?_) rfl (by kernel_rfl) (by kernel_rfl) (by kernel_rfl) (fun _ _ _ h => hQp.out _ _ _ _ h rfl) (Or.inl ⟨by rfl, ?_⟩) hS0 ?_
      rotate_left
      · intro w hw; clear hw; go_simp; try (with_reducible rfl)
      refine wpAnyH_take (i := 5) (v := ?_) rfl (by kernel_rfl) (by kernel_rfl) (by kernel_rfl) (fun _ _ _ h => hQp.out _ _ _ _ h rfl) (Or.inl ⟨by rfl, ?_⟩) hS0 ?_
      rotate_left
      · intro w hw; clear hw; go_simp; try (with_reducible rfl)
      refine wpAnyH_take (i := 6) (v := ?_) rfl (by kernel_rfl) (by kernel_rfl) (by kernel_rfl) (fun _ _ _ h => hQp.out _ _ _ _ h rfl) (Or.inl ⟨by rfl, ?_⟩) hS0 ?_
      rotate_left
      · intro w hw; clear hw; go_simp; try (with_reducible rfl)
      refine wpAnyH_take (i := 7) (v := ?_) rfl (by kernel_rfl) (by kernel_rfl) (by kernel_rfl) (fun _ _ _ h => hQp.out _ _ _ _ h rfl) (Or.inl ⟨by rfl, ?_⟩) hS0 ?_
      rotate_left
      · intro w hw; clear hw; go_simp; try (with_reducible rfl)
      refine wpAnyH_take (i := 8) (v := ?_) rfl (by kernel_rfl) (by kernel_rfl) (by kernel_rfl) (fun _ _ _ h => hQp.out _ _ _ _ h rfl) (Or.inl ⟨by rfl, ?_⟩) hS0 ?_
      rotate_left
      · intro w hw; clear hw; go_simp; try (with_reducible rfl)
      refine wpAnyH_take (i := 9) (v := ?_) rfl (by kernel_rfl) (by kernel_rfl) (by kernel_rfl) (fun _ _ _ h => hQp.out _ _ _ _ h rfl) (Or.inl ⟨by rfl, ?_⟩) hS0 ?_
      rotate_left
      · intro w hw; have c1 := k1.out _ hw; clear hw; go_simp; try (with_reducible rfl)
      refine wpAnyH_take (i := 12) (v := ?_) rfl (by kernel_rfl) (by kernel_rfl) (by kernel_rfl) (fun _ _ _ h => hQp.out _ _ _ _ h rfl) (Or.inl ⟨by rfl, ?_⟩) hS0 ?_
      rotate_left
      · intro w hw; clear hw; go_simp; try (with_reducible rfl)
      refine wpAnyH_take (i := 13) (v := ?_) rfl (by kernel_rfl) (by kernel_rfl) (by kernel_rfl) (fun _ _ _ h => hQp.out _ _ _ _ h rfl) (Or.inl ⟨by rfl, ?_⟩) hS0 ?_
      rotate_left
      · intro w hw; clear hw; go_simp; try (with_reducible rfl)
      refine wpAnyH_take (i := 14) (v := ?_) rfl (by kernel_rfl) (by kernel_rfl) (by kernel_rfl) (fun _ _ _ h => hQp.out _ _ _ _ h rfl) (Or.inl ⟨by rfl, ?_⟩) hS0 ?_
      rotate_left
      · intro w hw; clear hw; go_simp; try (with_reducible rfl)
      refine wpAnyH_ready (rs := [0, 10]) (by kernel_rfl) (by simp) ?_
      refine AllReadyH.cons rfl (fun K hK => ?_) ?_
      · go_simp
        refine hK.out _ _ ((hS0).alloc (hS0).size _) (fun hSn1 => ?_)
        have hq0 := hidden (keptT_new (base := w5.heap.size) w5.drew (w5.heap.size) (by simp) (hS0).size)
        try (replace hz7 := hidden (((show Below (w5.drew).heap.size w5.drew ((w5.drew).alloc (.cells #[] 9)) from (Below.refl _ _).alloc (Nat.le_refl _) _).cell (p := ⟨_, 0, none⟩) (lt_of_cell (a := ⟨_, 0, none⟩) hz7.out)).trans hz7.out))
        clear hK K
        go_simp
        refine wpAnyH_ready (rs := [4, 10]) (by kernel_rfl) (by simp) ?_
        refine AllReadyH.cons rfl (fun K hK => ?_) ?_
        · obtain ⟨v1, w1, hr1, hq1, hb1, hkp1⟩ := keptT_appends hq0.out ⟨gb, 0, none⟩ k cap (ks.take k) (by simp; omega) (fun j y hj => by rw [Go.WideShapes.add_plain, Nat.zero_add]; exact kC.out _ hSn1 j y (by rw [List.getElem?_take] at hj; split at hj; exact hj; cases hj)) (by (try simp) <;> omega) (hSn1).size 68
          refine any_append rfl rfl _ _ _ _ rfl rfl hr1 ?_
          refine hK.out _ _ ((hSn1).trans hb1) (fun hSn2 => ?_)
          replace hq1 := hidden hq1
          try (replace hz7 := hidden ((World.cell?_of_block (hkp1 _ (lt_of_cell (a := ⟨_, 0, none⟩) hz7.out) (by simp [Value.ownBlock]))).trans hz7.out))
          clear hK K
          refine wpAnyH_ready (rs := [10]) (by kernel_rfl) (by simp) ?_
          refine AllReadyH.cons rfl (fun K hK => ?_) AllReadyH.nil
          go_simp
          refine hK.out _ _ ((hSn2).alloc (hSn2).size _) (fun hSn3 => ?_)
          have hz7 := hidden (one_text w1 (.string nm) (w1.heap.size) (by simp))
          try (replace hq0 := hidden (hq0.out.below (w' := ((w1).alloc (.cells #[.string nm] 9))) ((Below.refl _ _).alloc (Nat.le_refl _) _)))
          try (replace hq1 := hidden (hq1.out.below (w' := ((w1).alloc (.cells #[.string nm] 9))) ((Below.refl _ _).alloc (Nat.le_refl _) _)))
          clear hK K
          go_simp
          refine wpAnyH_ready (rs := [11]) (by kernel_rfl) (by simp) ?_
          refine AllReadyH.cons rfl (fun K hK => ?_) AllReadyH.nil
          have hz8 : ∀ j y, [nms][j]? = some y → (((w1).alloc (.cells #[.string nm] 9))).cell? (Addr.add ⟨_, 0, none⟩ j) = some (.string (mkB y)) := fun j y hj => by
            match j, hj with
            | 0, hj => cases hj; rw [hnm.out]; exact hz7.out
            | n + 1, hj => cases hj
          obtain ⟨v2, w2, hr2, hq2, hb2, hkp2⟩ := keptT_appends hq1.out _ 1 1 [nms] rfl hz8 (by (try simp) <;> omega) (hSn3).size 68
          refine any_append rfl rfl _ _ _ _ rfl rfl hr2 ?_
          refine hK.out _ _ ((hSn3).trans hb2) (fun hSn4 => ?_)
          replace hq2 := hidden hq2
          clear hK K
          go_simp
          refine wpAnyH_ready (rs := [15]) (by kernel_rfl) (by simp) ?_
          refine AllReadyH.cons rfl (fun K hK => ?_) AllReadyH.nil
          obtain ⟨v3, w3, hr3, hq3, hb3, -⟩ := keptT_appends hq2.out ⟨gb, k, none⟩ (ks.length - k) (cap - k) (ks.drop k) (by simp) (fun j y hj => by rw [Go.WideShapes.add_plain]; exact kC.out _ hSn4 (k + j) y (by rw [List.getElem?_drop] at hj; exact hj)) (by (try simp) <;> omega) (hSn4).size 68
          refine any_append rfl rfl _ _ _ _ rfl rfl hr3 ?_
          refine hK.out _ _ ((hSn4).trans hb3) (fun hSn5 => ?_)
          replace hq3 := hidden hq3
          clear hK K
          refine wpAnyH_ready (rs := [16]) (by kernel_rfl) (by simp) ?_
          refine AllReadyH.cons rfl (fun K hK => ?_) AllReadyH.nil
          go_simp
          refine hK.out _ _ hSn5 (fun _ => ?_)
          clear hK K
          refine wpAnyH_done (by kernel_rfl) ?_ _
          go_wp2_with fail
          exact hKK.out _ _ _ _ _ _ _ _ _ _ _ _ _ _ _ _ _ _ ⟨by have := hq3.out.mono hbs; simpa using this, hSn5⟩
        refine AllReadyH.cons rfl (fun K hK => ?_) ?_
        · go_simp
          refine hK.out _ _ ((hSn1).alloc (hSn1).size _) (fun hSn6 => ?_)
          have hz7 := hidden (one_text ((w5.drew).alloc (.cells #[] 9)) (.string nm) (w5.heap.size + 1) (by simp))
          try (replace hq0 := hidden (hq0.out.below (w' := ((((w5.drew).alloc (.cells #[] 9))).alloc (.cells #[.string nm] 9))) ((Below.refl _ _).alloc (Nat.le_refl _) _)))
          try (replace hq1 := hidden (hq1.out.below (w' := ((((w5.drew).alloc (.cells #[] 9))).alloc (.cells #[.string nm] 9))) ((Below.refl _ _).alloc (Nat.le_refl _) _)))
          clear hK K
          go_simp
          refine wpAnyH_ready (rs := [4]) (by kernel_rfl) (by simp) ?_
          refine AllReadyH.cons rfl (fun K hK => ?_) AllReadyH.nil
          obtain ⟨v1, w1, hr1, hq1, hb1, hkp1⟩ := keptT_appends hq0.out ⟨gb, 0, none⟩ k cap (ks.take k) (by simp; omega) (fun j y hj => by rw [Go.WideShapes.add_plain, Nat.zero_add]; exact kC.out _ hSn6 j y (by rw [List.getElem?_take] at hj; split at hj; exact hj; cases hj)) (by (try simp) <;> omega) (hSn6).size 68
          refine any_append rfl rfl _ _ _ _ rfl rfl hr1 ?_
          refine hK.out _ _ ((hSn6).trans hb1) (fun hSn7 => ?_)
          replace hq1 := hidden hq1
          try (replace hz7 := hidden ((World.cell?_of_block (hkp1 _ (lt_of_cell (a := ⟨_, 0, none⟩) hz7.out) (by simp [Value.ownBlock]))).trans hz7.out))
          clear hK K
          go_simp
          refine wpAnyH_ready (rs := [11]) (by kernel_rfl) (by simp) ?_
          refine AllReadyH.cons rfl (fun K hK => ?_) AllReadyH.nil
          have hz8 : ∀ j y, [nms][j]? = some y → (w1).cell? (Addr.add ⟨_, 0, none⟩ j) = some (.string (mkB y)) := fun j y hj => by
            match j, hj with
            | 0, hj => cases hj; rw [hnm.out]; exact hz7.out
            | n + 1, hj => cases hj
          obtain ⟨v2, w2, hr2, hq2, hb2, hkp2⟩ := keptT_appends hq1.out _ 1 1 [nms] rfl hz8 (by (try simp) <;> omega) (hSn7).size 68
          refine any_append rfl rfl _ _ _ _ rfl rfl hr2 ?_
          refine hK.out _ _ ((hSn7).trans hb2) (fun hSn8 => ?_)
          replace hq2 := hidden hq2
          clear hK K
          go_simp
          refine wpAnyH_ready (rs := [15]) (by kernel_rfl) (by simp) ?_
          refine AllReadyH.cons rfl (fun K hK => ?_) AllReadyH.nil
          obtain ⟨v3, w3, hr3, hq3, hb3, -⟩ := keptT_appends hq2.out ⟨gb, k, none⟩ (ks.length - k) (cap - k) (ks.drop k) (by simp) (fun j y hj => by rw [Go.WideShapes.add_plain]; exact kC.out _ hSn8 (k + j) y (by rw [List.getElem?_drop] at hj; exact hj)) (by (try simp) <;> omega) (hSn8).size 68
          refine any_append rfl rfl _ _ _ _ rfl rfl hr3 ?_
          refine hK.out _ _ ((hSn8).trans hb3) (fun hSn9 => ?_)
          replace hq3 := hidden hq3
          clear hK K
          refine wpAnyH_ready (rs := [16]) (by kernel_rfl) (by simp) ?_
          refine AllReadyH.cons rfl (fun K hK => ?_) AllReadyH.nil
          go_simp
          refine hK.out _ _ hSn9 (fun _ => ?_)
          clear hK K
          refine wpAnyH_done (by kernel_rfl) ?_ _
          go_wp2_with fail
          exact hKK.out _ _ _ _ _ _ _ _ _ _ _ _ _ _ _ _ _ _ ⟨by have := hq3.out.mono hbs; simpa using this, hSn9⟩
        exact AllReadyH.nil
      refine AllReadyH.cons rfl (fun K hK => ?_) ?_
      · go_simp
        refine hK.out _ _ ((hS0).alloc (hS0).size _) (fun hSn10 => ?_)
        have hz7 := hidden (one_text w5.drew (.string nm) (w5.heap.size) (by simp))
        try (replace hq0 := hidden (hq0.out.below (w' := ((w5.drew).alloc (.cells #[.string nm] 9))) ((Below.refl _ _).alloc (Nat.le_refl _) _)))
        try (replace hq1 := hidden (hq1.out.below (w' := ((w5.drew).alloc (.cells #[.string nm] 9))) ((Below.refl _ _).alloc (Nat.le_refl _) _)))
        clear hK K
        refine wpAnyH_ready (rs := [0]) (by kernel_rfl) (by simp) ?_
        refine AllReadyH.cons rfl (fun K hK => ?_) AllReadyH.nil
        go_simp
        refine hK.out _ _ ((hSn10).alloc (hSn10).size _) (fun hSn11 => ?_)
        have hq0 := hidden (keptT_new (base := w5.heap.size) ((w5.drew).alloc (.cells #[.string nm] 9)) (w5.heap.size + 1) (by simp) (hSn10).size)
        try (replace hz7 := hidden (((show Below (((w5.drew).alloc (.cells #[.string nm] 9))).heap.size ((w5.drew).alloc (.cells #[.string nm] 9)) ((((w5.drew).alloc (.cells #[.string nm] 9))).alloc (.cells #[] 9)) from (Below.refl _ _).alloc (Nat.le_refl _) _).cell (p := ⟨_, 0, none⟩) (lt_of_cell (a := ⟨_, 0, none⟩) hz7.out)).trans hz7.out))
        clear hK K
        go_simp
        refine wpAnyH_ready (rs := [4]) (by kernel_rfl) (by simp) ?_
        refine AllReadyH.cons rfl (fun K hK => ?_) AllReadyH.nil
        obtain ⟨v1, w1, hr1, hq1, hb1, hkp1⟩ := keptT_appends hq0.out ⟨gb, 0, none⟩ k cap (ks.take k) (by simp; omega) (fun j y hj => by rw [Go.WideShapes.add_plain, Nat.zero_add]; exact kC.out _ hSn11 j y (by rw [List.getElem?_take] at hj; split at hj; exact hj; cases hj)) (by (try simp) <;> omega) (hSn11).size 68
        refine any_append rfl rfl _ _ _ _ rfl rfl hr1 ?_
        refine hK.out _ _ ((hSn11).trans hb1) (fun hSn12 => ?_)
        replace hq1 := hidden hq1
        try (replace hz7 := hidden ((World.cell?_of_block (hkp1 _ (lt_of_cell (a := ⟨_, 0, none⟩) hz7.out) (by simp [Value.ownBlock]))).trans hz7.out))
        clear hK K
        go_simp
        refine wpAnyH_ready (rs := [11]) (by kernel_rfl) (by simp) ?_
        refine AllReadyH.cons rfl (fun K hK => ?_) AllReadyH.nil
        have hz8 : ∀ j y, [nms][j]? = some y → (w1).cell? (Addr.add ⟨_, 0, none⟩ j) = some (.string (mkB y)) := fun j y hj => by
          match j, hj with
          | 0, hj => cases hj; rw [hnm.out]; exact hz7.out
          | n + 1, hj => cases hj
        obtain ⟨v2, w2, hr2, hq2, hb2, hkp2⟩ := keptT_appends hq1.out _ 1 1 [nms] rfl hz8 (by (try simp) <;> omega) (hSn12).size 68
        refine any_append rfl rfl _ _ _ _ rfl rfl hr2 ?_
        refine hK.out _ _ ((hSn12).trans hb2) (fun hSn13 => ?_)
        replace hq2 := hidden hq2
        clear hK K
        go_simp
        refine wpAnyH_ready (rs := [15]) (by kernel_rfl) (by simp) ?_
        refine AllReadyH.cons rfl (fun K hK => ?_) AllReadyH.nil
        obtain ⟨v3, w3, hr3, hq3, hb3, -⟩ := keptT_appends hq2.out ⟨gb, k, none⟩ (ks.length - k) (cap - k) (ks.drop k) (by simp) (fun j y hj => by rw [Go.WideShapes.add_plain]; exact kC.out _ hSn13 (k + j) y (by rw [List.getElem?_drop] at hj; exact hj)) (by (try simp) <;> omega) (hSn13).size 68
        refine any_append rfl rfl _ _ _ _ rfl rfl hr3 ?_
        refine hK.out _ _ ((hSn13).trans hb3) (fun hSn14 => ?_)
        replace hq3 := hidden hq3
        clear hK K
        refine wpAnyH_ready (rs := [16]) (by kernel_rfl) (by simp) ?_
        refine AllReadyH.cons rfl (fun K hK => ?_) AllReadyH.nil
        go_simp
        refine hK.out _ _ hSn14 (fun _ => ?_)
        clear hK K
        refine wpAnyH_done (by kernel_rfl) ?_ _
        go_wp2_with fail
        exact hKK.out _ _ _ _ _ _ _ _ _ _ _ _ _ _ _ _ _ _ ⟨by have := hq3.out.mono hbs; simpa using this, hSn14⟩
      exact AllReadyH.nil
end Go.Proofs.YtdkpffpjbpfdnaaGreatDoor
