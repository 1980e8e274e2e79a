/- Drop of a name, over the state itself: what may be taken stays so. -/
import Derived.Test.YtjionogjeafffaaGreatDoorGXd
import Derived.Test.YtjionogjeafffaaGreatDoorGVk
import Derived.Test.YtjionogjeafffaaGreatDoorGXf
import Derived.Test.YtjionogjeafffaaGreatDoorGVg
import Derived.Deep.RegionHeld
import Derived.Test.YtjionogjeafffaaGreatDoorGWt
namespace Go.Proofs.YtjionogjeafffaaGreatDoor
open Go.RowKit Go.Extern.Stop Go.Stop Go.Extern Go.Maps Go.Sort Go.Shelf
set_option maxRecDepth 100000

section
variable {E : TE} {w w' : World} {K : Nat → Nat} {D : Nat → List Int} {f u lim : Nat} {p db : Nat}
theorem tcutU (h : S8 E K D f u lim w) (ok : E.Ok) (p1 : 1 ≤ p) (p2 : p ≤ E.tn) (hk : K p = 2) (hR : E.R p) (hW : E.W p) {S2 : Nat} (hS : S2 ≤ (D p).length) :
    Calls Tryz.prog 60 #[ptr E.tb, .int .i64 (p : Nat), .int .i64 S2] w fun e w' => e = .returned .nilIface ∧ (∃ f', S8 E K (upd D p (cutL (D p) S2)) f' u lim w' ∧ (f' : Int) + blk (S2 : Int) = (f : Int) + blk ((D p).length : Int)) ∧ Apart [E.mb] w w' := by
  have hl := h.len p1 p2
  have hge : blk (S2 : Int) ≤ blk ((D p).length : Int) := blk_upD (by omega) (by omega) (by omega)
  by_cases hlt : S2 < (D p).length
  · obtain ⟨n, hn⟩ : ∃ n : Nat, blk ((D p).length : Int) - blk (S2 : Int) = (n : Int) := ⟨(blk ((D p).length : Int) - blk (S2 : Int)).toNat, by omega⟩
    refine (S8.cutless ok h p1 p2 hR hW (by rw [hk]; decide) hlt hn).mono ?_
    rintro e w' ⟨rfl, r1, r2⟩
    rw [← cutL_less _ _ (by omega)] at r1
    exact ⟨rfl, ⟨_, r1, by omega⟩, r2⟩
  · obtain rfl : S2 = (D p).length := by omega
    refine (S8.cutmore ok h p1 p2 hR hW (by rw [hk]; decide) (n := 0) (Nat.le_refl _) hl (by unfold growb; omega) (Nat.zero_le _)).mono ?_
    rintro e w' ⟨rfl, r1, r2⟩
    rw [← cutL_more _ _ (Nat.le_refl _)] at r1
    exact ⟨rfl, ⟨_, r1, by omega⟩, r2⟩
set_option maxHeartbeats 2000000 in
theorem dcutU (h : S8 E K D f u lim w) (ok : E.Ok) (p1 : 1 ≤ p) (p2 : p ≤ E.tn) (hk : K p = 2) (hR : E.R p) (hW : E.W p) (hd : DirAt E db p w) {n : Nat} (hn : 32 * n ≤ (D p).length) :
    Calls Tryz.prog 233 #[ptr db, .int .i64 n] w fun e w' => e = .returned .nilIface ∧ (∃ f', S8 E K (upd D p (cutL (D p) (32 * n))) f' u lim w' ∧ (f' : Int) + blk ((32 * n : Nat) : Int) = (f : Int) + blk ((D p).length : Int)) ∧ Apart [E.mb] w w' := by
  have hBd := below_drew1 w
  have hd' := hd.below hBd
  have d0 := hd'.d0
  have d1 := hd'.d1
  have hlt := hd.lt
  have hn4 : 32 * n ≤ 4000 := Nat.le_trans hn (h.len p1 p2)
  have kC := tcutU (h.more hBd) ok p1 p2 hk hR hW hn
  rw [show ((32 * n : Nat) : Int) = (n : Int) * 32 by omega] at kC
  rw [show ((32 * n : Nat) : Int) = (n : Int) * 32 by omega]
  replace kC := hidden kC
  have hwm := wrap_inD ((n : Int) * 32) (by omega) (by omega)
  replace hBd := hidden hBd
  clear h hd hd'
  go_enter Tryz.func233, Tryz.ntmps233
  go_upto_region 1 with fail
  go_region_with (go_at_call 60; refine (kC.out).mono ?_; rintro ev w3 ⟨rfl, hD3, hA3⟩)
  all_goals
    have hE := hidden (And.intro hD3 ((Apart.of_below (bs := [E.mb]) hBd.out).trans hA3))
    clear hD3 hA3
    go_wp2
    go_ret
    exact ⟨rfl, hE.out⟩
set_option maxHeartbeats 2000000 in
theorem ddropU (h : S8 E K D f u lim w) (ok : E.Ok) {L : List Rec} (p1 : 1 ≤ p) (p2 : p ≤ E.tn) (hk : K p = 2) (hD : D p = recsL L) (hg : GoodL L) (hd : DirAt E db p w) {i : Nat} {r : Rec} (hr : L[i]? = some r) (hR : E.R p) (hW : E.W p) :
    Calls Tryz.prog 184 #[ptr db, .string (mkB r.s)] w fun e w' => e = .returned .nilIface ∧ (∃ f', S8 E K (upd D p (recsL (dropR L i))) f' u lim w' ∧ f' + bkL (dropR L i).length = f + bkL L.length) ∧ Apart [E.mb] w w' := by
  have hi : i < L.length := (List.getElem?_eq_some_iff.1 hr).1
  have hrl := recsL_len hg.each
  have hL : 32 * L.length ≤ 4000 := by have := h.len p1 p2; rw [hD, hrl] at this; exact this
  have kF := hidden (dfind_at (h.dl hD hg hd) (eok ok p1 p2 hk _) hr)
  have hdm := hd.ne h
  obtain ⟨n, hn⟩ : ∃ n, L.length = n + 1 := ⟨L.length - 1, by omega⟩
  have hdl := dropR_len hi
  have e0 := bkL_eq L.length
  have e1 := bkL_eq n
  have hgd := hidden (hg.drop hi)
  have hEnd : ∀ (M : List Rec) (f' : Nat) (wx : World), M.length = L.length → (∀ x ∈ M, x.Good) → dropR L i = M.take n → S8 E K (upd (upd D p (recsL M)) p (cutL (upd D p (recsL M) p) (32 * n))) f' u lim wx → (f' : Int) + blk ((32 * n : Nat) : Int) = (f : Int) + blk ((upd D p (recsL M) p).length : Int) → ∃ f', S8 E K (upd D p (recsL (dropR L i))) f' u lim wx ∧ f' + bkL (dropR L i).length = f + bkL L.length := fun M f' wx hM hMg hdr hS hf => by
    rw [upd_same, upd_upd, recs_cut hMg n (by omega), ← hdr] at hS
    rw [upd_same, recsL_len hMg, hM] at hf
    refine ⟨f', hS, ?_⟩
    rw [hdl, hn, show n + 1 - 1 = n by omega]
    rw [hn] at e0 hf
    omega
  have hX := hidden (And.intro h (And.intro ok (And.intro hg hd)))
  have hRW := hidden (And.intro hR hW)
  replace hEnd := hidden hEnd
  replace hDh := hidden hD
  replace hdl := hidden hdl
  replace e0 := hidden e0
  replace e1 := hidden e1
  replace hrl := hidden hrl
  clear h ok hg hd hR hW hD
  go_enter Tryz.func184, Tryz.ntmps184
  go_wp2_with fail
  refine (kF.out).mono ?_
  rintro ev w2 ⟨v, rfl, hO, hB⟩
  obtain ⟨la, lc, rfl⟩ := hO.form
  have hO' := hidden hO
  have hX2 := hidden (And.intro (hX.out.1.more hB) (hX.out.2.2.2.below hB))
  have hBh := hidden hB
  clear hB kF
  have hsub : ((L.length : Nat) : Int) - 1 = (n : Int) := by omega
  by_cases hlast : i = n
  · have hdr : dropR L i = L.take n := by
      have := dropR_last (L := L) (by omega)
      rw [hn, show n + 1 - 1 = n by omega] at this
      rw [hlast]
      exact this
    have hS2 : S8 E K (upd D p (recsL L)) f u lim w2 := by
      have := hX2.out.1
      rw [← upd_self D p, hDh.out] at this
      exact this
    have kC := hidden (dcutU hS2 hX.out.2.1 p1 p2 hk hRW.out.1 hRW.out.2 hX2.out.2 (n := n) (by rw [upd_same, hrl.out]; omega))
    replace hdr := hidden hdr
    have hii : (i : Int) = (n : Int) := by omega
    clear hO hS2
    go_wp2_with fail
    refine (kC.out).mono ?_
    rintro ev w4 ⟨rfl, ⟨f', hS4, hf4⟩, hA⟩
    have hZ := hidden (And.intro (hEnd.out L f' w4 rfl hX.out.2.2.1.each hdr.out hS4 hf4) (show Apart [E.mb] w w4 from (Apart.of_below (bs := [E.mb]) hBh.out).trans hA))
    clear hS4 hf4 hA kC
    go_wp2
    go_ret
    exact ⟨rfl, hZ.out⟩
  · obtain ⟨q, hq⟩ : ∃ q, L[n]? = some q := ⟨_, List.getElem?_eq_getElem (by omega)⟩
    have hqg := hX.out.2.2.1.each q (List.mem_of_getElem? hq)
    have hDL2 := hX2.out.1.dl hDh.out hX.out.2.2.1 hX2.out.2
    have kL := lay_calls (S2 := 32 * L.length) hDL2.b (eok hX.out.2.1 p1 p2 hk _) ⟨hRW.out.1, hRW.out.2⟩ i q hqg (by omega) (by rw [hrl.out]; omega) (Or.inl (by rw [hrl.out]))
    rw [recs_set hX.out.2.2.1.each hqg.len i hi] at kL
    replace kL := hidden kL
    obtain ⟨a', c', hv, hcs⟩ := hO.at
    obtain ⟨rfl, -, rfl⟩ := Value.slice.inj hv
    obtain ⟨bb, off, rfl, hbb, hcell⟩ := hcs (by intro e; rw [e] at hi; simp at hi)
    obtain ⟨c0, c1⟩ := hcell n q hq
    have hdr : dropR L i = (L.set i q).take n := by
      have := dropR_get (i := i) (show L[L.length - 1]? = some q by rw [hn]; exact hq)
      rw [hn, show n + 1 - 1 = n by omega] at this
      exact this
    replace hdr := hidden hdr
    have hii : ¬ (i : Int) = (n : Int) := by omega
    have hnl : (n : Int) < (L.length : Int) := by omega
    have hqg' := hidden hqg
    clear hO hv hcs hcell hqg hDL2
    go_wp2_with fail
    refine (kL.out).mono ?_
    rintro ev w4 ⟨rfl, hD4, hA⟩
    have hset : ∀ x ∈ L.set i q, x.Good := fun x hx => by
      rcases List.mem_or_eq_of_mem_set hx with hx | rfl
      · exact hX.out.2.2.1.each x hx
      · exact hqg'.out
    obtain ⟨f4, u4, s1, s2, s3⟩ := hD4.s
    rw [recsL_len hset, List.length_set] at s2 s3
    have s3' : (bkL L.length : Int) + (u : Int) ≤ (u4 : Int) + blk ((32 * L.length : Nat) : Int) := s3 (Int.le_of_eq e0.out)
    have s2' : (f4 : Int) + blk ((32 * L.length : Nat) : Int) = ((f + bkL L.length : Nat) : Int) := s2
    have hf4 : f4 = f := by have := e0.out; omega
    have s1' : S8 E K (upd D p (recsL (L.set i q))) f u lim w4 := by
      rw [hf4] at s1
      exact S8.low s1 (by have := e0.out; omega)
    have hA4' : Apart [E.mb] w2 w4 := hA
    have kC := hidden (dcutU s1' hX.out.2.1 p1 p2 hk hRW.out.1 hRW.out.2 (hX2.out.2.keep hA4' (by simpa using hdm)) (n := n) (by rw [upd_same, recsL_len hset, List.length_set]; omega))
    have hA4 := hidden ((Apart.of_below (bs := [E.mb]) hBh.out).trans hA4')
    replace hset := hidden hset
    clear hD4 hA kL hA4' s1 s2 s3 s2' s3' s1' hf4
    go_wp2_with fail
    refine (kC.out).mono ?_
    rintro ev w5 ⟨rfl, ⟨f', hS5, hf5⟩, hA⟩
    have hZ := hidden (And.intro (hEnd.out (L.set i q) f' w5 List.length_set hset.out hdr.out hS5 hf5) (hA4.out.trans hA))
    clear hS5 hf5 hA kC
    go_wp2
    go_ret
    exact ⟨rfl, hZ.out⟩
set_option maxHeartbeats 1000000 in
theorem dDropU (h : S8 E K D f u lim w) (ok : E.Ok) {L : List Rec} (p1 : 1 ≤ p) (p2 : p ≤ E.tn) (hk : K p = 2) (hD : D p = recsL L) (hg : GoodL L) (hd : DirAt E db p w) {i : Nat} {r : Rec} (hr : L[i]? = some r) (hR : E.R p) (hW : E.W p) :
    Calls Tryz.prog 141 #[ptr db, .string (mkB r.s)] w fun e w' => e = .returned .nilIface ∧ (∃ f', S8 E K (upd D p (recsL (dropR L i))) f' u lim w' ∧ f' + bkL (dropR L i).length = f + bkL L.length) ∧ Apart [E.mb] w w' := by
  have kF := hidden (ddropU h ok p1 p2 hk hD hg hd hr hR hW)
  have kW := hidden (fun (wx : World) => dwrong_nil (mkB r.s) wx)
  clear h ok hg hd hR hW hD
  go_enter Tryz.func141, Tryz.ntmps141
  go_wp2_with fail
  refine (kF.out).mono ?_
  rintro ev w2 ⟨rfl, hD, hA⟩
  have hE := hidden (And.intro hD hA)
  clear hD hA kF
  go_wp2_with fail
  refine (kW.out _).mono ?_
  rintro ev w3 ⟨rfl, rfl⟩
  go_wp2
  go_ret
  exact ⟨rfl, hE.out⟩
end
end Go.Proofs.YtjionogjeafffaaGreatDoor
/- What has a name taken away with it: drop. -/
namespace Go.Proofs.YtjionogjeafffaaGreatDoor
open Go.RowKit Go.Extern.Stop Go.Stop Go.Extern Go.Maps Go.Sort Go.Shelf
set_option maxRecDepth 1000000

section
variable {fb rs hb : Nat} {E : TE} {w w' : World} {K : Nat → Nat} {D : Nat → List Int} {T : Nat → List Rec} {f u lim : Nat}
/-- What drop's last region reads. -/
structure DpS (fb nb : Nat) (E : TE) (id : Int) (w : World) : Prop where
  t : w.cell? ⟨fb, 2, none⟩ = some (ptr E.tb)
  n : w.cell? ⟨nb, 0, none⟩ = some (.int .i64 id)
theorem DpS.keep {nb : Nat} {id : Int} {bs : List Nat} (h : DpS fb nb E id w) (ha : Apart bs w w') (h1 : fb ∉ bs) (h2 : nb ∉ bs) : DpS fb nb E id w' := ⟨(ha.cell (p := ⟨fb, 2, none⟩) (lt_of_cell (a := ⟨fb, 2, none⟩) h.t) h1).trans h.t, (ha.cell (p := ⟨nb, 0, none⟩) (lt_of_cell (a := ⟨nb, 0, none⟩) h.n) h2).trans h.n⟩
set_option maxHeartbeats 4000000 in
/-- drop: the name, and the inode that has it, which nobody holds. -/
theorem drop_ok (hF : FsAt fb E rs hb w) (hfar : FsAt.Far fb E) (hno : HNo fb hb E w) (h : S8 E K D f u lim w) (ok : E.Ok) {p db : Nat} {L : List Rec} (p1 : 1 ≤ p) (p2 : p ≤ E.tn) (hk : K p = 2) (hD : D p = recsL L) (hg : GoodL L) (hdir : DirAt E db p w) {i : Nat} {r : Rec} (hr : L[i]? = some r) (y2 : r.id ≤ E.tn) (hyk : K r.id ≠ 0) (hyp : r.id ≠ p) (hR : E.R p) (hW : E.W p) (hRy : E.R r.id) (hWy : E.W r.id ∨ E.ku = 0) {n : Nat} (hn : blk ((D r.id).length : Int) = (n : Int)) (k : Int) :
    Calls Tryz.prog 88 #[ptr fb, ptr db, .string (mkB r.s), fnV (r.id : Nat) k] w fun e w' => e = .returned .nilIface ∧ (∃ f', f' + bkL (dropR L i).length = f + bkL L.length + n ∧ S8 E (upd K r.id 0) (upd (upd D p (recsL (dropR L i))) r.id []) f' u lim w') ∧ Apart [E.mb] w w' := by
  have y1 : 1 ≤ r.id := (hg.each r (List.mem_of_getElem? hr)).lo
  have hi64 : i64 ((r.id : Nat) : Int) := by have := ok.tn; unfold i64; omega
  obtain ⟨w1, hw1, hB1, hN1⟩ : ∃ w1, w.alloc (.cells #[.int .i64 (r.id : Nat), .int .i64 k] 122) = w1 ∧ Below w.heap.size w w1 ∧ FnAt w1 w.heap.size (r.id : Nat) k := ⟨_, rfl, (Below.refl _ _).alloc (Nat.le_refl _) _, fn_new _ _ _⟩
  have hmb : E.mb < w.heap.size := h.lts.2.2.2.2.1
  have kD := hidden (dDropU (h.more hB1) ok p1 p2 hk hD hg (hdir.below hB1) hr hR hW)
  have hF1 := hidden (hF.below hB1)
  have hH1 := hidden (hno.below hB1)
  have hfb : fb ∉ [E.mb] := by have := hfar.1; simpa using this
  have hhb : hb ∉ [E.mb] := by have := hno.ne.2.2.1; simpa using this
  have hnb : w.heap.size ∉ [E.mb] := by simp; omega
  have kFr := hidden (fun (wx : World) (f' : Nat) (hx : S8 E K (upd D p (recsL (dropR L i))) f' u lim wx) => S8.free ok hx y1 y2 hRy hWy hyk (by rw [upd_other _ _ hyp]; exact hn))
  replace hN1 := hidden hN1
  have hb1 := hidden (Apart.of_below (bs := [E.mb]) hB1)
  clear hF hno h ok hdir hg hB1 hR hW hRy hWy hn hyk hfar hD
  generalize hRI : ((r.id : Nat) : Int) = RI at *
  generalize hnbn : w.heap.size = nb at *
  replace hw1 := hidden hw1
  go_enter Tryz.func88, Tryz.ntmps88
  go_upto_region 1 with fail
  rw [hw1.out]
  clear hw1
  go_wp2_with fail
  refine (kD.out).mono ?_
  rintro ev w2 ⟨rfl, ⟨f', hS2, hf2⟩, hA2⟩
  have hA2' : Apart [E.mb] w1 w2 := hA2
  have hF2 := hF1.out.keep hA2' hfb
  have kH := hidden (holds_no hF2 (hH1.out.keep hA2' hhb) RI hi64)
  have hN2 := hN1.out.keep hA2' hnb
  have n0 := hN2.c0
  have ln := hN2.lt
  have hZ := hidden (And.intro hS2 (And.intro hf2 (hb1.out.trans hA2')))
  have hS0 : Hid (DpS fb nb E RI w2.drew) := hidden ((DpS.mk hF2.c2 hN2.c0).keep (Apart.of_below (bs := []) (below_drew1 w2)) (by simp) (by simp))
  clear hS2 hf2 hA2 hA2' kD hF2 hN2 hF1 hH1 hN1
  go_wp2_with fail
  refine (kH.out).mono ?_
  rintro ev w3 ⟨rfl, hw3⟩
  subst w3
  clear kH
  go_upto_region 6 with fail
  have kF := kFr.out w2.drew f' (hZ.out.1.more (below_drew1 w2))
  replace kF := hidden kF
  replace hZ := hidden (And.intro hZ.out.2.1 (hZ.out.2.2.trans (Apart.of_below (below_drew1 w2))))
  clear kFr n0 ln
  refine wp_region_held_drew (S := DpS fb nb E RI) (by kernel_rfl) hS0.out ?_
  intro _
  generalize w2.drew = wd at *
  refine wpAnyH_take (i := 0) (v := ?_) rfl (by kernel_rfl) (by kernel_rfl) (by kernel_rfl) (fun _ _ _ h => h) (Or.inl ⟨by rfl, ?_⟩) hS0.out ?_
  rotate_left
  · intro w hw; clear hw; go_simp; try (with_reducible rfl)
  refine wpAnyH_take (i := 1) (v := ?_) rfl (by kernel_rfl) (by kernel_rfl) (by kernel_rfl) (fun _ _ _ h => h) (Or.inl ⟨by rfl, ?_⟩) hS0.out ?_
  rotate_left
  · intro w hw; clear hw; go_simp; try (with_reducible rfl)
  refine wpAnyH_take (i := 2) (v := ?_) rfl (by kernel_rfl) (by kernel_rfl) (by kernel_rfl) (fun _ _ _ h => h) (Or.inl ⟨by rfl, ?_⟩) hS0.out ?_
  rotate_left
  · intro w hw; clear hw; go_simp; try (with_reducible rfl)
  refine wpAnyH_take (i := 3) (v := ?_) rfl (by kernel_rfl) (by kernel_rfl) (by kernel_rfl) (fun _ _ _ h => h) (Or.inl ⟨by rfl, ?_⟩) hS0.out ?_
  rotate_left
  · intro w hw; have c := (hw).t; have lc := lt_of_cell (a := ⟨fb, 2, none⟩) c; clear hw; go_simp; try (with_reducible rfl)
  refine wpAnyH_ready (rs := [4]) (by kernel_rfl) (by simp) ?_
  refine AllReadyH.cons rfl (fun K hK => ?_) AllReadyH.nil
  go_simp
  refine hK.out _ _ hS0.out (fun _ => ?_)
  clear hK K
  refine wpAnyH_ready (rs := [5]) (by kernel_rfl) (by simp) ?_
  refine AllReadyH.cons rfl (fun K hK => ?_) AllReadyH.nil
  have c := (hS0.out).n; have lc := lt_of_cell (a := ⟨nb, 0, none⟩) c
  go_simp
  refine hK.out _ _ hS0.out (fun _ => ?_)
  clear hK K
  refine wpAnyH_ready (rs := [6]) (by kernel_rfl) (by simp) ?_
  refine AllReadyH.cons rfl (fun K hK => ?_) AllReadyH.nil
  go_simp
  go_wp2_with (go_at_call 142; refine (kF.out).mono ?_; rintro ev w6 ⟨rfl, hS6, hA6⟩)
  refine hK.out _ _ (DpS.keep hS0.out hA6 hfb hnb) (fun hSn1 => ?_)
  have hE := hidden (And.intro hS6 (hZ.out.2.trans hA6))
  clear hS6 hA6 kF
  clear hK K
  refine wpAnyH_ready (rs := [7]) (by kernel_rfl) (by simp) ?_
  refine AllReadyH.cons rfl (fun K hK => ?_) AllReadyH.nil
  go_simp
  refine hK.out _ _ hSn1 (fun _ => ?_)
  clear hK K
  refine wpAnyH_done (by kernel_rfl) ?_ _
  go_wp2
  go_ret
  exact ⟨rfl, ⟨_, by have := hZ.out.1; omega, hE.out.1⟩, hE.out.2⟩
end
end Go.Proofs.YtjionogjeafffaaGreatDoor
/- A file put in another's place in its own directory: carry, replace. -/
namespace Go.Proofs.YtjionogjeafffaaGreatDoor
open Go.RowKit Go.Extern.Stop Go.Stop Go.Extern Go.Maps Go.Sort Go.Shelf
set_option maxRecDepth 1000000

section
variable {fb rs hb : Nat} {E : TE} {w w' : World} {K : Nat → Nat} {D : Nat → List Int} {T : Nat → List Rec} {f u lim : Nat}
set_option maxHeartbeats 4000000 in
theorem carry_same (h : S8 E K D f u lim w) (ok : E.Ok) {p db db2 : Nat} {L : List Rec} (p1 : 1 ≤ p) (p2 : p ≤ E.tn) (hk : K p = 2) (hD : D p = recsL L) (hg : GoodL L) (hdir : DirAt E db p w) (hdir2 : DirAt E db2 p w) {i : Nat} {r : Rec} (hr : L[i]? = some r) (hid : r.id ≤ 200) (t : List UInt8) (ht : okB t = true) (hno : ∀ q ∈ dropR L i, q.s ≠ t) (hR : E.R p) (hW : E.W p) (hl : L.length ≤ 120) (hfit : bkL L.length ≤ bkL (L.length - 1) + u) (k : Int) (va va2 : Option Addr) (vn vc vn2 vc2 : Nat) :
    Calls Tryz.prog 166 #[fnV (r.id : Nat) k, spV (.slice va vn vc) (mkB r.s) (ptr db), spV (.slice va2 vn2 vc2) (mkB t) (ptr db2)] w fun e w' => e = .returned .nilIface ∧ S8 E K (upd D p (recsL (dropR L i ++ [⟨t, r.id⟩]))) f 0 lim w' ∧ Apart [E.mb] w w' := by
  have hi : i < L.length := (List.getElem?_eq_some_iff.1 hr).1
  have hdl := dropR_len hi
  have hr1 : 1 ≤ r.id := (hg.each r (List.mem_of_getElem? hr)).lo
  have hgd := hg.drop hi
  obtain ⟨w1, hw1, hB1, hN1⟩ : ∃ w1, w.alloc (.cells #[.int .i64 (r.id : Nat), .int .i64 k] 122) = w1 ∧ Below w.heap.size w w1 ∧ FnAt w1 w.heap.size (r.id : Nat) k := ⟨_, rfl, (Below.refl _ _).alloc (Nat.le_refl _) _, fn_new _ _ _⟩
  obtain ⟨w2, hw2, hB2, hS2⟩ : ∃ w2, w1.alloc (.cells #[.slice va vn vc, .string (mkB r.s), ptr db] 181) = w2 ∧ Below w1.heap.size w1 w2 ∧ SpAt w2 w1.heap.size (.slice va vn vc) (mkB r.s) (ptr db) := ⟨_, rfl, (Below.refl _ _).alloc (Nat.le_refl _) _, sp_new _ _ _ _⟩
  obtain ⟨w3, hw3, hB3, hS3⟩ : ∃ w3, w2.alloc (.cells #[.slice va2 vn2 vc2, .string (mkB t), ptr db2] 181) = w3 ∧ Below w2.heap.size w2 w3 ∧ SpAt w3 w2.heap.size (.slice va2 vn2 vc2) (mkB t) (ptr db2) := ⟨_, rfl, (Below.refl _ _).alloc (Nat.le_refl _) _, sp_new _ _ _ _⟩
  have hmb : E.mb < w.heap.size := h.lts.2.2.2.2.1
  have hs1 := hB1.size
  have hs2 := hB2.size
  have hb3 : Below w.heap.size w w3 := (hB1.trans (hB2.mono hB1.size)).trans (hB3.mono (Nat.le_trans hB1.size hB2.size))
  have hS2' := hS2.below hB3
  have hN3 := (hN1.below hB2).below hB3
  have a1 := hS2'.c1
  have a2 := hS2'.c2
  have la := hS2'.lt
  have kD := hidden (dDropU (h.more hb3) ok p1 p2 hk hD hg (hdir.below hb3) hr hR hW)
  have hdm2 : db2 ∉ [E.mb] := by have := hdir2.ne h; simpa using this
  have kP := hidden (fun (wx : World) (hA : Apart [E.mb] w3 wx) (f' : Nat) (hx : S8 E K (upd D p (recsL (dropR L i))) f' u lim wx) => dPut_ok (hx.dl (upd_same _ _ _) hgd ((hdir2.below hb3).keep hA hdm2)) (eok ok p1 p2 hk _) ⟨hR, hW⟩ (Or.inr ⟨by
      show ((bkL (dropR L i).length : Nat) : Int) ≤ blk ((recsL (dropR L i)).length : Int)
      rw [recsL_len hgd.each]
      exact Int.le_of_eq (bkL_eq _), by
      show blk ((32 * ((dropR L i).length + 1) : Nat) : Int) ≤ ((bkL (dropR L i).length : Nat) : Int) + ((u : Nat) : Int)
      rw [← bkL_eq, hdl, show L.length - 1 + 1 = L.length by omega]
      omega⟩) t r.id ht hr1 hid hno (by omega))
  have hfin : Hid (∀ (f1 : Nat) (wx : World), f1 + bkL (dropR L i).length = f + bkL L.length → DL (dx E p K (upd D p (recsL (dropR L i))) (dropR L i).length f1 u lim) db2 (dropR L i ++ [⟨t, r.id⟩]) wx → S8 E K (upd D p (recsL (dropR L i ++ [⟨t, r.id⟩]))) f 0 lim wx) := hidden (fun f1 wx hf hDL => by
    obtain ⟨f2, u2, s1, s2, -⟩ := hDL.s8
    rw [upd_upd] at s1
    have e : (dropR L i ++ [(⟨t, r.id⟩ : Rec)]).length = L.length := by rw [List.length_append, hdl]; simp; omega
    rw [e] at s2
    have : f2 = f := by omega
    rw [this] at s1
    exact s1.low (Nat.zero_le _))
  have hkeep := hidden (And.intro hN3 hS3)
  have hb3' := hidden hb3
  have hnb : w.heap.size ∉ [E.mb] := by simp; omega
  have hnb2 : w2.heap.size ∉ [E.mb] := by simp; omega
  clear h ok hdir hdir2 hg hno hR hW hB1 hB2 hB3 hN1 hS2 hS3 hS2' hb3 hD hN3 hgd hfit
  generalize hb6 : w1.heap.size = b6 at *
  generalize hb7 : w2.heap.size = b7 at *
  generalize hRI : ((r.id : Nat) : Int) = RI at *
  go_enter Tryz.func166, Tryz.ntmps166
  go_wp2_with fail
  refine (kD.out).mono ?_
  rintro ev w4 ⟨rfl, ⟨f1, hS4, hf4⟩, hA4⟩
  have hN4 := hkeep.out.1.keep hA4 hnb
  have hT4 := hkeep.out.2.keep hA4 hnb2
  have n0 := hN4.c0
  have l4 := hN4.lt
  have c1 := hT4.c1
  have c2 := hT4.c2
  have l5 := hT4.lt
  have kP4 := hidden (kP.out w4 hA4 f1 hS4)
  replace hA4 := hidden ((Apart.of_below (bs := [E.mb]) hb3'.out).trans hA4)
  replace hf4 := hidden hf4
  clear hN4 hT4 hS4 kD kP hw1 hw2 hw3 a1 a2 la
  go_wp2_with fail
  refine (kP4.out).mono ?_
  rintro ev w5 ⟨rfl, hDL, hA5⟩
  have hE := hidden (And.intro (hfin.out f1 w5 hf4.out hDL) (show Apart [E.mb] w w5 from hA4.out.trans hA5))
  clear hDL hA5 kP4
  go_wp2
  go_ret
  exact ⟨rfl, hE.out⟩
end
end Go.Proofs.YtjionogjeafffaaGreatDoor
/- A file put in another's place in its own directory: replace. -/
namespace Go.Proofs.YtjionogjeafffaaGreatDoor
open Go.RowKit Go.Extern.Stop Go.Stop Go.Extern Go.Maps Go.Sort Go.Shelf
set_option maxRecDepth 1000000

section
variable {fb rs hb : Nat} {E : TE} {w w' : World} {K : Nat → Nat} {D : Nat → List Int} {T : Nat → List Rec} {f u lim : Nat}
/-- The bytes behind a replacing: of the directory, of the one that is gone. -/
def overD (D : Nat → List Int) (L : List Rec) (p j i y : Nat) (r : Rec) : Nat → List Int := upd (upd (upd D p (recsL (dropR L j))) y []) p (recsL (dropR (dropR L j) i ++ [r]))
set_option maxHeartbeats 4000000 in
theorem replace_same (hF : FsAt fb E rs hb w) (hfar : FsAt.Far fb E) (hnh : HNo fb hb E w) (h : S8 E K D f u lim w) (ok : E.Ok) {p db db2 : Nat} {L : List Rec} (p1 : 1 ≤ p) (p2 : p ≤ E.tn) (hk : K p = 2) (hD : D p = recsL L) (hg : GoodL L) (hdir : DirAt E db p w) (hdir2 : DirAt E db2 p w) {j : Nat} {ry : Rec} (hry : L[j]? = some ry) {i : Nat} {rx : Rec} (hrx : (dropR L j)[i]? = some rx) (y2 : ry.id ≤ E.tn) (hyk : K ry.id = 1) (hid : rx.id ≤ 200) (hno : ∀ q ∈ dropR (dropR L j) i, q.s ≠ ry.s) (hR : E.R p) (hW : E.W p) (hRy : E.R ry.id) (hWy : E.W ry.id) {n : Nat} (hn : blk ((D ry.id).length : Int) = (n : Int)) (hl : L.length ≤ 120) (hfit : bkL (L.length - 1) ≤ bkL (L.length - 1 - 1) + u) (va va2 : Option Addr) (vn vc vn2 vc2 : Nat) :
    Calls Tryz.prog 115 #[ptr fb, fnV (rx.id : Nat) 1, fnV (ry.id : Nat) 1, spV (.slice va vn vc) (mkB rx.s) (ptr db), spV (.slice va2 vn2 vc2) (mkB ry.s) (ptr db2)] w fun e w' => e = .returned .nilIface ∧ (∃ f', f' + bkL (L.length - 1) = f + bkL L.length + n ∧ S8 E (upd K ry.id 0) (overD D L p j i ry.id ⟨ry.s, rx.id⟩) f' 0 lim w') ∧ Apart [E.mb] w w' := by
  have hj : j < L.length := (List.getElem?_eq_some_iff.1 hry).1
  have hdl := dropR_len hj
  have hgd := hg.drop hj
  have hyp : ry.id ≠ p := fun e => by rw [e, hk] at hyk; cases hyk
  have htok : okB ry.s = true := (hg.each ry (List.mem_of_getElem? hry)).ok
  obtain ⟨w1, hw1, hB1, hN1⟩ : ∃ w1, w.alloc (.cells #[.int .i64 (rx.id : Nat), .int .i64 1] 122) = w1 ∧ Below w.heap.size w w1 ∧ FnAt w1 w.heap.size (rx.id : Nat) 1 := ⟨_, rfl, (Below.refl _ _).alloc (Nat.le_refl _) _, fn_new _ _ _⟩
  obtain ⟨w1y, hw1y, hB1y, hN1y⟩ : ∃ w1y, w1.alloc (.cells #[.int .i64 (ry.id : Nat), .int .i64 1] 122) = w1y ∧ Below w1.heap.size w1 w1y ∧ FnAt w1y w1.heap.size (ry.id : Nat) 1 := ⟨_, rfl, (Below.refl _ _).alloc (Nat.le_refl _) _, fn_new _ _ _⟩
  obtain ⟨w2, hw2, hB2, hS2⟩ : ∃ w2, w1y.alloc (.cells #[.slice va vn vc, .string (mkB rx.s), ptr db] 181) = w2 ∧ Below w1y.heap.size w1y w2 ∧ SpAt w2 w1y.heap.size (.slice va vn vc) (mkB rx.s) (ptr db) := ⟨_, rfl, (Below.refl _ _).alloc (Nat.le_refl _) _, sp_new _ _ _ _⟩
  obtain ⟨w3, hw3, hB3, hS3⟩ : ∃ w3, w2.alloc (.cells #[.slice va2 vn2 vc2, .string (mkB ry.s), ptr db2] 181) = w3 ∧ Below w2.heap.size w2 w3 ∧ SpAt w3 w2.heap.size (.slice va2 vn2 vc2) (mkB ry.s) (ptr db2) := ⟨_, rfl, (Below.refl _ _).alloc (Nat.le_refl _) _, sp_new _ _ _ _⟩
  have hmb : E.mb < w.heap.size := h.lts.2.2.2.2.1
  have hs1 := hB1.size
  have hs1y := hB1y.size
  have hs2 := hB2.size
  have hb1y : Below w.heap.size w w1y := hB1.trans (hB1y.mono hB1.size)
  have hb2 : Below w.heap.size w w2 := hb1y.trans (hB2.mono hb1y.size)
  have hb3 : Below w.heap.size w w3 := hb2.trans (hB3.mono hb2.size)
  have hS2' := hS2.below hB3
  have hNx := ((hN1.below hB1y).below hB2).below hB3
  have hNy := (hN1y.below hB2).below hB3
  have x1 := hNx.c1
  have y0 := hNy.c0
  have y1 := hNy.c1
  have lx := hNx.lt
  have ly := hNy.lt
  have b1 := hS3.c1
  have b2 := hS3.c2
  have lb := hS3.lt
  have kD := hidden (drop_ok (hF.below hb3) hfar (hnh.below hb3) (h.more hb3) ok p1 p2 hk hD hg (hdir2.below hb3) hry y2 (by rw [hyk]; decide) hyp hR hW hRy (Or.inl hWy) hn 1)
  have hdm : db ∉ [E.mb] := by have := hdir.ne h; simpa using this
  have hdm2 : db2 ∉ [E.mb] := by have := hdir2.ne h; simpa using this
  have kP := hidden (fun (wx : World) (hA : Apart [E.mb] w3 wx) (f' : Nat) (hx : S8 E (upd K ry.id 0) (upd (upd D p (recsL (dropR L j))) ry.id []) f' u lim wx) => carry_same hx ok p1 p2 (by rw [upd_other _ _ (fun e => hyp e.symm)]; exact hk) (by rw [upd_other _ _ (fun e => hyp e.symm), upd_same]) hgd ((hdir.below hb3).keep hA hdm) ((hdir2.below hb3).keep hA hdm2) hrx hid ry.s htok hno hR hW (by omega) (by rw [hdl]; exact hfit) 1 va va2 vn vc vn2 vc2)
  have hfin : Hid (∀ (f1 : Nat) (wx : World), f1 + bkL (dropR L j).length = f + bkL L.length + n → S8 E (upd K ry.id 0) (upd (upd (upd D p (recsL (dropR L j))) ry.id []) p (recsL (dropR (dropR L j) i ++ [⟨ry.s, rx.id⟩]))) f1 0 lim wx → ∃ f', f' + bkL (L.length - 1) = f + bkL L.length + n ∧ S8 E (upd K ry.id 0) (overD D L p j i ry.id ⟨ry.s, rx.id⟩) f' 0 lim wx) := hidden (fun f1 wx hf hS => ⟨f1, by rw [hdl] at hf; exact hf, hS⟩)
  have hkeep := hidden (And.intro hNx (And.intro hS2' hS3))
  have hb3' := hidden hb3
  have hnb : w.heap.size ∉ [E.mb] := by simp; omega
  have hnb6 : w1y.heap.size ∉ [E.mb] := by simp; omega
  have hnb7 : w2.heap.size ∉ [E.mb] := by simp; omega
  clear hF hfar hnh h ok hdir hdir2 hg hno hR hW hRy hWy hB1 hB1y hB2 hB3 hN1 hN1y hS2 hS3 hS2' hb1y hb2 hb3 hD hNx hNy hgd hfit hn
  generalize hb5 : w1.heap.size = b5 at *
  generalize hb6 : w1y.heap.size = b6 at *
  generalize hb7 : w2.heap.size = b7 at *
  generalize hRI : ((rx.id : Nat) : Int) = RI at *
  generalize hRY : ((ry.id : Nat) : Int) = RY at *
  go_enter Tryz.func115, Tryz.ntmps115
  go_wp2_with fail
  refine (kD.out).mono ?_
  rintro ev w4 ⟨rfl, ⟨f1, hf4, hS4⟩, hA4⟩
  obtain ⟨kx, ks, kt⟩ := hkeep.out
  have hN4 := kx.keep hA4 hnb
  have hU4 := ks.keep hA4 hnb6
  have hT4 := kt.keep hA4 hnb7
  have n0 := hN4.c0
  have n1 := hN4.c1
  have l4 := hN4.lt
  have u0 := hU4.c0
  have u1 := hU4.c1
  have u2 := hU4.c2
  have lu := hU4.lt
  have c0 := hT4.c0
  have c1 := hT4.c1
  have c2 := hT4.c2
  have l5 := hT4.lt
  have kP4 := hidden (kP.out w4 hA4 f1 hS4)
  replace hA4 := hidden ((Apart.of_below (bs := [E.mb]) hb3'.out).trans hA4)
  replace hf4 := hidden hf4
  clear hN4 hT4 hU4 hS4 kD kP hw1 hw1y hw2 hw3 x1 y0 y1 lx ly b1 b2 lb kx ks kt
  go_wp2_with fail
  refine (kP4.out).mono ?_
  rintro ev w5 ⟨rfl, hS5, hA5⟩
  have hE := hidden (And.intro (hfin.out f1 w5 hf4.out hS5) (show Apart [E.mb] w w5 from hA4.out.trans hA5))
  clear hS5 hA5 kP4
  go_wp2
  go_ret
  exact ⟨rfl, hE.out⟩
end
end Go.Proofs.YtjionogjeafffaaGreatDoor
/- A file put in another's place in its own directory: move. -/
namespace Go.Proofs.YtjionogjeafffaaGreatDoor
open Go.RowKit Go.Extern.Stop Go.Stop Go.Extern Go.Maps Go.Sort Go.Shelf
set_option maxRecDepth 1000000

/-- What move's last region reads: what is gone, x, from, to. -/
structure MvS (nb b8 b9 b11 : Nat) (RY RI : Int) (va : Option Addr) (LL vc : Nat) (s : ByteArray) (db : Nat) (va8 : Option Addr) (vc8 : Nat) (t : ByteArray) (db2 : Nat) (w : World) : Prop where
  g : FnAt w nb RY 1
  x : FnAt w b9 RI 1
  s : SpAt w b8 (.slice va LL vc) s (ptr db)
  t : SpAt w b11 (.slice va8 LL vc8) t (ptr db2)
theorem MvS.keep {nb b8 b9 b11 : Nat} {RY RI : Int} {va : Option Addr} {LL vc : Nat} {s : ByteArray} {db : Nat} {va8 : Option Addr} {vc8 : Nat} {t : ByteArray} {db2 : Nat} {w w' : World} {bs : List Nat} (h : MvS nb b8 b9 b11 RY RI va LL vc s db va8 vc8 t db2 w) (ha : Apart bs w w') (h1 : nb ∉ bs) (h2 : b8 ∉ bs) (h3 : b9 ∉ bs) (h4 : b11 ∉ bs) : MvS nb b8 b9 b11 RY RI va LL vc s db va8 vc8 t db2 w' := ⟨h.g.keep ha h1, h.x.keep ha h3, h.s.keep ha h2, h.t.keep ha h4⟩
section
variable {fb rs hb : Nat} {E : TE} {w w' : World} {K : Nat → Nat} {D : Nat → List Int} {T : Nat → List Rec} {f u lim : Nat}
/-- What a move over a file asks of the two paths: x lies at i0, y at j; where y's record went, x lies at i. -/
structure OversT (K : Nat → Nat) (T : Nat → List Rec) (tn : Nat) (a b : List UInt8) (l : List (List UInt8)) (s t : List UInt8) (p i0 j i : Nat) (r ry : Rec) (lv : List (List Nat)) : Prop where
  la : a.length ≤ 2000
  lb : b.length ≤ 2000
  pa : splitB a = some (l ++ [s])
  pb : splitB b = some (l ++ [t])
  ne : a ≠ b
  out : withinB b a = false
  dir : dirT K T l = .ok p
  at_ : (T p)[i0]? = some r
  name : r.s = s
  aty : (T p)[j]? = some ry
  namey : ry.s = t
  at2 : (dropR (T p) j)[i]? = some r
  file : K r.id = 1
  filey : K ry.id = 1
  no : ∀ q ∈ dropR (dropR (T p) j) i, q.s ≠ t
  lvok : LvOk K T tn r.id lv
  fit : l.length + 1 + lv.length ≤ 7
  few : (T p).length ≤ 120
set_option maxHeartbeats 8000000 in
theorem move_over (hF : FsAt fb E rs hb w) (hfar : FsAt.Far fb E) (hnh : HNo fb hb E w) (h : S8 E K D f u lim w) (ok : E.Ok) (ht : TreeOk E.tn K D T) (htn : 1 ≤ E.tn) {a b s t : List UInt8} {l : List (List UInt8)} {p i0 j i : Nat} {r ry : Rec} {lv : List (List Nat)} (m : OversT K T E.tn a b l s t p i0 j i r ry lv) (hR : E.R p) (hW : E.W p) (hRy : E.R ry.id) (hWy : E.W ry.id) {n : Nat} (hn : blk ((D ry.id).length : Int) = (n : Int)) (hfit : bkL ((T p).length - 1) ≤ bkL ((T p).length - 1 - 1) + u) :
    Calls Tryz.prog 64 #[ptr fb, .string (mkB a), .string (mkB b)] w fun e w' => e = .returned (.tuple #[fnV (ry.id : Nat) 1, .nilIface]) ∧ (∃ f', f' + bkL ((T p).length - 1) = f + bkL (T p).length + n ∧ S8 E (upd K ry.id 0) (overD D (T p) p j i ry.id ⟨t, r.id⟩) f' 0 lim w') ∧ Apart [E.mb] w w' := by
  have hmp := may_all (split_may m.pb)
  have hl6 : l.length ≤ 6 := by have := hmp.1; rw [List.length_append] at this; omega
  have hdin : 1 ≤ p ∧ p ≤ E.tn ∧ K p = 2 := by
    have hd := m.dir
    unfold dirT at hd
    cases hw : walkT K T 1 l with
    | error z => rw [hw] at hd; cases hd
    | ok q =>
      rw [hw] at hd
      have h' : (if K q = 2 then Except.ok q else Except.error (14 : Int)) = Except.ok p := hd
      by_cases hk : K q = 2
      · rw [if_pos hk] at h'
        obtain rfl := Except.ok.inj h'
        have := walkT_in ht l 1 q (Nat.le_refl _) htn (by rw [ht.root]; decide) hw
        exact ⟨this.1, this.2.1, hk⟩
      · rw [if_neg hk] at h'; cases h'
  obtain ⟨p1, p2, hkp⟩ := hdin
  obtain ⟨hD, hG⟩ := ht.recs p p1 p2 hkp
  have hrm := List.mem_of_getElem? m.at_
  obtain ⟨hrt, hrk⟩ := ht.used p p1 p2 hkp r hrm
  have hym := List.mem_of_getElem? m.aty
  obtain ⟨hyt, hyk'⟩ := ht.used p p1 p2 hkp ry hym
  have htn200 : E.tn ≤ 200 := by have := ok.tn; omega
  have hr1 : 1 ≤ r.id := (hG.each r hrm).lo
  obtain ⟨w1, hw1, hB1, hN1⟩ : ∃ w1, w.alloc (Obj.cells #[.int .i64 0, .int .i64 0] 122) = w1 ∧ Below w.heap.size w w1 ∧ FnAt w1 w.heap.size 0 0 := ⟨_, rfl, (Below.refl _ _).alloc (Nat.le_refl _) _, fn_new _ _ _⟩
  have kSp := hidden (fun (wx : World) (hx : Below w.heap.size w wx) => And.intro (fspot_calls (hF.below hx) (h.more hx) ok ht htn m.la m.pa) (fspot_calls (hF.below hx) (h.more hx) ok ht htn m.lb m.pb))
  have kC := hidden (fun (wx : World) (hx : Below w.heap.size w wx) (db : Nat) (hd : DirAt E db p wx) => And.intro (child_at (hF.below hx) (h.more hx) ok p1 p2 hkp hD hG hd m.at_ hrt hrk) (child_at (hF.below hx) (h.more hx) ok p1 p2 hkp hD hG hd m.aty hyt hyk'))
  rw [m.name, m.namey, m.filey] at kC
  have kW := hidden (fun (wx : World) => within_calls b a wx m.lb m.la)
  rw [m.out] at kW
  have hKx := m.file
  have kFi := hidden (fun (wx : World) (hx : Below w.heap.size w wx) => fits_ok (hF.below hx) (h.more hx) ok ht hr1 hrt m.lvok m.lb m.pb (by rw [List.length_append]; have := m.fit; simp; omega))
  have kE := hidden (fun (wx : World) (hx : Below w.heap.size w wx) (db db2 : Nat) (hd : DirAt E db p wx) (hd2 : DirAt E db2 p wx) (va va2 : Option Addr) (vn vc vn2 vc2 : Nat) => replace_same (fb := fb) (hF.below hx) hfar (hnh.below hx) (h.more hx) ok p1 p2 hkp hD hG hd hd2 m.aty m.at2 hyt m.filey (by omega) (by rw [m.namey]; exact m.no) hR hW hRy hWy hn m.few hfit va va2 vn vc vn2 vc2)
  rw [m.name, m.namey] at kE
  rw [hKx] at kFi kC
  have hdir := hidden m.dir
  have hne : ((mkB a).toList == (mkB b).toList) = false := by rw [mk_beq]; exact decide_eq_false m.ne
  have hBN := hidden (And.intro hB1 hN1)
  have hmbl : E.mb < w.heap.size := h.lts.2.2.2.2.1
  clear hF hfar hnh h ok ht hG hD hB1 hN1 hR hW hRy hWy m hmp hrm hrk hym hyt hyk' hn hfit
  go_enter Tryz.func64, Tryz.ntmps64
  go_wp2_with fail
  refine ((kSp.out w1 hBN.out.1).1).mono ?_
  rintro ev w2 ⟨(⟨q, v2, db, hq, rfl, hT2, hD2, hdb, -, -, -⟩ | ⟨z, bk, nm, hq, -⟩), hB2⟩
  rotate_left
  · rw [hdir.out] at hq; cases hq
  obtain rfl : q = p := by rw [hdir.out] at hq; exact (Except.ok.inj hq).symm
  have hT2h := hidden hT2
  obtain ⟨va, vc, rfl, -⟩ := hT2
  obtain ⟨w3, hw3, hB3, hS3⟩ : ∃ w3, w2.alloc (.cells #[.slice va l.length vc, .string (mkB s), ptr db] 181) = w3 ∧ Below w2.heap.size w2 w3 ∧ SpAt w3 w2.heap.size (.slice va l.length vc) (mkB s) (ptr db) := ⟨_, rfl, (Below.refl _ _).alloc (Nat.le_refl _) _, sp_new _ _ _ _⟩
  have hb2 : Below w.heap.size w w2 := hBN.out.1.trans (hB2.mono hBN.out.1.size)
  have o8 : w.heap.size < w2.heap.size := by have := hBN.out.2.lt; have := hB2.size; omega
  have od : w.heap.size < db := by have := hBN.out.2.lt; omega
  have hb3 : Below w.heap.size w w3 := hb2.trans (hB3.mono hb2.size)
  have s1 := hS3.c1
  have s2 := hS3.c2
  have l3 := hS3.lt
  have kC3 := hidden (kC.out w3 hb3 db (hD2.below hB3)).1
  have hN3 := hidden ((hBN.out.2.below hB2).below hB3)
  have hK3 := hidden (And.intro (hT2h.out.below hB3) (And.intro (hD2.below hB3) hS3))
  replace hb3 := hidden hb3
  replace hw3 := hidden hw3
  clear hT2h hD2 hS3 hB2 hB3 hb2 hBN hq
  generalize hLL : l.length = LL at *
  generalize hf8 : w2.heap.size = b8 at *
  go_upto_region 2 with fail
  rw [hw3.out]
  clear hw3
  go_wp2_with fail
  refine (kC3.out).mono ?_
  rintro ev w4 ⟨rfl, hB4⟩
  obtain ⟨w5, hw5, hB5, hN5⟩ : ∃ w5, w4.alloc (.cells #[.int .i64 (r.id : Nat), .int .i64 1] 122) = w5 ∧ Below w4.heap.size w4 w5 ∧ FnAt w5 w4.heap.size (r.id : Nat) 1 := ⟨_, rfl, (Below.refl _ _).alloc (Nat.le_refl _) _, fn_new _ _ _⟩
  have o9 : w.heap.size < w4.heap.size := by have := hN3.out.lt; have := hB4.size; omega
  have hb35 : Below w3.heap.size w3 w5 := hB4.trans (hB5.mono hB4.size)
  have hb5 : Below w.heap.size w w5 := hb3.out.trans (hb35.mono hb3.out.size)
  have x0 := hN5.c0
  have x1 := hN5.c1
  have l5 := hN5.lt
  have hK5 := hidden (And.intro (hK3.out.1.below hb35) (And.intro (hK3.out.2.1.below hb35) (And.intro (hK3.out.2.2.below hb35) (And.intro hN5 (hN3.out.below hb35)))))
  replace hb5 := hidden hb5
  replace hw5 := hidden hw5
  clear hB4 hB5 hN5 hb35 kC3 hK3 hN3 hb3 s1 s2 l3
  generalize hRI : ((r.id : Nat) : Int) = RI at *
  generalize hRY : ((ry.id : Nat) : Int) = RY at *
  generalize hf9 : w4.heap.size = b9 at *
  go_upto_region 5 with fail
  rw [hw5.out]
  clear hw5
  go_wp2_with fail
  refine (kW.out _).mono ?_
  rintro ev w6 ⟨rfl, hB6⟩
  have hK6 := hK5.out.2.2.2.1.below hB6
  have y0 := hK6.c0
  have y1 := hK6.c1
  have l6 := hK6.lt
  have hb6 : Below w.heap.size w w6 := hb5.out.trans (hB6.mono hb5.out.size)
  have kF6 := hidden (kFi.out w6 hb6)
  replace hb6 := hidden hb6
  replace hB6 := hidden hB6
  clear hK6 kW x0 x1 l5
  go_wp2_with fail
  refine (kF6.out).mono ?_
  rintro ev w7 ⟨rfl, hB7⟩
  have hb7 : Below w.heap.size w w7 := hb6.out.trans (hB7.mono hb6.out.size)
  have kS7 := hidden (kSp.out w7 hb7).2
  have hb57 := hidden (hB6.out.trans (hB7.mono hB6.out.size))
  replace hb7 := hidden hb7
  clear hB7 kF6 kFi kSp y0 y1 l6 hb6 hB6
  go_wp2_with fail
  refine (kS7.out).mono ?_
  rintro ev w8 ⟨(⟨q2, v8, db2, hq2, rfl, hT8, hD8, hdb8, -, -, -⟩ | ⟨z, bk, nm, hq2, -⟩), hB8⟩
  rotate_left
  · rw [hdir.out] at hq2; cases hq2
  obtain rfl : q2 = q := by rw [hdir.out] at hq2; exact (Except.ok.inj hq2).symm
  have hT8h := hidden hT8
  obtain ⟨va8, vc8, rfl, -⟩ := hT8
  rw [hLL] at hT8h ⊢
  obtain ⟨w9, hw9, hB9, hS9⟩ : ∃ w9, w8.alloc (.cells #[.slice va8 LL vc8, .string (mkB t), ptr db2] 181) = w9 ∧ Below w8.heap.size w8 w9 ∧ SpAt w9 w8.heap.size (.slice va8 LL vc8) (mkB t) (ptr db2) := ⟨_, rfl, (Below.refl _ _).alloc (Nat.le_refl _) _, sp_new _ _ _ _⟩
  have o11 : w.heap.size < w8.heap.size := by have := hK5.out.2.2.2.2.lt; have := hb57.out.size; have := hB8.size; omega
  have od2 : w.heap.size < db2 := by have := hK5.out.2.2.2.2.lt; have := hb57.out.size; omega
  have hb79 : Below w7.heap.size w7 w9 := hB8.trans (hB9.mono hB8.size)
  have hb59 : Below w5.heap.size w5 w9 := hb57.out.trans (hb79.mono hb57.out.size)
  have hb9 : Below w.heap.size w w9 := hb7.out.trans (hb79.mono hb7.out.size)
  have s1 := hS9.c1
  have s2 := hS9.c2
  have l9 := hS9.lt
  have kC9 := hidden (kC.out w9 hb9 db2 (hD8.below hB9)).2
  have hK9 := hidden (And.intro (hK5.out.1.below hb59) (And.intro (hK5.out.2.1.below hb59) (And.intro (hK5.out.2.2.1.below hb59) (And.intro (hK5.out.2.2.2.1.below hb59) (And.intro (hK5.out.2.2.2.2.below hb59) (And.intro (hT8h.out.below hB9) (And.intro hS9 (hD8.below hB9))))))))
  replace hb9 := hidden hb9
  replace hw9 := hidden hw9
  clear hT8h hD8 hS9 hB8 hB9 hb79 hb59 hb57 hK5 hb5 hb7 kS7 hq2 kC hdb8
  generalize hf11 : w8.heap.size = b11 at *
  go_upto_region 15 with fail
  rw [hw9.out]
  clear hw9
  go_wp2_with fail
  refine (kC9.out).mono ?_
  rintro ev wA ⟨rfl, hBA⟩
  obtain ⟨kT1, kD1, kS1, kX1, kN1, kT2, kS2, kD2⟩ := hK9.out
  have hNA := kN1.below hBA
  have r0 := hNA.c0
  have r1 := hNA.c1
  have g0 := hNA.f0
  have g1 := hNA.f1
  have lA := hNA.lt
  have hbA : Below w.heap.size w wA := hb9.out.trans (hBA.mono hb9.out.size)
  obtain ⟨wG, hwG, hAG, hNG⟩ : ∃ wG, (wA.setCell ⟨w.heap.size, 0, none⟩ (.int .i64 RY)).setCell ⟨w.heap.size, 1, none⟩ (.int .i64 1) = wG ∧ Apart [w.heap.size] wA wG ∧ FnAt wG w.heap.size RY 1 := ⟨_, rfl, fn_apart _ _ _ _, fn_stored hNA⟩
  have hbG : Below w.heap.size w wG := hbA.trans (hAG.below (by simp) hbA.size)
  have q8 : b8 ∉ [w.heap.size] := by simp; omega
  have q9 : b9 ∉ [w.heap.size] := by simp; omega
  have q11 : b11 ∉ [w.heap.size] := by simp; omega
  have hM := hidden (show MvS w.heap.size b8 b9 b11 RY RI va LL vc (mkB s) db va8 vc8 (mkB t) db2 wG from ⟨hNG, (kX1.below hBA).keep hAG q9, (kS1.below hBA).keep hAG q8, (kS2.below hBA).keep hAG q11⟩)
  have kEA := hidden (kE.out wG.drew (hbG.trans ((below_drew1 wG).mono hbG.size)) db db2 (((kD1.below hBA).keep hAG (by simp; omega)).below (below_drew1 wG)) (((kD2.below hBA).keep hAG (by simp; omega)).below (below_drew1 wG)) va va8 LL vc LL vc8)
  have kIs := hidden (is_nil 11 wG)
  have hl1 : w.heap.size ∉ [E.mb] := by simp; omega
  have hl8 : b8 ∉ [E.mb] := by simp; omega
  have hl9 : b9 ∉ [E.mb] := by simp; omega
  have hl11 : b11 ∉ [E.mb] := by simp; omega
  replace hbG := hidden (hbG.trans ((below_drew1 wG).mono hbG.size))
  replace hwG := hidden hwG
  clear kT1 kD1 kS1 kX1 kN1 kT2 kS2 kD2 hNA hBA kC9 kE hK9 hb9 s1 s2 l9 hAG hNG hbA q8 q9 q11
  go_upto_region 18 with fail
  rw [hwG.out]
  clear hwG r0 r1 g0 g1 lA
  go_wp2_with fail
  refine (kIs.out).mono ?_
  rintro ev wB ⟨rfl, hwB⟩
  subst wB
  clear kIs
  go_upto_region 22 with fail
  have hS0 := hidden (hM.out.keep (Apart.of_below (bs := []) (below_drew1 wG)) (by simp) (by simp) (by simp) (by simp))
  refine wp_region_held_drew (S := MvS w.heap.size b8 b9 b11 RY RI va LL vc (mkB s) db va8 vc8 (mkB t) db2) (by kernel_rfl) hS0.out ?_
  intro _
  generalize wG.drew = wd at *
  refine wpAnyH_take (i := 0) (v := ?_) rfl (by kernel_rfl) (by kernel_rfl) (by kernel_rfl) (fun _ _ _ h => h) (Or.inl ⟨by rfl, ?_⟩) hS0.out ?_
  rotate_left
  · intro w hw; have hh := (hw).g; have c0 := hh.c0; have c1 := hh.c1; have lc := hh.lt; clear hh; clear hw; go_simp; try (with_reducible rfl)
  refine wpAnyH_take (i := 1) (v := ?_) rfl (by kernel_rfl) (by kernel_rfl) (by kernel_rfl) (fun _ _ _ h => h) (Or.inl ⟨by rfl, ?_⟩) hS0.out ?_
  rotate_left
  · intro w hw; clear hw; go_simp; try (with_reducible rfl)
  refine wpAnyH_take (i := 2) (v := ?_) rfl (by kernel_rfl) (by kernel_rfl) (by kernel_rfl) (fun _ _ _ h => h) (Or.inl ⟨by rfl, ?_⟩) hS0.out ?_
  rotate_left
  · intro w hw; have hh := (hw).x; have c0 := hh.c0; have c1 := hh.c1; have lc := hh.lt; clear hh; clear hw; go_simp; try (with_reducible rfl)
  refine wpAnyH_take (i := 3) (v := ?_) rfl (by kernel_rfl) (by kernel_rfl) (by kernel_rfl) (fun _ _ _ h => h) (Or.inl ⟨by rfl, ?_⟩) hS0.out ?_
  rotate_left
  · intro w hw; have hh := (hw).g; have c0 := hh.c0; have c1 := hh.c1; have lc := hh.lt; clear hh; clear hw; go_simp; try (with_reducible rfl)
  refine wpAnyH_take (i := 4) (v := ?_) rfl (by kernel_rfl) (by kernel_rfl) (by kernel_rfl) (fun _ _ _ h => h) (Or.inl ⟨by rfl, ?_⟩) hS0.out ?_
  rotate_left
  · intro w hw; have hh := (hw).s; have c0 := hh.c0; have c1 := hh.c1; have c2 := hh.c2; have lc := hh.lt; clear hh; clear hw; go_simp; try (with_reducible rfl)
  refine wpAnyH_ready (rs := [5]) (by kernel_rfl) (by simp) ?_
  refine AllReadyH.cons rfl (fun K hK => ?_) AllReadyH.nil
  have hh := (hS0.out).t; have c0 := hh.c0; have c1 := hh.c1; have c2 := hh.c2; have lc := hh.lt; clear hh
  go_simp
  refine hK.out _ _ hS0.out (fun _ => ?_)
  clear hK K
  refine wpAnyH_ready (rs := [6]) (by kernel_rfl) (by simp) ?_
  refine AllReadyH.cons rfl (fun K hK => ?_) AllReadyH.nil
  go_simp
  go_wp2_with (go_at_call 115; refine (kEA.out).mono ?_; rintro ev w6 ⟨rfl, hS6, hA6⟩)
  refine hK.out _ _ (MvS.keep hS0.out hA6 hl1 hl8 hl9 hl11) (fun hSn1 => ?_)
  have hE := hidden (And.intro hS6 (show Apart [E.mb] w w6 from (Apart.of_below hbG.out).trans hA6))
  clear hS6 hA6 kEA
  clear hK K
  refine wpAnyH_ready (rs := [7]) (by kernel_rfl) (by simp) ?_
  refine AllReadyH.cons rfl (fun K hK => ?_) AllReadyH.nil
  have hh := (hSn1).g; have r0 := hh.c0; have r1 := hh.c1; have g0 := hh.f0; have g1 := hh.f1; have lg := hh.lt; have e0 := setCell_self r0; have e1 := setCell_self r1; clear hh
  go_simp
  refine hK.out _ _ (hSn1) (fun hSn2 => ?_)
  clear r0 r1 g0 g1 lg e0 e1
  clear hK K
  refine wpAnyH_ready (rs := [8]) (by kernel_rfl) (by simp) ?_
  refine AllReadyH.cons rfl (fun K hK => ?_) AllReadyH.nil
  go_simp
  refine hK.out _ _ hSn2 (fun _ => ?_)
  clear hK K
  refine wpAnyH_done (by kernel_rfl) ?_ _
  go_wp2
  (try simp only [Exit.inBlock, Exit.then])
  exact bodyPost_ret (ret_fnode rfl rfl (hSn2).g) rfl ⟨by rw [hRY]; rfl, hE.out.1, hE.out.2⟩
end
end Go.Proofs.YtjionogjeafffaaGreatDoor
/- Rename over a file in its own directory. -/
namespace Go.Proofs.YtjionogjeafffaaGreatDoor
open Go.RowKit Go.Extern.Stop Go.Stop Go.Extern Go.Maps Go.Sort Go.Shelf
set_option maxRecDepth 100000

section
variable {fb rs hb : Nat} {E : TE} {w w' : World} {K : Nat → Nat} {D : Nat → List Int} {T : Nat → List Rec} {f u lim : Nat}
/-- The records of the directory behind it. -/
def overR (L : List Rec) (j i : Nat) (r : Rec) : List Rec := dropR (dropR L j) i ++ [r]
theorem TreeOk.over {tn p i0 j i : Nat} {a b s t : List UInt8} {l : List (List UInt8)} {r ry : Rec} {lv : List (List Nat)} (ht : TreeOk tn K D T) (p1 : 1 ≤ p) (p2 : p ≤ tn) (hk : K p = 2) (m : OversT K T tn a b l s t p i0 j i r ry lv) (htok : okB t = true)
    (hu : ∀ q, 1 ≤ q → q ≤ tn → K q = 2 → ∀ x ∈ upd T p (overR (T p) j i ⟨t, r.id⟩) q, x.id ≤ tn ∧ K x.id ≠ 0 ∧ x.id ≠ ry.id) :
    TreeOk tn (upd K ry.id 0) (overD D (T p) p j i ry.id ⟨t, r.id⟩) (upd T p (overR (T p) j i ⟨t, r.id⟩)) := by
  obtain ⟨hD, hG⟩ := ht.recs p p1 p2 hk
  have hj : j < (T p).length := (List.getElem?_eq_some_iff.1 m.aty).1
  have hi : i < (dropR (T p) j).length := (List.getElem?_eq_some_iff.1 m.at2).1
  have hrg := hG.each r (List.mem_of_getElem? m.at_)
  have hG2 : GoodL (overR (T p) j i ⟨t, r.id⟩) := ((hG.drop hj).drop hi).put (r := ⟨t, r.id⟩) ⟨htok, hrg.lo, hrg.hi⟩ m.no
  have hKq : ∀ q, upd K ry.id 0 q = 2 → q ≠ ry.id ∧ K q = 2 := fun q hq => by
    by_cases e : q = ry.id
    · rw [e, upd_same] at hq; cases hq
    · rw [upd_other _ _ e] at hq; exact ⟨e, hq⟩
  have h1 : (1 : Nat) ≠ ry.id := fun e => by have := m.filey; rw [← e, ht.root] at this; cases this
  refine ⟨by rw [upd_other _ _ h1]; exact ht.root, fun q q1 q2 hq => ?_, fun q q1 q2 hq x hx => ?_⟩
  · obtain ⟨hne, hq⟩ := hKq q hq
    unfold overD
    by_cases hqp : q = p
    · subst hqp
      rw [upd_same, upd_same]
      exact ⟨rfl, hG2⟩
    · rw [upd_other _ _ hqp, upd_other _ _ hqp, upd_other _ _ hne, upd_other _ _ hqp]
      exact ht.recs q q1 q2 hq
  · obtain ⟨hne, hq⟩ := hKq q hq
    obtain ⟨u1, u2, u3⟩ := hu q q1 q2 hq x hx
    exact ⟨u1, by rw [upd_other _ _ u3]; exact u2⟩
theorem bkL_step (n : Nat) (hn : n ≤ 124) : bkL (n + 1) ≤ bkL n + 2 := by
  have e1 := bkL_eq n
  have e2 := bkL_eq (n + 1)
  unfold blk at e1 e2
  split at e1 <;> split at e2 <;> (try split at e1) <;> (try split at e2) <;> (try split at e1) <;> (try split at e2) <;> omega
set_option maxHeartbeats 4000000 in
theorem rename_over (h : Fsz fb rs hb E K D T f lim w) (hno : HNo fb hb E w) {a b s t : List UInt8} {l : List (List UInt8)} {p i0 j i : Nat} {r ry : Rec} {lv : List (List Nat)} (m : OversT K T E.tn a b l s t p i0 j i r ry lv) (hf2 : 2 ≤ f) {n : Nat} (hn : blk ((D ry.id).length : Int) = (n : Int))
    (hu : ∀ q, 1 ≤ q → q ≤ E.tn → K q = 2 → ∀ x ∈ upd T p (overR (T p) j i ⟨t, r.id⟩) q, x.id ≤ E.tn ∧ K x.id ≠ 0 ∧ x.id ≠ ry.id) (hlim : lim ≤ 300000000) :
    Calls Tryz.prog 35 #[ptr fb, .string (mkB a), .string (mkB b)] w fun e w' => e = .returned .nilIface ∧ (∃ f', f' + bkL ((T p).length - 1) = f + bkL (T p).length + n ∧ Fsz fb rs hb E.rest (upd K ry.id 0) (overD D (T p) p j i ry.id ⟨t, r.id⟩) (upd T p (overR (T p) j i ⟨t, r.id⟩)) f' (lim + 1000) w') ∧ E.Turns fb w w' := by
  have hpl := h.pl
  have htn1 := hpl.tn1
  obtain ⟨p1, p2, hk⟩ := dirT_in h.tree htn1 m.dir
  obtain ⟨hDp, hGp⟩ := h.tree.recs p p1 p2 hk
  have htok : okB t = true := (may_all (split_may m.pb)).2 t (by simp)
  have hym := List.mem_of_getElem? m.aty
  obtain ⟨hyt, -⟩ := h.tree.used p p1 p2 hk ry hym
  have hy1 : 1 ≤ ry.id := (hGp.each ry hym).lo
  have hlen := m.few
  have hsum : sumL D [p, ry.id] = bkL (T p).length + n := by
    show (blk ((D p).length : Int)).toNat + ((blk ((D ry.id).length : Int)).toNat + 0) = _
    rw [hDp, recsL_len hGp.each, hn]
    rfl
  have hbk : bkL (T p).length ≤ 40 := by
    have e := bkL_eq (T p).length
    unfold blk at e
    split at e <;> (try split at e) <;> (try split at e) <;> omega
  have hn40 : n ≤ 40 := by have := blk_range ((D ry.id).length : Int); omega
  obtain ⟨A, U, ku, ok', -, hS'⟩ := h.s.re hpl [p, ry.id] [p, ry.id] (fun x hx => by simp at hx; rcases hx with rfl | rfl <;> omega) (fun x hx => by simp at hx; rcases hx with rfl | rfl <;> omega) 2 hf2 (by rw [hsum]; show 2 + 2 + _ + 2 ≤ 87; omega)
  have hfar := h.far
  have hah := h.s.to.lts
  have hfbl := h.at_.lt
  have hfit : bkL ((T p).length - 1) ≤ bkL ((T p).length - 1 - 1) + 2 := by
    rcases Nat.lt_or_ge 0 ((T p).length - 1) with h0 | h0
    · have := bkL_step ((T p).length - 1 - 1) (by omega)
      rw [show (T p).length - 1 - 1 + 1 = (T p).length - 1 by omega] at this
      exact this
    · rw [show (T p).length - 1 = 0 by omega]
      simp
  refine rename_via (E := E.rest) (rs := rs) (hb := hb) (Q := fun w' => (∃ f', f' + bkL ((T p).length - 1) = f + bkL (T p).length + n ∧ Fsz fb rs hb E.rest (upd K ry.id 0) (overD D (T p) p j i ry.id ⟨t, r.id⟩) (upd T p (overR (T p) j i ⟨t, r.id⟩)) f' (lim + 1000) w') ∧ E.Turns fb w w') m.la m.lb m.pa m.pb (by simp) (by simp) (fun w1 w2 hq hB => ⟨by obtain ⟨f', g1, g2⟩ := hq.1; exact ⟨f', g1, g2.below hB⟩, hq.2.trans (Apart.of_below hB)⟩) (fun wx b0 b1 b2 b3 hx hb0 hb3 hbx => ?_)
  have hF' : FsAt fb (E.at A U (· ∈ [p, ry.id]) (· ∈ [p, ry.id]) ku) rs hb wx := (h.at_.below hx).at _ _ _ _ _
  have hSx := (hS'.more hx).to
  have hHx : HNo fb hb (E.at A U (· ∈ [p, ry.id]) (· ∈ [p, ry.id]) ku) wx := ⟨(hno.below hx).no, hno.ne⟩
  have kM := move_over hF' hfar hHx hSx ok' h.tree htn1 m (show p ∈ [p, ry.id] by simp) (show p ∈ [p, ry.id] by simp) (show ry.id ∈ [p, ry.id] by simp) (show ry.id ∈ [p, ry.id] by simp) hn hfit
  have hmb3 : b3 ≠ E.mb := by unfold TE.Ahead at hah; omega
  have hb03 : b0 ≠ b3 := fun e => by
    have c0 := hbx.c0
    rw [e, hbx.n.c0] at c0
    cases c0
  have hi64 : i64 ((ry.id : Nat) : Int) := by have := ok'.tn; have : ry.id ≤ (E.at A U (· ∈ [p, ry.id]) (· ∈ [p, ry.id]) ku).tn := hyt; unfold i64; omega
  obtain ⟨F, hFe⟩ : ∃ F, F = f + bkL (T p).length + n - bkL ((T p).length - 1) := ⟨_, rfl⟩
  have hb0l := lt_of_cell (a := ⟨b0, 0, none⟩) hbx.c0
  have hb0m : b0 ∉ [E.mb] := by unfold TE.Ahead at hah; simp; omega
  have kR := rename1_ok (x := ((ry.id : Nat) : Int)) (k := 1) (Q := fun w1 => (Apart [E.mb] w w1 ∧ w1.cell? ⟨b0, 0, none⟩ = some (ptr fb) ∧ F + bkL ((T p).length - 1) = f + bkL (T p).length + n) ∧ FsAt fb (E.at A U (· ∈ [p, ry.id]) (· ∈ [p, ry.id]) ku) rs hb w1 ∧ S8 (E.at A U (· ∈ [p, ry.id]) (· ∈ [p, ry.id]) ku) (upd K ry.id 0) (overD D (T p) p j i ry.id ⟨t, r.id⟩) F 0 lim w1) hbx (kM.mono (by
    rintro e w1 ⟨rfl, ⟨f', g1, g2⟩, hA1⟩
    have hA1' : Apart [E.mb] wx w1 := hA1
    have hN1 := hbx.n.keep hA1' (by simpa using hmb3)
    refine ⟨rfl, hN1, ?_⟩
    have hAS := fn_apart w1 b3 (.int .i64 (ry.id : Nat)) (.int .i64 1)
    have hAw : Apart [E.mb] w w1 := (Apart.of_below hx).trans hA1'
    have c1 := (hA1'.cell (p := ⟨b0, 0, none⟩) hb0l hb0m).trans hbx.c0
    have hBS := hAS.below (B := w.heap.size) (by simpa using hb3) hAw.size
    have hfF : f' = F := by omega
    rw [hfF] at g1 g2
    refine ⟨⟨hAw.trans' hAS (by simpa using hb3), (hAS.cell (p := ⟨b0, 0, none⟩) (lt_of_cell (a := ⟨b0, 0, none⟩) c1) (by simpa using hb03)).trans c1, g1⟩, (hF'.keep hA1' (fun hm => hfar.1 (List.mem_singleton.1 hm))).keep hAS (by simp; omega), ?_⟩
    exact g2.over (B := w.heap.size) hah hBS))
  refine (step_ok (P := fun w1 => (Apart [E.mb] w w1 ∧ w1.cell? ⟨b0, 0, none⟩ = some (ptr fb) ∧ F + bkL ((T p).length - 1) = f + bkL (T p).length + n) ∧ FnAt w1 b3 (ry.id : Nat) 1) (K := upd K ry.id 0) (D := overD D (T p) p j i ry.id ⟨t, r.id⟩) (f := F) (u := 0) (lim := lim) ent_rename1 hF' hfar ok' hpl.far hpl.live (by show 1 ≤ E.most ∧ E.most ≤ 200; rw [hpl.most]; omega) hlim (kR.mono ?_)).mono ?_
  · rintro e w1 ⟨rfl, hN1, hA1, hF1, hS1⟩
    exact ⟨rfl, ⟨hA1, hN1⟩, hF1, hS1⟩
  · rintro e w2 ⟨rfl, w1, ⟨⟨hA1, d0, hFf⟩, hN1⟩, hF2, hS2, hA2⟩
    have hA2' : Apart [E.d, E.g, E.mb] w1 w2 := hA2
    have hlow : ∀ k ∈ [E.d, E.g, E.mb], k < w.heap.size := fun k hk => by
      unfold TE.Ahead at hah
      simp only [List.mem_cons, List.not_mem_nil, or_false] at hk
      omega
    have hturn : E.Turns fb w w2 := turns_of (Below.refl _ _) hA1 hA2'
    refine ⟨rfl, ?_, ((ry.id : Nat) : Int), 1, hi64, hN1.keep hA2' (fun hm => by have := hlow _ hm; omega), ⟨hF2.c0, hF2.c1, hF2.c2, hF2.c3, hF2.c4, hF2.c5, hF2.c6, hF2.c7, hF2.f7⟩, ?_, ⟨F, hFf, ⟨⟨hF2.c0, hF2.c1, hF2.c2, hF2.c3, hF2.c4, hF2.c5, hF2.c6, hF2.c7, hF2.f7⟩, hS2.rest, hpl.at _ _ _ _ _, hfar, h.tree.over p1 p2 hk m htok hu⟩⟩, hturn⟩
    · exact (hA2'.cell (p := ⟨b0, 0, none⟩) (lt_of_cell (a := ⟨b0, 0, none⟩) d0) (fun hm => by have := hlow _ hm; simp only at this; omega)).trans d0
    · exact ⟨(hno.turns hturn).no, hno.ne⟩
end
end Go.Proofs.YtjionogjeafffaaGreatDoor
/- FsSwaps: what its file system is, call by call. -/
namespace Go.Proofs.YtjionogjeafffaaGreatDoor
open Go.RowKit Go.Extern.Stop Go.Stop Go.Extern Go.Maps Go.Sort Go.Shelf
set_option maxRecDepth 100000

theorem fmt240 : FmtN 240 12 0 131 := ⟨by omega, by omega, by omega, by omega, by omega, by omega, by omega, by omega⟩
def swK : Nat → Nat := upd aK1 3 1
def swK' : Nat → Nat := upd swK 2 0
def swT (L : List Rec) : Nat → List Rec := upd (fun _ => []) 1 L
/-- Where FsSwaps is: nothing; one file; two, by these names; the one that is left. -/
structure SwQ where
  n : Nat
  L : List Rec
  xs : List Int
  ys : List Int
def SwQ.new : SwQ := ⟨0, [], [], []⟩
def SwQ.one (xs : List Int) : SwQ := ⟨1, [], xs, []⟩
def SwQ.two (L : List Rec) (xs ys : List Int) : SwQ := ⟨2, L, xs, ys⟩
def SwQ.left (ys : List Int) : SwQ := ⟨3, [], [], ys⟩
def SwSt (fb hb : Nat) (E : TE) (lim : Nat) (w : World) : SwQ → Prop
  | ⟨0, _, _, _⟩ => Fsz fb 0 hb E rootK (fun _ => []) (fun _ => []) 131 lim w
  | ⟨1, _, xs, _⟩ => ∃ (D : Nat → List Int) (f : Nat), D 2 = xs ∧ (f : Int) + blk (xs.length : Int) = 130 ∧ Fsz fb 0 hb E aK1 D (swT [⟨[97], 2⟩]) f lim w
  | ⟨2, L, xs, ys⟩ => ∃ (D : Nat → List Int) (f : Nat), D 2 = xs ∧ D 3 = ys ∧ (f : Int) + blk (xs.length : Int) + blk (ys.length : Int) = 130 ∧ Fsz fb 0 hb E swK D (swT L) f lim w
  | ⟨_, _, _, ys⟩ => ∃ (D : Nat → List Int) (f : Nat), D 3 = ys ∧ (f : Int) + blk (ys.length : Int) = 130 ∧ Fsz fb 0 hb E swK' D (swT [⟨[98], 3⟩]) f lim w
section
variable {fb hb xb : Nat} {E : TE} {w w' : World} {lim lim' : Nat} {q q' : SwQ} {xs ys : List Int} {L : List Rec}
theorem SwSt.any (h : SwSt fb hb E lim w q) : ∃ K D T f, Fsz fb 0 hb E K D T f lim w ∧ ∀ E' lim' w', Fsz fb 0 hb E' K D T f lim' w' → SwSt fb hb E' lim' w' q := by
  obtain ⟨n, L, xs, ys⟩ := q
  match n, h with
  | 0, h => exact ⟨_, _, _, _, h, fun _ _ _ h' => h'⟩
  | 1, h => obtain ⟨D, f, h1, h2, h3⟩ := h; exact ⟨_, _, _, _, h3, fun _ _ _ h' => ⟨D, f, h1, h2, h'⟩⟩
  | 2, h => obtain ⟨D, f, h1, h2, h3, h4⟩ := h; exact ⟨_, _, _, _, h4, fun _ _ _ h' => ⟨D, f, h1, h2, h3, h'⟩⟩
  | n + 3, h => obtain ⟨D, f, h1, h2, h3⟩ := h; exact ⟨_, _, _, _, h3, fun _ _ _ h' => ⟨D, f, h1, h2, h'⟩⟩
theorem SwSt.below (h : SwSt fb hb E lim w q) (hB : Below w.heap.size w w') : SwSt fb hb E lim w' q := by
  obtain ⟨K, D, T, f, h1, h2⟩ := h.any
  exact h2 _ _ _ (h1.below hB)
theorem SwSt.lts (h : SwSt fb hb E lim w q) : E.Ahead w.heap.size ∧ fb < w.heap.size ∧ Below E.w0.heap.size E.w0 w ∧ Ground w := by
  obtain ⟨K, D, T, f, h1, h2⟩ := h.any
  exact ⟨h1.s.to.lts, h1.at_.lt, h1.s.to.below, h1.s.to.ground⟩
/-- What holds between two calls of FsSwaps. -/
structure SwR (fb hb xb : Nat) (E : TE) (lim : Nat) (q : SwQ) (w : World) : Prop where
  st : SwSt fb hb E lim w q
  no : HNo fb hb E w
  x1 : w.cell? ⟨xb, 1, none⟩ = some (ptr fb)
  xn : xb ≠ E.d ∧ xb ≠ E.g ∧ xb ≠ E.mb ∧ xb ≠ fb
  tn : E.tn = 12
  k : E.k = 131
theorem SwR.below (h : SwR fb hb xb E lim q w) (hB : Below w.heap.size w w') : SwR fb hb xb E lim q w' := ⟨h.st.below hB, h.no.below hB, (hB.cell (p := ⟨xb, 1, none⟩) (lt_of_cell (a := ⟨xb, 1, none⟩) h.x1)).trans h.x1, h.xn, h.tn, h.k⟩
theorem SwR.turn (h : SwR fb hb xb E lim q w) (hT : E.Turns fb w w') (hst : SwSt fb hb E.rest lim' w' q') : SwR fb hb xb E.rest lim' q' w' :=
  ⟨hst, ⟨(h.no.turns hT).no, h.no.ne⟩, (hT.cell (p := ⟨xb, 1, none⟩) (lt_of_cell (a := ⟨xb, 1, none⟩) h.x1) (by have := h.xn; simp; omega)).trans h.x1, h.xn, h.tn, h.k⟩
theorem growb0 (n : Nat) : ∃ bn : Nat, growb 0 (n : Int) = (bn : Int) ∧ (bn : Int) = blk (n : Int) ∧ bn ≤ 40 := by
  have hb := blk_range (n : Int)
  have hg : growb 0 (n : Int) = blk (n : Int) := by
    have e : blk 0 = 0 := by simp [blk]
    unfold growb
    omega
  exact ⟨(blk (n : Int)).toNat, by omega, by omega, by omega⟩
theorem sw_putA (h : SwR fb hb xb E lim .new w) {bv : Value} (hbv : BytesC E.mb w bv xs) (hz : xs.length ≤ 3000) (hlim : lim ≤ 300000000) :
    Calls Tryz.prog 15 #[ptr fb, .string ⟨#[47, 97]⟩, bv] w fun e w' => e = .returned .nilIface ∧ SwR fb hb xb E.rest (lim + 1000) (.one xs) w' := by
  obtain ⟨ba, bc, rfl, hrest⟩ := hbv
  have hbv' : BytesC E.mb w (.slice ba xs.length bc) xs := ⟨ba, bc, rfl, hrest⟩
  obtain ⟨bn, hbn, hbn2, hbn3⟩ := growb0 xs.length
  have h0 : Fsz fb 0 hb E rootK (fun _ => []) (fun _ => []) 131 lim w := h.st
  have kP := put_new h0 (path := [47, 97]) (l := []) (s := [97]) (by simp) (by decide) hbv' (by omega) (p := 1) (by rfl) (by rfl) (by simp) (id := 2) (by omega) (by rw [h.tn]; omega) (by rfl) (fun i a b => by have e : i = 1 := (by omega); rw [e]; decide) false (gn := 1) (bn := bn) (by decide) hbn (by unfold mayB; simp; omega) hlim
  refine (fPut_ok (path := [47, 97]) (Q := fun w' => (∃ f', f' + 1 + bn = 131 ∧ Fsz fb 0 hb E.rest aK1 (upd (upd (fun _ => []) 1 (recsL [⟨[97], 2⟩])) 2 xs) (swT [⟨[97], 2⟩]) f' (lim + 1000) w') ∧ E.Turns fb w w') kP).mono ?_
  rintro e w' ⟨rfl, ⟨f', hf', hz'⟩, hT⟩
  exact ⟨rfl, h.turn hT ⟨_, f', upd_same _ _ _, by omega, hz'⟩⟩
theorem sw_putB (h : SwR fb hb xb E lim (.one xs) w) {bv : Value} (hbv : BytesC E.mb w bv ys) (hz : ys.length ≤ 3000) (hlim : lim ≤ 300000000) :
    Calls Tryz.prog 15 #[ptr fb, .string ⟨#[47, 98]⟩, bv] w fun e w' => e = .returned .nilIface ∧ SwR fb hb xb E.rest (lim + 1000) (.two [⟨[97], 2⟩, ⟨[98], 3⟩] xs ys) w' := by
  obtain ⟨ba, bc, rfl, hrest⟩ := hbv
  have hbv' : BytesC E.mb w (.slice ba ys.length bc) ys := ⟨ba, bc, rfl, hrest⟩
  obtain ⟨bn, hbn, hbn2, hbn3⟩ := growb0 ys.length
  have hbx := blk_range (xs.length : Int)
  obtain ⟨D, f, h1, h2, h0⟩ := h.st
  have kP := put_new h0 (path := [47, 98]) (l := []) (s := [98]) (by simp) (by decide) hbv' (by omega) (p := 1) (by rfl) (by rfl) (by show 1 < 120; omega) (id := 3) (by omega) (by rw [h.tn]; omega) (by rfl) (fun i a b => by rcases (by omega : i = 1 ∨ i = 2) with e | e <;> (rw [e]; decide)) false (gn := 0) (bn := bn) (by decide) hbn (by unfold mayB; simp; omega) hlim
  have eT : upd (swT [⟨[97], 2⟩]) 1 (swT [⟨[97], 2⟩] 1 ++ [⟨[98], 3⟩]) = swT [⟨[97], 2⟩, ⟨[98], 3⟩] := upd_upd _ _ _ _
  rw [eT] at kP
  refine (fPut_ok (path := [47, 98]) (Q := fun w' => (∃ f', f' + 0 + bn = f ∧ Fsz fb 0 hb E.rest swK (upd (upd D 1 (recsL [⟨[97], 2⟩, ⟨[98], 3⟩])) 3 ys) (swT [⟨[97], 2⟩, ⟨[98], 3⟩]) f' (lim + 1000) w') ∧ E.Turns fb w w') kP).mono ?_
  rintro e w' ⟨rfl, ⟨f', hf', hz'⟩, hT⟩
  exact ⟨rfl, h.turn hT ⟨_, f', by rw [upd_other _ _ (by omega), upd_other _ _ (by omega)]; exact h1, upd_same _ _ _, by omega, hz'⟩⟩
/-- A name turned. -/
theorem sw_turn (h : SwR fb hb xb E lim (.two L xs ys) w) {a b s t : List UInt8} {i : Nat} {r : Rec} {lv : List (List Nat)} (m : TurnsT swK (swT L) E.tn a b [] s t 1 i r lv) (hlim : lim ≤ 300000000) :
    Calls Tryz.prog 16 #[ptr fb, .string (mkB a), .string (mkB b)] w fun e w' => e = .returned .nilIface ∧ SwR fb hb xb E.rest (lim + 1000) (.two (L.set i ⟨t, r.id⟩) xs ys) w' := by
  obtain ⟨D, f, h1, h2, h3, h0⟩ := h.st
  refine (fRename_ok (rename_turn h0 h.no m hlim)).mono ?_
  rintro e w' ⟨rfl, hz, hT⟩
  have eT : upd (swT L) 1 ((swT L 1).set i ⟨t, r.id⟩) = swT (L.set i ⟨t, r.id⟩) := upd_upd _ _ _ _
  rw [eT] at hz
  exact ⟨rfl, h.turn hT ⟨_, f, by rw [upd_other _ _ (by omega)]; exact h1, by rw [upd_other _ _ (by omega)]; exact h2, h3, hz⟩⟩
theorem sw_get (h : SwR fb hb xb E lim q w) {K : Nat → Nat} {D : Nat → List Int} {T : Nat → List Rec} {f : Nat} (h0 : Fsz fb 0 hb E K D T f lim w) (hq : ∀ E' lim' w', Fsz fb 0 hb E' K D T f lim' w' → SwSt fb hb E' lim' w' q) {path s : List UInt8} (hlen : path.length ≤ 2000) (hp : splitB path = some [s]) {x : Nat} (hw : walkT K T 1 [s] = .ok x) (hk : K x = 1) (hlim : lim ≤ 300000000) :
    Calls Tryz.prog 17 #[ptr fb, .string (mkB path)] w fun e w' => ∃ v, e = .returned (.tuple #[v, .nilIface]) ∧ OwnV w.heap.size w' v (D x) ∧ SwR fb hb xb E.rest (lim + 1000) q w' ∧ E.Turns fb w w' := by
  refine (fGet_ok (path := path) (get_ok h0 (path := path) (l := [s]) hlen hp (q := x) hw hk hlim)).mono ?_
  rintro e w' ⟨v, rfl, hV, hz, hT⟩
  exact ⟨v, rfl, hV, h.turn hT (hq _ _ _ hz), hT⟩
theorem sw_getA (h : SwR fb hb xb E lim (.two [⟨[98], 2⟩, ⟨[97], 3⟩] xs ys) w) (hlim : lim ≤ 300000000) :
    Calls Tryz.prog 17 #[ptr fb, .string ⟨#[47, 97]⟩] w fun e w' => ∃ v, e = .returned (.tuple #[v, .nilIface]) ∧ OwnV w.heap.size w' v ys ∧ SwR fb hb xb E.rest (lim + 1000) (.two [⟨[98], 2⟩, ⟨[97], 3⟩] xs ys) w' ∧ E.Turns fb w w' := by
  obtain ⟨D, f, h1, h2, h3, h0⟩ := h.st
  have k := sw_get (path := [47, 97]) (s := [97]) (x := 3) h h0 (fun _ _ _ h' => ⟨D, f, h1, h2, h3, h'⟩) (by simp) (by decide) (by rfl) (by rfl) hlim
  rw [h2] at k
  exact k
theorem sw_getB (h : SwR fb hb xb E lim (.two [⟨[98], 2⟩, ⟨[97], 3⟩] xs ys) w) (hlim : lim ≤ 300000000) :
    Calls Tryz.prog 17 #[ptr fb, .string ⟨#[47, 98]⟩] w fun e w' => ∃ v, e = .returned (.tuple #[v, .nilIface]) ∧ OwnV w.heap.size w' v xs ∧ SwR fb hb xb E.rest (lim + 1000) (.two [⟨[98], 2⟩, ⟨[97], 3⟩] xs ys) w' ∧ E.Turns fb w w' := by
  obtain ⟨D, f, h1, h2, h3, h0⟩ := h.st
  have k := sw_get (path := [47, 98]) (s := [98]) (x := 2) h h0 (fun _ _ _ h' => ⟨D, f, h1, h2, h3, h'⟩) (by simp) (by decide) (by rfl) (by rfl) hlim
  rw [h1] at k
  exact k
theorem sw_getL (h : SwR fb hb xb E lim (.left ys) w) (hlim : lim ≤ 300000000) :
    Calls Tryz.prog 17 #[ptr fb, .string ⟨#[47, 98]⟩] w fun e w' => ∃ v, e = .returned (.tuple #[v, .nilIface]) ∧ OwnV w.heap.size w' v ys ∧ SwR fb hb xb E.rest (lim + 1000) (.left ys) w' ∧ E.Turns fb w w' := by
  obtain ⟨D, f, h1, h2, h0⟩ := h.st
  have k := sw_get (path := [47, 98]) (s := [98]) (x := 3) h h0 (fun _ _ _ h' => ⟨D, f, h1, h2, h'⟩) (by simp) (by decide) (by rfl) (by rfl) hlim
  rw [h1] at k
  exact k
theorem sw_room (h : SwR fb hb xb E lim (.left ys) w) (hlim : lim ≤ 300000000) :
    Calls Tryz.prog 18 #[ptr fb] w fun e w' => ∃ f : Nat, (f : Int) + blk (ys.length : Int) = 130 ∧ e = .returned (.tuple #[rmV (f : Nat) 0 10 131, .nilIface]) ∧ SwR fb hb xb E.rest (lim + 1000) (.left ys) w' ∧ E.Turns fb w w' := by
  obtain ⟨D, f, h1, h2, h0⟩ := h.st
  refine (fRoom_ok h0 hlim).mono ?_
  rintro e w' ⟨rfl, hz, hT⟩
  have e1 : cntN swK' (E.tn + 1) = 10 := by rw [h.tn]; rfl
  exact ⟨f, h2, by rw [h.k, e1]; rfl, h.turn hT ⟨D, f, h1, h2, hz⟩, hT⟩
theorem swDir : ∀ q, swK q = 2 → q = 1 := by
  intro q hq
  by_cases h3 : q = 3
  · rw [h3] at hq; cases hq
  · by_cases h2 : q = 2
    · rw [h2] at hq; cases hq
    · by_cases h1 : q = 1
      · exact h1
      · unfold swK aK1 rootK at hq
        rw [upd_other _ _ h3, upd_other _ _ h2, upd_other _ _ h1] at hq
        cases hq
theorem sw_over (h : SwR fb hb xb E lim (.two [⟨[98], 2⟩, ⟨[97], 3⟩] xs ys) w) (hlim : lim ≤ 300000000) :
    Calls Tryz.prog 16 #[ptr fb, .string ⟨#[47, 97]⟩, .string ⟨#[47, 98]⟩] w fun e w' => e = .returned .nilIface ∧ SwR fb hb xb E.rest (lim + 1000) (.left ys) w' ∧ E.Turns fb w w' := by
  obtain ⟨D, f, h1, h2, h3, h0⟩ := h.st
  have hbx := blk_range (xs.length : Int)
  have hby := blk_range (ys.length : Int)
  obtain ⟨n, hn⟩ : ∃ n : Nat, blk (xs.length : Int) = (n : Int) := ⟨(blk (xs.length : Int)).toNat, by omega⟩
  have e1 : dropR [(⟨[98], 2⟩ : Rec), ⟨[97], 3⟩] 0 = [⟨[97], 3⟩] := rfl
  have m : OversT swK (swT [⟨[98], 2⟩, ⟨[97], 3⟩]) E.tn [47, 97] [47, 98] [] [97] [98] 1 1 0 0 ⟨[97], 3⟩ ⟨[98], 2⟩ [[3]] := ⟨by simp, by simp, by decide, by decide, by decide, by decide, by rfl, by rfl, rfl, by rfl, rfl, by rfl, by rfl, by rfl, fun q hq => (by cases hq), lv_file (by decide) (by show 3 ≤ E.tn; rw [h.tn]; omega) (by decide), by simp, by show 2 ≤ 120; omega⟩
  have eT : upd (swT [⟨[98], 2⟩, ⟨[97], 3⟩]) 1 (overR (swT [⟨[98], 2⟩, ⟨[97], 3⟩] 1) 0 0 ⟨[98], 3⟩) = swT [⟨[98], 3⟩] := upd_upd _ _ _ _
  have k := rename_over h0 h.no m (by omega) (n := n) (by show blk ((D 2).length : Int) = _; rw [h1]; exact hn) (fun q q1 q2 hq x hx => by
    obtain rfl := swDir q hq
    rw [eT] at hx
    have hx' : x ∈ [(⟨[98], 3⟩ : Rec)] := hx
    simp at hx'
    subst hx'
    exact ⟨by show 3 ≤ E.tn; rw [h.tn]; omega, by decide, by decide⟩) hlim
  refine (fRename_ok (a := [47, 97]) (b := [47, 98]) k).mono ?_
  rintro e w' ⟨rfl, ⟨f', hf', hz⟩, hT⟩
  rw [eT] at hz
  have e2 : f' + 1 = f + 1 + n := hf'
  refine ⟨rfl, h.turn hT ⟨_, f', ?_, by omega, hz⟩, hT⟩
  unfold overD
  rw [upd_other _ _ (by omega), upd_other _ _ (by decide), upd_other _ _ (by omega)]
  exact h2
theorem swKids : kidsT swK' (swT [⟨[98], 3⟩]) 1 = [3] := by
  have e : namesT (swT [⟨[98], 3⟩]) 1 = [[98]] := by
    have e1 : (swT [⟨[98], 3⟩] 1).map Rec.s = [[98]] := rfl
    unfold namesT
    rw [e1]
    simp [sortS]
  unfold kidsT
  rw [e]
  rfl
theorem swUsed : ∀ id, 1 ≤ id → swK' id ≠ 0 → id = 1 ∨ id = 3 := by
  intro id h1 hk
  by_cases h3 : id = 3
  · exact Or.inr h3
  · by_cases h2 : id = 2
    · rw [h2] at hk; exact absurd rfl hk
    · by_cases h1' : id = 1
      · exact Or.inl h1'
      · refine absurd ?_ hk
        unfold swK' swK aK1 rootK
        rw [upd_other _ _ h2, upd_other _ _ h3, upd_other _ _ h2, upd_other _ _ h1']
theorem swSound : Sound swK' (swT [⟨[98], 3⟩]) 12 [[1], [3]] := sound_flat (by omega) swKids (by simp) (by simp) (fun x hx => by simp at hx; subst hx; exact ⟨by omega, by omega, by decide⟩) (fun id a _ c => by rcases swUsed id a c with rfl | rfl <;> simp)
theorem sw_check (h : SwR fb hb xb E lim (.left ys) w) (hlim : lim ≤ 300000000) :
    Calls Tryz.prog 20 #[ptr fb] w fun e w' => e = .returned .nilIface ∧ SwR fb hb xb E.rest (lim + 1000) (.left ys) w' ∧ E.Turns fb w w' := by
  obtain ⟨D, f, h1, h2, h0⟩ := h.st
  refine (fCheck_ok h0 (lv := [[1], [3]]) (by rw [h.tn]; exact swSound) (by rw [h.k]; omega) hlim).mono ?_
  rintro e w' ⟨rfl, hz, hT⟩
  exact ⟨rfl, h.turn hT ⟨D, f, h1, h2, hz⟩, hT⟩
end
end Go.Proofs.YtjionogjeafffaaGreatDoor
