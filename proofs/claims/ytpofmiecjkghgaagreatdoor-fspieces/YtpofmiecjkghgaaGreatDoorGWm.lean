/- Drop of a name, over the state itself: what may be taken stays so. -/
import Derived.Test.YtpofmiecjkghgaaGreatDoorGXd
import Derived.Test.YtpofmiecjkghgaaGreatDoorGVk
import Derived.Test.YtpofmiecjkghgaaGreatDoorGXf
import Derived.Test.YtpofmiecjkghgaaGreatDoorGVg
import Derived.Deep.RegionHeld
namespace Go.Proofs.YtpofmiecjkghgaaGreatDoor
open Go.RowKit Go.Extern.Stop Go.Stop Go.Extern Go.Maps Go.Sort Go.Shelf
set_option maxRecDepth 100000
section
variable {E : TE} {w w' : World} {K : Nat -> Nat} {D : Nat -> List Int} {f u lim : Nat} {p db : Nat}
theorem tcutU (h : S8 E K D f u lim w) (ok : E.Ok) (p1 : 1 <= p) (p2 : p <= E.tn) (hk : K p = 2) (hR : E.R p) (hW : E.W p) {S2 : Nat} (hS : S2 <= (D p).length) :
    Calls Tryz.prog 65 #[ptr E.tb, .int .i64 (p : Nat), .int .i64 S2] w fun e w' => e = .returned .nilIface /\ (∃ f', S8 E K (upd D p (cutL (D p) S2)) f' u lim w' /\ (f' : Int) + blk (S2 : Int) = (f : Int) + blk ((D p).length : Int)) /\ Apart [E.mb] w w' := by
  have hl := h.len p1 p2
  have hge : blk (S2 : Int) <= blk ((D p).length : Int) := blk_upD (by omega) (by omega) (by omega)
  by_cases hlt : S2 < (D p).length
  · obtain ⟨n, hn⟩ : ∃ n : Nat, blk ((D p).length : Int) - blk (S2 : Int) = (n : Int) := ⟨(blk ((D p).length : Int) - blk (S2 : Int)).toNat, by omega⟩
    refine (S8.cutless ok h p1 p2 hR hW (by rw [hk]; decide) hlt hn).mono ?_
    rintro e w' ⟨rfl, r1, r2⟩
    rw [<- cutL_less _ _ (by omega)] at r1
    exact ⟨rfl, ⟨_, r1, by omega⟩, r2⟩
  · obtain rfl : S2 = (D p).length := by omega
    refine (S8.cutmore ok h p1 p2 hR hW (by rw [hk]; decide) (n := 0) (Nat.le_refl _) hl (by unfold growb; omega) (Nat.zero_le _)).mono ?_
    rintro e w' ⟨rfl, r1, r2⟩
    rw [<- cutL_more _ _ (Nat.le_refl _)] at r1
    exact ⟨rfl, ⟨_, r1, by omega⟩, r2⟩
set_option maxHeartbeats 2000000 in
theorem dcutU (h : S8 E K D f u lim w) (ok : E.Ok) (p1 : 1 <= p) (p2 : p <= E.tn) (hk : K p = 2) (hR : E.R p) (hW : E.W p) (hd : DirAt E db p w) {n : Nat} (hn : 32 * n <= (D p).length) :
    Calls Tryz.prog 227 #[ptr db, .int .i64 n] w fun e w' => e = .returned .nilIface /\ (∃ f', S8 E K (upd D p (cutL (D p) (32 * n))) f' u lim w' /\ (f' : Int) + blk ((32 * n : Nat) : Int) = (f : Int) + blk ((D p).length : Int)) /\ Apart [E.mb] w w' := by
  have hBd := below_drew1 w
  have hd' := hd.below hBd
  have d0 := hd'.d0
  have d1 := hd'.d1
  have hlt := hd.lt
  have hn4 : 32 * n <= 4000 := Nat.le_trans hn (h.len p1 p2)
  have kC := tcutU (h.more hBd) ok p1 p2 hk hR hW hn
  rw [show ((32 * n : Nat) : Int) = (n : Int) * 32 by omega] at kC
  rw [show ((32 * n : Nat) : Int) = (n : Int) * 32 by omega]
  replace kC := hidden kC
  have hwm := wrap_inD ((n : Int) * 32) (by omega) (by omega)
  replace hBd := hidden hBd
  clear h hd hd'
  go_enter Tryz.func227, Tryz.ntmps227
  go_upto_region 1 with fail
  go_region_with (go_at_call 65; refine (kC.out).mono ?_; rintro ev w3 ⟨rfl, hD3, hA3⟩)
  all_goals
    have hE := hidden (And.intro hD3 ((Apart.of_below (bs := [E.mb]) hBd.out).trans hA3))
    clear hD3 hA3
    go_wp2
    go_ret
    exact ⟨rfl, hE.out⟩
set_option maxHeartbeats 2000000 in
theorem ddropU (h : S8 E K D f u lim w) (ok : E.Ok) {L : List Rec} (p1 : 1 <= p) (p2 : p <= E.tn) (hk : K p = 2) (hD : D p = recsL L) (hg : GoodL L) (hd : DirAt E db p w) {i : Nat} {r : Rec} (hr : L[i]? = some r) (hR : E.R p) (hW : E.W p) :
    Calls Tryz.prog 177 #[ptr db, .string (mkB r.s)] w fun e w' => e = .returned .nilIface /\ (∃ f', S8 E K (upd D p (recsL (dropR L i))) f' u lim w' /\ f' + bkL (dropR L i).length = f + bkL L.length) /\ Apart [E.mb] w w' := by
  have hi : i < L.length := (List.getElem?_eq_some_iff.1 hr).1
  have hrl := recsL_len hg.each
  have hL : 32 * L.length <= 4000 := by have := h.len p1 p2; rw [hD, hrl] at this; exact this
  have kF := hidden (dfind_at (h.dl hD hg hd) (eok ok p1 p2 hk _) hr)
  have hdm := hd.ne h
  obtain ⟨n, hn⟩ : ∃ n, L.length = n + 1 := ⟨L.length - 1, by omega⟩
  have hdl := dropR_len hi
  have e0 := bkL_eq L.length
  have e1 := bkL_eq n
  have hgd := hidden (hg.drop hi)
  have hEnd : ∀ (M : List Rec) (f' : Nat) (wx : World), M.length = L.length -> (∀ x ∈ M, x.Good) -> dropR L i = M.take n -> S8 E K (upd (upd D p (recsL M)) p (cutL (upd D p (recsL M) p) (32 * n))) f' u lim wx -> (f' : Int) + blk ((32 * n : Nat) : Int) = (f : Int) + blk ((upd D p (recsL M) p).length : Int) -> ∃ f', S8 E K (upd D p (recsL (dropR L i))) f' u lim wx /\ f' + bkL (dropR L i).length = f + bkL L.length := fun M f' wx hM hMg hdr hS hf => by
    rw [upd_same, upd_upd, recs_cut hMg n (by omega), <- hdr] at hS
    rw [upd_same, recsL_len hMg, hM] at hf
    refine ⟨f', hS, ?_⟩
    rw [hdl, hn, show n + 1 - 1 = n by omega]
    rw [hn] at e0 hf
    omega
  have hX := hidden (And.intro h (And.intro ok (And.intro hg hd)))
  have hRW := hidden (And.intro hR hW)
  replace hEnd := hidden hEnd
  replace hDh := hidden hD
  replace hdl := hidden hdl
  replace e0 := hidden e0
  replace e1 := hidden e1
  replace hrl := hidden hrl
  clear h ok hg hd hR hW hD
  go_enter Tryz.func177, Tryz.ntmps177
  go_wp2_with fail
  refine (kF.out).mono ?_
  rintro ev w2 ⟨v, rfl, hO, hB⟩
  obtain ⟨la, lc, rfl⟩ := hO.form
  have hO' := hidden hO
  have hX2 := hidden (And.intro (hX.out.1.more hB) (hX.out.2.2.2.below hB))
  have hBh := hidden hB
  clear hB kF
  have hsub : ((L.length : Nat) : Int) - 1 = (n : Int) := by omega
  by_cases hlast : i = n
  · have hdr : dropR L i = L.take n := by
      have := dropR_last (L := L) (by omega)
      rw [hn, show n + 1 - 1 = n by omega] at this
      rw [hlast]
      exact this
    have hS2 : S8 E K (upd D p (recsL L)) f u lim w2 := by
      have := hX2.out.1
      rw [<- upd_self D p, hDh.out] at this
      exact this
    have kC := hidden (dcutU hS2 hX.out.2.1 p1 p2 hk hRW.out.1 hRW.out.2 hX2.out.2 (n := n) (by rw [upd_same, hrl.out]; omega))
    replace hdr := hidden hdr
    have hii : (i : Int) = (n : Int) := by omega
    clear hO hS2
    go_wp2_with fail
    refine (kC.out).mono ?_
    rintro ev w4 ⟨rfl, ⟨f', hS4, hf4⟩, hA⟩
    have hZ := hidden (And.intro (hEnd.out L f' w4 rfl hX.out.2.2.1.each hdr.out hS4 hf4) (show Apart [E.mb] w w4 from (Apart.of_below (bs := [E.mb]) hBh.out).trans hA))
    clear hS4 hf4 hA kC
    go_wp2
    go_ret
    exact ⟨rfl, hZ.out⟩
  · obtain ⟨q, hq⟩ : ∃ q, L[n]? = some q := ⟨_, List.getElem?_eq_getElem (by omega)⟩
    have hqg := hX.out.2.2.1.each q (List.mem_of_getElem? hq)
    have hDL2 := hX2.out.1.dl hDh.out hX.out.2.2.1 hX2.out.2
    have kL := lay_calls (S2 := 32 * L.length) hDL2.b (eok hX.out.2.1 p1 p2 hk _) ⟨hRW.out.1, hRW.out.2⟩ i q hqg (by omega) (by rw [hrl.out]; omega) (Or.inl (by rw [hrl.out]))
    rw [recs_set hX.out.2.2.1.each hqg.len i hi] at kL
    replace kL := hidden kL
    obtain ⟨a', c', hv, hcs⟩ := hO.at
    obtain ⟨rfl, -, rfl⟩ := Value.slice.inj hv
    obtain ⟨bb, off, rfl, hbb, hcell⟩ := hcs (by intro e; rw [e] at hi; simp at hi)
    obtain ⟨c0, c1⟩ := hcell n q hq
    have hdr : dropR L i = (L.set i q).take n := by
      have := dropR_get (i := i) (show L[L.length - 1]? = some q by rw [hn]; exact hq)
      rw [hn, show n + 1 - 1 = n by omega] at this
      exact this
    replace hdr := hidden hdr
    have hii : ¬ (i : Int) = (n : Int) := by omega
    have hnl : (n : Int) < (L.length : Int) := by omega
    have hqg' := hidden hqg
    clear hO hv hcs hcell hqg hDL2
    go_wp2_with fail
    refine (kL.out).mono ?_
    rintro ev w4 ⟨rfl, hD4, hA⟩
    have hset : ∀ x ∈ L.set i q, x.Good := fun x hx => by
      rcases List.mem_or_eq_of_mem_set hx with hx | rfl
      · exact hX.out.2.2.1.each x hx
      · exact hqg'.out
    obtain ⟨f4, u4, s1, s2, s3⟩ := hD4.s
    rw [recsL_len hset, List.length_set] at s2 s3
    have s3' : (bkL L.length : Int) + (u : Int) <= (u4 : Int) + blk ((32 * L.length : Nat) : Int) := s3 (Int.le_of_eq e0.out)
    have s2' : (f4 : Int) + blk ((32 * L.length : Nat) : Int) = ((f + bkL L.length : Nat) : Int) := s2
    have hf4 : f4 = f := by have := e0.out; omega
    have s1' : S8 E K (upd D p (recsL (L.set i q))) f u lim w4 := by
      rw [hf4] at s1
      exact S8.low s1 (by have := e0.out; omega)
    have hA4' : Apart [E.mb] w2 w4 := hA
    have kC := hidden (dcutU s1' hX.out.2.1 p1 p2 hk hRW.out.1 hRW.out.2 (hX2.out.2.keep hA4' (by simpa using hdm)) (n := n) (by rw [upd_same, recsL_len hset, List.length_set]; omega))
    have hA4 := hidden ((Apart.of_below (bs := [E.mb]) hBh.out).trans hA4')
    replace hset := hidden hset
    clear hD4 hA kL hA4' s1 s2 s3 s2' s3' s1' hf4
    go_wp2_with fail
    refine (kC.out).mono ?_
    rintro ev w5 ⟨rfl, ⟨f', hS5, hf5⟩, hA⟩
    have hZ := hidden (And.intro (hEnd.out (L.set i q) f' w5 List.length_set hset.out hdr.out hS5 hf5) (hA4.out.trans hA))
    clear hS5 hf5 hA kC
    go_wp2
    go_ret
    exact ⟨rfl, hZ.out⟩
set_option maxHeartbeats 1000000 in
theorem dDropU (h : S8 E K D f u lim w) (ok : E.Ok) {L : List Rec} (p1 : 1 <= p) (p2 : p <= E.tn) (hk : K p = 2) (hD : D p = recsL L) (hg : GoodL L) (hd : DirAt E db p w) {i : Nat} {r : Rec} (hr : L[i]? = some r) (hR : E.R p) (hW : E.W p) :
    Calls Tryz.prog 128 #[ptr db, .string (mkB r.s)] w fun e w' => e = .returned .nilIface /\ (∃ f', S8 E K (upd D p (recsL (dropR L i))) f' u lim w' /\ f' + bkL (dropR L i).length = f + bkL L.length) /\ Apart [E.mb] w w' := by
  have kF := hidden (ddropU h ok p1 p2 hk hD hg hd hr hR hW)
  have kW := hidden (fun (wx : World) => dwrong_nil (mkB r.s) wx)
  clear h ok hg hd hR hW hD
  go_enter Tryz.func128, Tryz.ntmps128
  go_wp2_with fail
  refine (kF.out).mono ?_
  rintro ev w2 ⟨rfl, hD, hA⟩
  have hE := hidden (And.intro hD hA)
  clear hD hA kF
  go_wp2_with fail
  refine (kW.out _).mono ?_
  rintro ev w3 ⟨rfl, rfl⟩
  go_wp2
  go_ret
  exact ⟨rfl, hE.out⟩
end
set_option maxRecDepth 1000000
section
variable {fb rs hb : Nat} {E : TE} {w w' : World} {K : Nat -> Nat} {D : Nat -> List Int} {T : Nat -> List Rec} {f u lim : Nat}
structure DpS (fb nb : Nat) (E : TE) (id : Int) (w : World) : Prop where
  t : w.cell? ⟨fb, 2, none⟩ = some (ptr E.tb)
  n : w.cell? ⟨nb, 0, none⟩ = some (.int .i64 id)
theorem DpS.keep {nb : Nat} {id : Int} {bs : List Nat} (h : DpS fb nb E id w) (ha : Apart bs w w') (h1 : fb ∉ bs) (h2 : nb ∉ bs) : DpS fb nb E id w' := ⟨(ha.cell (p := ⟨fb, 2, none⟩) (lt_of_cell (a := ⟨fb, 2, none⟩) h.t) h1).trans h.t, (ha.cell (p := ⟨nb, 0, none⟩) (lt_of_cell (a := ⟨nb, 0, none⟩) h.n) h2).trans h.n⟩
set_option maxHeartbeats 4000000 in
theorem drop_ok (hF : FsAt fb E rs hb w) (hfar : FsAt.Far fb E) (hno : HNo fb hb E w) (h : S8 E K D f u lim w) (ok : E.Ok) {p db : Nat} {L : List Rec} (p1 : 1 <= p) (p2 : p <= E.tn) (hk : K p = 2) (hD : D p = recsL L) (hg : GoodL L) (hdir : DirAt E db p w) {i : Nat} {r : Rec} (hr : L[i]? = some r) (y2 : r.id <= E.tn) (hyk : K r.id ≠ 0) (hyp : r.id ≠ p) (hR : E.R p) (hW : E.W p) (hRy : E.R r.id) (hWy : E.W r.id \/ E.ku = 0) {n : Nat} (hn : blk ((D r.id).length : Int) = (n : Int)) (k : Int) :
    Calls Tryz.prog 71 #[ptr fb, ptr db, .string (mkB r.s), fnV (r.id : Nat) k] w fun e w' => e = .returned .nilIface /\ (∃ f', f' + bkL (dropR L i).length = f + bkL L.length + n /\ S8 E (upd K r.id 0) (upd (upd D p (recsL (dropR L i))) r.id []) f' u lim w') /\ Apart [E.mb] w w' := by
  have y1 : 1 <= r.id := (hg.each r (List.mem_of_getElem? hr)).lo
  have hi64 : i64 ((r.id : Nat) : Int) := by have := ok.tn; unfold i64; omega
  obtain ⟨w1, hw1, hB1, hN1⟩ : ∃ w1, w.alloc (.cells #[.int .i64 (r.id : Nat), .int .i64 k] 105) = w1 /\ Below w.heap.size w w1 /\ FnAt w1 w.heap.size (r.id : Nat) k := ⟨_, rfl, (Below.refl _ _).alloc (Nat.le_refl _) _, fn_new _ _ _⟩
  have hmb : E.mb < w.heap.size := h.lts.2.2.2.2.1
  have kD := hidden (dDropU (h.more hB1) ok p1 p2 hk hD hg (hdir.below hB1) hr hR hW)
  have hF1 := hidden (hF.below hB1)
  have hH1 := hidden (hno.below hB1)
  have hfb : fb ∉ [E.mb] := by have := hfar.1; simpa using this
  have hhb : hb ∉ [E.mb] := by have := hno.ne.2.2.1; simpa using this
  have hnb : w.heap.size ∉ [E.mb] := by simp; omega
  have kFr := hidden (fun (wx : World) (f' : Nat) (hx : S8 E K (upd D p (recsL (dropR L i))) f' u lim wx) => S8.free ok hx y1 y2 hRy hWy hyk (by rw [upd_other _ _ hyp]; exact hn))
  replace hN1 := hidden hN1
  have hb1 := hidden (Apart.of_below (bs := [E.mb]) hB1)
  clear hF hno h ok hdir hg hB1 hR hW hRy hWy hn hyk hfar hD
  generalize hRI : ((r.id : Nat) : Int) = RI at *
  generalize hnbn : w.heap.size = nb at *
  replace hw1 := hidden hw1
  go_enter Tryz.func71, Tryz.ntmps71
  go_upto_region 1 with fail
  rw [hw1.out]
  clear hw1
  go_wp2_with fail
  refine (kD.out).mono ?_
  rintro ev w2 ⟨rfl, ⟨f', hS2, hf2⟩, hA2⟩
  have hA2' : Apart [E.mb] w1 w2 := hA2
  have hF2 := hF1.out.keep hA2' hfb
  have kH := hidden (holds_no hF2 (hH1.out.keep hA2' hhb) RI hi64)
  have hN2 := hN1.out.keep hA2' hnb
  have n0 := hN2.c0
  have ln := hN2.lt
  have hZ := hidden (And.intro hS2 (And.intro hf2 (hb1.out.trans hA2')))
  have hS0 : Hid (DpS fb nb E RI w2.drew) := hidden ((DpS.mk hF2.c2 hN2.c0).keep (Apart.of_below (bs := []) (below_drew1 w2)) (by simp) (by simp))
  clear hS2 hf2 hA2 hA2' kD hF2 hN2 hF1 hH1 hN1
  go_wp2_with fail
  refine (kH.out).mono ?_
  rintro ev w3 ⟨rfl, hw3⟩
  subst w3
  clear kH
  go_upto_region 6 with fail
  have kF := kFr.out w2.drew f' (hZ.out.1.more (below_drew1 w2))
  replace kF := hidden kF
  replace hZ := hidden (And.intro hZ.out.2.1 (hZ.out.2.2.trans (Apart.of_below (below_drew1 w2))))
  clear kFr n0 ln
  refine wp_region_held_drew (S := DpS fb nb E RI) (by kernel_rfl) hS0.out ?_
  intro _
  generalize w2.drew = wd at *
  refine wpAnyH_take (i := 0) (v := ?_) rfl (by kernel_rfl) (by kernel_rfl) (by kernel_rfl) (fun _ _ _ h => h) (Or.inl ⟨by rfl, ?_⟩) hS0.out ?_
  rotate_left
  · intro w hw; clear hw; go_simp; try (with_reducible rfl)
  refine wpAnyH_take (i := 1) (v := ?_) rfl (by kernel_rfl) (by kernel_rfl) (by kernel_rfl) (fun _ _ _ h => h) (Or.inl ⟨by rfl, ?_⟩) hS0.out ?_
  rotate_left
  · intro w hw; clear hw; go_simp; try (with_reducible rfl)
  refine wpAnyH_take (i := 2) (v := ?_) rfl (by kernel_rfl) (by kernel_rfl) (by kernel_rfl) (fun _ _ _ h => h) (Or.inl ⟨by rfl, ?_⟩) hS0.out ?_
  rotate_left
  · intro w hw; clear hw; go_simp; try (with_reducible rfl)
  refine wpAnyH_take (i := 3) (v := ?_) rfl (by kernel_rfl) (by kernel_rfl) (by kernel_rfl) (fun _ _ _ h => h) (Or.inl ⟨by rfl, ?_⟩) hS0.out ?_
  rotate_left
  · intro w hw; have c := (hw).t; have lc := lt_of_cell (a := ⟨fb, 2, none⟩) c; clear hw; go_simp; try (with_reducible rfl)
  refine wpAnyH_ready (rs := [4]) (by kernel_rfl) (by simp) ?_
  refine AllReadyH.cons rfl (fun K hK => ?_) AllReadyH.nil
  go_simp
  refine hK.out _ _ hS0.out (fun _ => ?_)
  clear hK K
  refine wpAnyH_ready (rs := [5]) (by kernel_rfl) (by simp) ?_
  refine AllReadyH.cons rfl (fun K hK => ?_) AllReadyH.nil
  have c := (hS0.out).n; have lc := lt_of_cell (a := ⟨nb, 0, none⟩) c
  go_simp
  refine hK.out _ _ hS0.out (fun _ => ?_)
  clear hK K
  refine wpAnyH_ready (rs := [6]) (by kernel_rfl) (by simp) ?_
  refine AllReadyH.cons rfl (fun K hK => ?_) AllReadyH.nil
  go_simp
  go_wp2_with (go_at_call 87; refine (kF.out).mono ?_; rintro ev w6 ⟨rfl, hS6, hA6⟩)
  refine hK.out _ _ (DpS.keep hS0.out hA6 hfb hnb) (fun hSn1 => ?_)
  have hE := hidden (And.intro hS6 (hZ.out.2.trans hA6))
  clear hS6 hA6 kF
  clear hK K
  refine wpAnyH_ready (rs := [7]) (by kernel_rfl) (by simp) ?_
  refine AllReadyH.cons rfl (fun K hK => ?_) AllReadyH.nil
  go_simp
  refine hK.out _ _ hSn1 (fun _ => ?_)
  clear hK K
  refine wpAnyH_done (by kernel_rfl) ?_ _
  go_wp2
  go_ret
  exact ⟨rfl, ⟨_, by have := hZ.out.1; omega, hE.out.1⟩, hE.out.2⟩
end
section
variable {fb rs hb : Nat} {E : TE} {w w' : World} {K : Nat -> Nat} {D : Nat -> List Int} {T : Nat -> List Rec} {f u lim : Nat}
set_option maxHeartbeats 4000000 in
theorem carry_same (h : S8 E K D f u lim w) (ok : E.Ok) {p db db2 : Nat} {L : List Rec} (p1 : 1 <= p) (p2 : p <= E.tn) (hk : K p = 2) (hD : D p = recsL L) (hg : GoodL L) (hdir : DirAt E db p w) (hdir2 : DirAt E db2 p w) {i : Nat} {r : Rec} (hr : L[i]? = some r) (hid : r.id <= 200) (t : List UInt8) (ht : okB t = true) (hno : ∀ q ∈ dropR L i, q.s ≠ t) (hR : E.R p) (hW : E.W p) (hl : L.length <= 120) (hfit : bkL L.length <= bkL (L.length - 1) + u) (k : Int) (va va2 : Option Addr) (vn vc vn2 vc2 : Nat) :
    Calls Tryz.prog 185 #[fnV (r.id : Nat) k, spV (.slice va vn vc) (mkB r.s) (ptr db), spV (.slice va2 vn2 vc2) (mkB t) (ptr db2)] w fun e w' => e = .returned .nilIface /\ S8 E K (upd D p (recsL (dropR L i ++ [⟨t, r.id⟩]))) f 0 lim w' /\ Apart [E.mb] w w' := by
  have hi : i < L.length := (List.getElem?_eq_some_iff.1 hr).1
  have hdl := dropR_len hi
  have hr1 : 1 <= r.id := (hg.each r (List.mem_of_getElem? hr)).lo
  have hgd := hg.drop hi
  obtain ⟨w1, hw1, hB1, hN1⟩ : ∃ w1, w.alloc (.cells #[.int .i64 (r.id : Nat), .int .i64 k] 105) = w1 /\ Below w.heap.size w w1 /\ FnAt w1 w.heap.size (r.id : Nat) k := ⟨_, rfl, (Below.refl _ _).alloc (Nat.le_refl _) _, fn_new _ _ _⟩
  obtain ⟨w2, hw2, hB2, hS2⟩ : ∃ w2, w1.alloc (.cells #[.slice va vn vc, .string (mkB r.s), ptr db] 166) = w2 /\ Below w1.heap.size w1 w2 /\ SpAt w2 w1.heap.size (.slice va vn vc) (mkB r.s) (ptr db) := ⟨_, rfl, (Below.refl _ _).alloc (Nat.le_refl _) _, sp_new _ _ _ _⟩
  obtain ⟨w3, hw3, hB3, hS3⟩ : ∃ w3, w2.alloc (.cells #[.slice va2 vn2 vc2, .string (mkB t), ptr db2] 166) = w3 /\ Below w2.heap.size w2 w3 /\ SpAt w3 w2.heap.size (.slice va2 vn2 vc2) (mkB t) (ptr db2) := ⟨_, rfl, (Below.refl _ _).alloc (Nat.le_refl _) _, sp_new _ _ _ _⟩
  have hmb : E.mb < w.heap.size := h.lts.2.2.2.2.1
  have hs1 := hB1.size
  have hs2 := hB2.size
  have hb3 : Below w.heap.size w w3 := (hB1.trans (hB2.mono hB1.size)).trans (hB3.mono (Nat.le_trans hB1.size hB2.size))
  have hS2' := hS2.below hB3
  have hN3 := (hN1.below hB2).below hB3
  have a1 := hS2'.c1
  have a2 := hS2'.c2
  have la := hS2'.lt
  have kD := hidden (dDropU (h.more hb3) ok p1 p2 hk hD hg (hdir.below hb3) hr hR hW)
  have hdm2 : db2 ∉ [E.mb] := by have := hdir2.ne h; simpa using this
  have kP := hidden (fun (wx : World) (hA : Apart [E.mb] w3 wx) (f' : Nat) (hx : S8 E K (upd D p (recsL (dropR L i))) f' u lim wx) => dPut_ok (hx.dl (upd_same _ _ _) hgd ((hdir2.below hb3).keep hA hdm2)) (eok ok p1 p2 hk _) ⟨hR, hW⟩ (Or.inr ⟨by
      show ((bkL (dropR L i).length : Nat) : Int) <= blk ((recsL (dropR L i)).length : Int)
      rw [recsL_len hgd.each]
      exact Int.le_of_eq (bkL_eq _), by
      show blk ((32 * ((dropR L i).length + 1) : Nat) : Int) <= ((bkL (dropR L i).length : Nat) : Int) + ((u : Nat) : Int)
      rw [<- bkL_eq, hdl, show L.length - 1 + 1 = L.length by omega]
      omega⟩) t r.id ht hr1 hid hno (by omega))
  have hfin : Hid (∀ (f1 : Nat) (wx : World), f1 + bkL (dropR L i).length = f + bkL L.length -> DL (dx E p K (upd D p (recsL (dropR L i))) (dropR L i).length f1 u lim) db2 (dropR L i ++ [⟨t, r.id⟩]) wx -> S8 E K (upd D p (recsL (dropR L i ++ [⟨t, r.id⟩]))) f 0 lim wx) := hidden (fun f1 wx hf hDL => by
    obtain ⟨f2, u2, s1, s2, -⟩ := hDL.s8
    rw [upd_upd] at s1
    have e : (dropR L i ++ [(⟨t, r.id⟩ : Rec)]).length = L.length := by rw [List.length_append, hdl]; simp; omega
    rw [e] at s2
    have : f2 = f := by omega
    rw [this] at s1
    exact s1.low (Nat.zero_le _))
  have hkeep := hidden (And.intro hN3 hS3)
  have hb3' := hidden hb3
  have hnb : w.heap.size ∉ [E.mb] := by simp; omega
  have hnb2 : w2.heap.size ∉ [E.mb] := by simp; omega
  clear h ok hdir hdir2 hg hno hR hW hB1 hB2 hB3 hN1 hS2 hS3 hS2' hb3 hD hN3 hgd hfit
  generalize hb6 : w1.heap.size = b6 at *
  generalize hb7 : w2.heap.size = b7 at *
  generalize hRI : ((r.id : Nat) : Int) = RI at *
  go_enter Tryz.func185, Tryz.ntmps185
  go_wp2_with fail
  refine (kD.out).mono ?_
  rintro ev w4 ⟨rfl, ⟨f1, hS4, hf4⟩, hA4⟩
  have hN4 := hkeep.out.1.keep hA4 hnb
  have hT4 := hkeep.out.2.keep hA4 hnb2
  have n0 := hN4.c0
  have l4 := hN4.lt
  have c1 := hT4.c1
  have c2 := hT4.c2
  have l5 := hT4.lt
  have kP4 := hidden (kP.out w4 hA4 f1 hS4)
  replace hA4 := hidden ((Apart.of_below (bs := [E.mb]) hb3'.out).trans hA4)
  replace hf4 := hidden hf4
  clear hN4 hT4 hS4 kD kP hw1 hw2 hw3 a1 a2 la
  go_wp2_with fail
  refine (kP4.out).mono ?_
  rintro ev w5 ⟨rfl, hDL, hA5⟩
  have hE := hidden (And.intro (hfin.out f1 w5 hf4.out hDL) (show Apart [E.mb] w w5 from hA4.out.trans hA5))
  clear hDL hA5 kP4
  go_wp2
  go_ret
  exact ⟨rfl, hE.out⟩
end
section
variable {fb rs hb : Nat} {E : TE} {w w' : World} {K : Nat -> Nat} {D : Nat -> List Int} {T : Nat -> List Rec} {f u lim : Nat}
def overD (D : Nat -> List Int) (L : List Rec) (p j i y : Nat) (r : Rec) : Nat -> List Int := upd (upd (upd D p (recsL (dropR L j))) y []) p (recsL (dropR (dropR L j) i ++ [r]))
set_option maxHeartbeats 4000000 in
theorem replace_same (hF : FsAt fb E rs hb w) (hfar : FsAt.Far fb E) (hnh : HNo fb hb E w) (h : S8 E K D f u lim w) (ok : E.Ok) {p db db2 : Nat} {L : List Rec} (p1 : 1 <= p) (p2 : p <= E.tn) (hk : K p = 2) (hD : D p = recsL L) (hg : GoodL L) (hdir : DirAt E db p w) (hdir2 : DirAt E db2 p w) {j : Nat} {ry : Rec} (hry : L[j]? = some ry) {i : Nat} {rx : Rec} (hrx : (dropR L j)[i]? = some rx) (y2 : ry.id <= E.tn) (hyk : K ry.id = 1) (hid : rx.id <= 200) (hno : ∀ q ∈ dropR (dropR L j) i, q.s ≠ ry.s) (hR : E.R p) (hW : E.W p) (hRy : E.R ry.id) (hWy : E.W ry.id) {n : Nat} (hn : blk ((D ry.id).length : Int) = (n : Int)) (hl : L.length <= 120) (hfit : bkL (L.length - 1) <= bkL (L.length - 1 - 1) + u) (va va2 : Option Addr) (vn vc vn2 vc2 : Nat) :
    Calls Tryz.prog 137 #[ptr fb, fnV (rx.id : Nat) 1, fnV (ry.id : Nat) 1, spV (.slice va vn vc) (mkB rx.s) (ptr db), spV (.slice va2 vn2 vc2) (mkB ry.s) (ptr db2)] w fun e w' => e = .returned .nilIface /\ (∃ f', f' + bkL (L.length - 1) = f + bkL L.length + n /\ S8 E (upd K ry.id 0) (overD D L p j i ry.id ⟨ry.s, rx.id⟩) f' 0 lim w') /\ Apart [E.mb] w w' := by
  have hj : j < L.length := (List.getElem?_eq_some_iff.1 hry).1
  have hdl := dropR_len hj
  have hgd := hg.drop hj
  have hyp : ry.id ≠ p := fun e => by rw [e, hk] at hyk; cases hyk
  have htok : okB ry.s = true := (hg.each ry (List.mem_of_getElem? hry)).ok
  obtain ⟨w1, hw1, hB1, hN1⟩ : ∃ w1, w.alloc (.cells #[.int .i64 (rx.id : Nat), .int .i64 1] 105) = w1 /\ Below w.heap.size w w1 /\ FnAt w1 w.heap.size (rx.id : Nat) 1 := ⟨_, rfl, (Below.refl _ _).alloc (Nat.le_refl _) _, fn_new _ _ _⟩
  obtain ⟨w1y, hw1y, hB1y, hN1y⟩ : ∃ w1y, w1.alloc (.cells #[.int .i64 (ry.id : Nat), .int .i64 1] 105) = w1y /\ Below w1.heap.size w1 w1y /\ FnAt w1y w1.heap.size (ry.id : Nat) 1 := ⟨_, rfl, (Below.refl _ _).alloc (Nat.le_refl _) _, fn_new _ _ _⟩
  obtain ⟨w2, hw2, hB2, hS2⟩ : ∃ w2, w1y.alloc (.cells #[.slice va vn vc, .string (mkB rx.s), ptr db] 166) = w2 /\ Below w1y.heap.size w1y w2 /\ SpAt w2 w1y.heap.size (.slice va vn vc) (mkB rx.s) (ptr db) := ⟨_, rfl, (Below.refl _ _).alloc (Nat.le_refl _) _, sp_new _ _ _ _⟩
  obtain ⟨w3, hw3, hB3, hS3⟩ : ∃ w3, w2.alloc (.cells #[.slice va2 vn2 vc2, .string (mkB ry.s), ptr db2] 166) = w3 /\ Below w2.heap.size w2 w3 /\ SpAt w3 w2.heap.size (.slice va2 vn2 vc2) (mkB ry.s) (ptr db2) := ⟨_, rfl, (Below.refl _ _).alloc (Nat.le_refl _) _, sp_new _ _ _ _⟩
  have hmb : E.mb < w.heap.size := h.lts.2.2.2.2.1
  have hs1 := hB1.size
  have hs1y := hB1y.size
  have hs2 := hB2.size
  have hb1y : Below w.heap.size w w1y := hB1.trans (hB1y.mono hB1.size)
  have hb2 : Below w.heap.size w w2 := hb1y.trans (hB2.mono hb1y.size)
  have hb3 : Below w.heap.size w w3 := hb2.trans (hB3.mono hb2.size)
  have hS2' := hS2.below hB3
  have hNx := ((hN1.below hB1y).below hB2).below hB3
  have hNy := (hN1y.below hB2).below hB3
  have x1 := hNx.c1
  have y0 := hNy.c0
  have y1 := hNy.c1
  have lx := hNx.lt
  have ly := hNy.lt
  have b1 := hS3.c1
  have b2 := hS3.c2
  have lb := hS3.lt
  have kD := hidden (drop_ok (hF.below hb3) hfar (hnh.below hb3) (h.more hb3) ok p1 p2 hk hD hg (hdir2.below hb3) hry y2 (by rw [hyk]; decide) hyp hR hW hRy (Or.inl hWy) hn 1)
  have hdm : db ∉ [E.mb] := by have := hdir.ne h; simpa using this
  have hdm2 : db2 ∉ [E.mb] := by have := hdir2.ne h; simpa using this
  have kP := hidden (fun (wx : World) (hA : Apart [E.mb] w3 wx) (f' : Nat) (hx : S8 E (upd K ry.id 0) (upd (upd D p (recsL (dropR L j))) ry.id []) f' u lim wx) => carry_same hx ok p1 p2 (by rw [upd_other _ _ (fun e => hyp e.symm)]; exact hk) (by rw [upd_other _ _ (fun e => hyp e.symm), upd_same]) hgd ((hdir.below hb3).keep hA hdm) ((hdir2.below hb3).keep hA hdm2) hrx hid ry.s htok hno hR hW (by omega) (by rw [hdl]; exact hfit) 1 va va2 vn vc vn2 vc2)
  have hfin : Hid (∀ (f1 : Nat) (wx : World), f1 + bkL (dropR L j).length = f + bkL L.length + n -> S8 E (upd K ry.id 0) (upd (upd (upd D p (recsL (dropR L j))) ry.id []) p (recsL (dropR (dropR L j) i ++ [⟨ry.s, rx.id⟩]))) f1 0 lim wx -> ∃ f', f' + bkL (L.length - 1) = f + bkL L.length + n /\ S8 E (upd K ry.id 0) (overD D L p j i ry.id ⟨ry.s, rx.id⟩) f' 0 lim wx) := hidden (fun f1 wx hf hS => ⟨f1, by rw [hdl] at hf; exact hf, hS⟩)
  have hkeep := hidden (And.intro hNx (And.intro hS2' hS3))
  have hb3' := hidden hb3
  have hnb : w.heap.size ∉ [E.mb] := by simp; omega
  have hnb6 : w1y.heap.size ∉ [E.mb] := by simp; omega
  have hnb7 : w2.heap.size ∉ [E.mb] := by simp; omega
  clear hF hfar hnh h ok hdir hdir2 hg hno hR hW hRy hWy hB1 hB1y hB2 hB3 hN1 hN1y hS2 hS3 hS2' hb1y hb2 hb3 hD hNx hNy hgd hfit hn
  generalize hb5 : w1.heap.size = b5 at *
  generalize hb6 : w1y.heap.size = b6 at *
  generalize hb7 : w2.heap.size = b7 at *
  generalize hRI : ((rx.id : Nat) : Int) = RI at *
  generalize hRY : ((ry.id : Nat) : Int) = RY at *
  go_enter Tryz.func137, Tryz.ntmps137
  go_wp2_with fail
  refine (kD.out).mono ?_
  rintro ev w4 ⟨rfl, ⟨f1, hf4, hS4⟩, hA4⟩
  obtain ⟨kx, ks, kt⟩ := hkeep.out
  have hN4 := kx.keep hA4 hnb
  have hU4 := ks.keep hA4 hnb6
  have hT4 := kt.keep hA4 hnb7
  have n0 := hN4.c0
  have n1 := hN4.c1
  have l4 := hN4.lt
  have u0 := hU4.c0
  have u1 := hU4.c1
  have u2 := hU4.c2
  have lu := hU4.lt
  have c0 := hT4.c0
  have c1 := hT4.c1
  have c2 := hT4.c2
  have l5 := hT4.lt
  have kP4 := hidden (kP.out w4 hA4 f1 hS4)
  replace hA4 := hidden ((Apart.of_below (bs := [E.mb]) hb3'.out).trans hA4)
  replace hf4 := hidden hf4
  clear hN4 hT4 hU4 hS4 kD kP hw1 hw1y hw2 hw3 x1 y0 y1 lx ly b1 b2 lb kx ks kt
  go_wp2_with fail
  refine (kP4.out).mono ?_
  rintro ev w5 ⟨rfl, hS5, hA5⟩
  have hE := hidden (And.intro (hfin.out f1 w5 hf4.out hS5) (show Apart [E.mb] w w5 from hA4.out.trans hA5))
  clear hS5 hA5 kP4
  go_wp2
  go_ret
  exact ⟨rfl, hE.out⟩
end
end Go.Proofs.YtpofmiecjkghgaaGreatDoor
