/- Drop of a name, over the state itself: what may be taken stays so. -/
import Derived.Test.YtleafmdjhmnjmaaGreatDoorGXdp
import Derived.Test.YtleafmdjhmnjmaaGreatDoorGVkp
import Derived.Test.YtleafmdjhmnjmaaGreatDoorGXfp
import Derived.Test.YtleafmdjhmnjmaaGreatDoorGVgp
import Derived.Deep.RegionHeld
import Derived.Test.YtleafmdjhmnjmaaGreatDoorGWgp
import Derived.Test.YtleafmdjhmnjmaaGreatDoorGWap
import Derived.Test.YtleafmdjhmnjmaaGreatDoorGXip
import Derived.Test.YtleafmdjhmnjmaaGreatDoorGXap
import Derived.Test.YtleafmdjhmnjmaaGreatDoorGWcp
namespace Go.Proofs.YtleafmdjhmnjmaaGreatDoor
open Go.RowKit Go.Extern.Stop Go.Stop Go.Extern Go.Maps Go.Sort Go.Shelf
set_option maxRecDepth 1000000
set_option maxHeartbeats 8000000
section
variable {E : TE} {w w' : World} {K : Nat -> Nat} {D : Nat -> List Int} {f u lim : Nat} {p db : Nat}
theorem tcutU (h : S8 E K D f u lim w) (ok : E.Ok) (p1 : 1 <= p) (p2 : p <= E.tn) (hk : K p = 2) (hR : E.R p) (hW : E.W p) {S2 : Nat} (hS : S2 <= (D p).length) :
    Calls Tryz.prog 48 #[ptr E.tb, .int .i64 (p : Nat), .int .i64 S2] w fun e w' => e = .returned .nilIface /\ (∃ f', S8 E K (upd D p (cutL (D p) S2)) f' u lim w' /\ (f' : Int) + blk (S2 : Int) = (f : Int) + blk ((D p).length : Int)) /\ Apart [E.mb] w w' := by
  have hl := h.len p1 p2
  have hge : blk (S2 : Int) <= blk ((D p).length : Int) := blk_upD (by omega) (by omega) (by omega)
  by_cases hlt : S2 < (D p).length
  · obtain ⟨n, hn⟩ : ∃ n : Nat, blk ((D p).length : Int) - blk (S2 : Int) = (n : Int) := ⟨(blk ((D p).length : Int) - blk (S2 : Int)).toNat, by omega⟩
    refine (S8.cutless ok h p1 p2 hR hW (by rw [hk]; decide) hlt hn).mono ?_
    rintro e w' ⟨rfl, r1, r2⟩
    rw [<- cutL_less _ _ (by omega)] at r1
    exact ⟨rfl, ⟨_, r1, by omega⟩, r2⟩
  · obtain rfl : S2 = (D p).length := by omega
    refine (S8.cutmore ok h p1 p2 hR hW (by rw [hk]; decide) (n := 0) (Nat.le_refl _) hl (by unfold growb; omega) (Nat.zero_le _)).mono ?_
    rintro e w' ⟨rfl, r1, r2⟩
    rw [<- cutL_more _ _ (Nat.le_refl _)] at r1
    exact ⟨rfl, ⟨_, r1, by omega⟩, r2⟩
theorem dcutU (h : S8 E K D f u lim w) (ok : E.Ok) (p1 : 1 <= p) (p2 : p <= E.tn) (hk : K p = 2) (hR : E.R p) (hW : E.W p) (hd : DirAt E db p w) {n : Nat} (hn : 32 * n <= (D p).length) :
    Calls Tryz.prog 208 #[ptr db, .int .i64 n] w fun e w' => e = .returned .nilIface /\ (∃ f', S8 E K (upd D p (cutL (D p) (32 * n))) f' u lim w' /\ (f' : Int) + blk ((32 * n : Nat) : Int) = (f : Int) + blk ((D p).length : Int)) /\ Apart [E.mb] w w' := by
  have hBd := below_drew1 w
  have hd' := hd.below hBd
  have d0 := hd'.d0
  have d1 := hd'.d1
  have hlt := hd.lt
  have hn4 : 32 * n <= 4000 := Nat.le_trans hn (h.len p1 p2)
  have kC := tcutU (h.more hBd) ok p1 p2 hk hR hW hn
  rw [show ((32 * n : Nat) : Int) = (n : Int) * 32 by omega] at kC
  rw [show ((32 * n : Nat) : Int) = (n : Int) * 32 by omega]
  replace kC := hidden kC
  have hwm := wrap_inD ((n : Int) * 32) (by omega) (by omega)
  replace hBd := hidden hBd
  clear h hd hd'
  go_enter Tryz.func208, Tryz.ntmps208
  go_upto_region 1 with fail
  go_region_with (go_at_call 48; refine (kC.out).mono ?_; rintro ev w3 ⟨rfl, hD3, hA3⟩)
  all_goals
    have hE := hidden (And.intro hD3 ((Apart.of_below (bs := [E.mb]) hBd.out).trans hA3))
    clear hD3 hA3
    go_wp2
    go_ret
    exact ⟨rfl, hE.out⟩
theorem ddropU (h : S8 E K D f u lim w) (ok : E.Ok) {L : List Rec} (p1 : 1 <= p) (p2 : p <= E.tn) (hk : K p = 2) (hD : D p = recsL L) (hg : GoodL L) (hd : DirAt E db p w) {i : Nat} {r : Rec} (hr : L[i]? = some r) (hR : E.R p) (hW : E.W p) :
    Calls Tryz.prog 158 #[ptr db, .string (mkB r.s)] w fun e w' => e = .returned .nilIface /\ (∃ f', S8 E K (upd D p (recsL (dropR L i))) f' u lim w' /\ f' + bkL (dropR L i).length = f + bkL L.length) /\ Apart [E.mb] w w' := by
  have hi : i < L.length := (List.getElem?_eq_some_iff.1 hr).1
  have hrl := recsL_len hg.each
  have hL : 32 * L.length <= 4000 := by have := h.len p1 p2; rw [hD, hrl] at this; exact this
  have kF := hidden (dfind_at (h.dl hD hg hd) (eok ok p1 p2 hk _) hr)
  have hdm := hd.ne h
  obtain ⟨n, hn⟩ : ∃ n, L.length = n + 1 := ⟨L.length - 1, by omega⟩
  have hdl := dropR_len hi
  have e0 := bkL_eq L.length
  have e1 := bkL_eq n
  have hgd := hidden (hg.drop hi)
  have hEnd : ∀ (M : List Rec) (f' : Nat) (wx : World), M.length = L.length -> (∀ x ∈ M, x.Good) -> dropR L i = M.take n -> S8 E K (upd (upd D p (recsL M)) p (cutL (upd D p (recsL M) p) (32 * n))) f' u lim wx -> (f' : Int) + blk ((32 * n : Nat) : Int) = (f : Int) + blk ((upd D p (recsL M) p).length : Int) -> ∃ f', S8 E K (upd D p (recsL (dropR L i))) f' u lim wx /\ f' + bkL (dropR L i).length = f + bkL L.length := fun M f' wx hM hMg hdr hS hf => by
    rw [upd_same, upd_upd, recs_cut hMg n (by omega), <- hdr] at hS
    rw [upd_same, recsL_len hMg, hM] at hf
    refine ⟨f', hS, ?_⟩
    rw [hdl, hn, show n + 1 - 1 = n by omega]
    rw [hn] at e0 hf
    omega
  have hX := hidden (And.intro h (And.intro ok (And.intro hg hd)))
  have hRW := hidden (And.intro hR hW)
  replace hEnd := hidden hEnd
  replace hDh := hidden hD
  replace hdl := hidden hdl
  replace e0 := hidden e0
  replace e1 := hidden e1
  replace hrl := hidden hrl
  clear h ok hg hd hR hW hD
  go_enter Tryz.func158, Tryz.ntmps158
  go_wp2_with fail
  refine (kF.out).mono ?_
  rintro ev w2 ⟨v, rfl, hO, hB⟩
  obtain ⟨la, lc, rfl⟩ := hO.form
  have hO' := hidden hO
  have hX2 := hidden (And.intro (hX.out.1.more hB) (hX.out.2.2.2.below hB))
  have hBh := hidden hB
  clear hB kF
  have hsub : ((L.length : Nat) : Int) - 1 = (n : Int) := by omega
  by_cases hlast : i = n
  · have hdr : dropR L i = L.take n := by
      have := dropR_last (L := L) (by omega)
      rw [hn, show n + 1 - 1 = n by omega] at this
      rw [hlast]
      exact this
    have hS2 : S8 E K (upd D p (recsL L)) f u lim w2 := by
      have := hX2.out.1
      rw [<- upd_self D p, hDh.out] at this
      exact this
    have kC := hidden (dcutU hS2 hX.out.2.1 p1 p2 hk hRW.out.1 hRW.out.2 hX2.out.2 (n := n) (by rw [upd_same, hrl.out]; omega))
    replace hdr := hidden hdr
    have hii : (i : Int) = (n : Int) := by omega
    clear hO hS2
    go_wp2_with fail
    refine (kC.out).mono ?_
    rintro ev w4 ⟨rfl, ⟨f', hS4, hf4⟩, hA⟩
    have hZ := hidden (And.intro (hEnd.out L f' w4 rfl hX.out.2.2.1.each hdr.out hS4 hf4) (show Apart [E.mb] w w4 from (Apart.of_below (bs := [E.mb]) hBh.out).trans hA))
    clear hS4 hf4 hA kC
    go_wp2
    go_ret
    exact ⟨rfl, hZ.out⟩
  · obtain ⟨q, hq⟩ : ∃ q, L[n]? = some q := ⟨_, List.getElem?_eq_getElem (by omega)⟩
    have hqg := hX.out.2.2.1.each q (List.mem_of_getElem? hq)
    have hDL2 := hX2.out.1.dl hDh.out hX.out.2.2.1 hX2.out.2
    have kL := lay_calls (S2 := 32 * L.length) hDL2.b (eok hX.out.2.1 p1 p2 hk _) ⟨hRW.out.1, hRW.out.2⟩ i q hqg (by omega) (by rw [hrl.out]; omega) (Or.inl (by rw [hrl.out]))
    rw [recs_set hX.out.2.2.1.each hqg.len i hi] at kL
    replace kL := hidden kL
    obtain ⟨a', c', hv, hcs⟩ := hO.at
    obtain ⟨rfl, -, rfl⟩ := Value.slice.inj hv
    obtain ⟨bb, off, rfl, hbb, hcell⟩ := hcs (by intro e; rw [e] at hi; simp at hi)
    obtain ⟨c0, c1⟩ := hcell n q hq
    have hdr : dropR L i = (L.set i q).take n := by
      have := dropR_get (i := i) (show L[L.length - 1]? = some q by rw [hn]; exact hq)
      rw [hn, show n + 1 - 1 = n by omega] at this
      exact this
    replace hdr := hidden hdr
    have hii : ¬ (i : Int) = (n : Int) := by omega
    have hnl : (n : Int) < (L.length : Int) := by omega
    have hqg' := hidden hqg
    clear hO hv hcs hcell hqg hDL2
    go_wp2_with fail
    refine (kL.out).mono ?_
    rintro ev w4 ⟨rfl, hD4, hA⟩
    have hset : ∀ x ∈ L.set i q, x.Good := fun x hx => by
      rcases List.mem_or_eq_of_mem_set hx with hx | rfl
      · exact hX.out.2.2.1.each x hx
      · exact hqg'.out
    obtain ⟨f4, u4, s1, s2, s3⟩ := hD4.s
    rw [recsL_len hset, List.length_set] at s2 s3
    have s3' : (bkL L.length : Int) + (u : Int) <= (u4 : Int) + blk ((32 * L.length : Nat) : Int) := s3 (Int.le_of_eq e0.out)
    have s2' : (f4 : Int) + blk ((32 * L.length : Nat) : Int) = ((f + bkL L.length : Nat) : Int) := s2
    have hf4 : f4 = f := by have := e0.out; omega
    have s1' : S8 E K (upd D p (recsL (L.set i q))) f u lim w4 := by
      rw [hf4] at s1
      exact S8.low s1 (by have := e0.out; omega)
    have hA4' : Apart [E.mb] w2 w4 := hA
    have kC := hidden (dcutU s1' hX.out.2.1 p1 p2 hk hRW.out.1 hRW.out.2 (hX2.out.2.keep hA4' (by simpa using hdm)) (n := n) (by rw [upd_same, recsL_len hset, List.length_set]; omega))
    have hA4 := hidden ((Apart.of_below (bs := [E.mb]) hBh.out).trans hA4')
    replace hset := hidden hset
    clear hD4 hA kL hA4' s1 s2 s3 s2' s3' s1' hf4
    go_wp2_with fail
    refine (kC.out).mono ?_
    rintro ev w5 ⟨rfl, ⟨f', hS5, hf5⟩, hA⟩
    have hZ := hidden (And.intro (hEnd.out (L.set i q) f' w5 List.length_set hset.out hdr.out hS5 hf5) (hA4.out.trans hA))
    clear hS5 hf5 hA kC
    go_wp2
    go_ret
    exact ⟨rfl, hZ.out⟩
theorem dDropU (h : S8 E K D f u lim w) (ok : E.Ok) {L : List Rec} (p1 : 1 <= p) (p2 : p <= E.tn) (hk : K p = 2) (hD : D p = recsL L) (hg : GoodL L) (hd : DirAt E db p w) {i : Nat} {r : Rec} (hr : L[i]? = some r) (hR : E.R p) (hW : E.W p) :
    Calls Tryz.prog 111 #[ptr db, .string (mkB r.s)] w fun e w' => e = .returned .nilIface /\ (∃ f', S8 E K (upd D p (recsL (dropR L i))) f' u lim w' /\ f' + bkL (dropR L i).length = f + bkL L.length) /\ Apart [E.mb] w w' := by
  have kF := hidden (ddropU h ok p1 p2 hk hD hg hd hr hR hW)
  have kW := hidden (fun (wx : World) => dwrong_nil (mkB r.s) wx)
  clear h ok hg hd hR hW hD
  go_enter Tryz.func111, Tryz.ntmps111
  go_wp2_with fail
  refine (kF.out).mono ?_
  rintro ev w2 ⟨rfl, hD, hA⟩
  have hE := hidden (And.intro hD hA)
  clear hD hA kF
  go_wp2_with fail
  refine (kW.out _).mono ?_
  rintro ev w3 ⟨rfl, rfl⟩
  go_wp2
  go_ret
  exact ⟨rfl, hE.out⟩
end
section
variable {fb rs hb : Nat} {E : TE} {w w' : World} {K : Nat -> Nat} {D : Nat -> List Int} {T : Nat -> List Rec} {f u lim : Nat}
structure DpS (fb nb : Nat) (E : TE) (id : Int) (w : World) : Prop where
  t : w.cell? ⟨fb, 2, none⟩ = some (ptr E.tb)
  n : w.cell? ⟨nb, 0, none⟩ = some (.int .i64 id)
theorem DpS.keep {nb : Nat} {id : Int} {bs : List Nat} (h : DpS fb nb E id w) (ha : Apart bs w w') (h1 : fb ∉ bs) (h2 : nb ∉ bs) : DpS fb nb E id w' := ⟨(ha.cell (p := ⟨fb, 2, none⟩) (lt_of_cell (a := ⟨fb, 2, none⟩) h.t) h1).trans h.t, (ha.cell (p := ⟨nb, 0, none⟩) (lt_of_cell (a := ⟨nb, 0, none⟩) h.n) h2).trans h.n⟩
theorem drop_ok (hF : FsAt fb E rs hb w) (hfar : FsAt.Far fb E) (hno : HNo fb hb E w) (h : S8 E K D f u lim w) (ok : E.Ok) {p db : Nat} {L : List Rec} (p1 : 1 <= p) (p2 : p <= E.tn) (hk : K p = 2) (hD : D p = recsL L) (hg : GoodL L) (hdir : DirAt E db p w) {i : Nat} {r : Rec} (hr : L[i]? = some r) (y2 : r.id <= E.tn) (hyk : K r.id ≠ 0) (hyp : r.id ≠ p) (hR : E.R p) (hW : E.W p) (hRy : E.R r.id) (hWy : E.W r.id \/ E.ku = 0) {n : Nat} (hn : blk ((D r.id).length : Int) = (n : Int)) (k : Int) :
    Calls Tryz.prog 63 #[ptr fb, ptr db, .string (mkB r.s), fnV (r.id : Nat) k] w fun e w' => e = .returned .nilIface /\ (∃ f', f' + bkL (dropR L i).length = f + bkL L.length + n /\ S8 E (upd K r.id 0) (upd (upd D p (recsL (dropR L i))) r.id []) f' u lim w') /\ Apart [E.mb] w w' := by
  have y1 : 1 <= r.id := (hg.each r (List.mem_of_getElem? hr)).lo
  have hi64 : i64 ((r.id : Nat) : Int) := by have := ok.tn; unfold i64; omega
  obtain ⟨w1, hw1, hB1, hN1⟩ : ∃ w1, w.alloc (.cells #[.int .i64 (r.id : Nat), .int .i64 k] 89) = w1 /\ Below w.heap.size w w1 /\ FnAt w1 w.heap.size (r.id : Nat) k := ⟨_, rfl, (Below.refl _ _).alloc (Nat.le_refl _) _, fn_new _ _ _⟩
  have hmb : E.mb < w.heap.size := h.lts.2.2.2.2.1
  have kD := hidden (dDropU (h.more hB1) ok p1 p2 hk hD hg (hdir.below hB1) hr hR hW)
  have hF1 := hidden (hF.below hB1)
  have hH1 := hidden (hno.below hB1)
  have hfb : fb ∉ [E.mb] := by have := hfar.1; simpa using this
  have hhb : hb ∉ [E.mb] := by have := hno.ne.2.2.1; simpa using this
  have hnb : w.heap.size ∉ [E.mb] := by simp; omega
  have kFr := hidden (fun (wx : World) (f' : Nat) (hx : S8 E K (upd D p (recsL (dropR L i))) f' u lim wx) => S8.free ok hx y1 y2 hRy hWy hyk (by rw [upd_other _ _ hyp]; exact hn))
  replace hN1 := hidden hN1
  have hb1 := hidden (Apart.of_below (bs := [E.mb]) hB1)
  clear hF hno h ok hdir hg hB1 hR hW hRy hWy hn hyk hfar hD
  generalize hRI : ((r.id : Nat) : Int) = RI at *
  generalize hnbn : w.heap.size = nb at *
  replace hw1 := hidden hw1
  go_enter Tryz.func63, Tryz.ntmps63
  go_upto_region 1 with fail
  rw [hw1.out]
  clear hw1
  go_wp2_with fail
  refine (kD.out).mono ?_
  rintro ev w2 ⟨rfl, ⟨f', hS2, hf2⟩, hA2⟩
  have hA2' : Apart [E.mb] w1 w2 := hA2
  have hF2 := hF1.out.keep hA2' hfb
  have kH := hidden (holds_no hF2 (hH1.out.keep hA2' hhb) RI hi64)
  have hN2 := hN1.out.keep hA2' hnb
  have n0 := hN2.c0
  have ln := hN2.lt
  have hZ := hidden (And.intro hS2 (And.intro hf2 (hb1.out.trans hA2')))
  have hS0 : Hid (DpS fb nb E RI w2.drew) := hidden ((DpS.mk hF2.c2 hN2.c0).keep (Apart.of_below (bs := []) (below_drew1 w2)) (by simp) (by simp))
  clear hS2 hf2 hA2 hA2' kD hF2 hN2 hF1 hH1 hN1
  go_wp2_with fail
  refine (kH.out).mono ?_
  rintro ev w3 ⟨rfl, hw3⟩
  subst w3
  clear kH
  go_upto_region 6 with fail
  have kF := kFr.out w2.drew f' (hZ.out.1.more (below_drew1 w2))
  replace kF := hidden kF
  replace hZ := hidden (And.intro hZ.out.2.1 (hZ.out.2.2.trans (Apart.of_below (below_drew1 w2))))
  clear kFr n0 ln
  refine wp_region_held_drew (S := DpS fb nb E RI) (by kernel_rfl) hS0.out ?_
  intro _
  generalize w2.drew = wd at *
  refine wpAnyH_take (i := 0) (v := ?_) rfl (by kernel_rfl) (by kernel_rfl) (by kernel_rfl) (fun _ _ _ h => h) (Or.inl ⟨by rfl, ?_⟩) hS0.out ?_
  rotate_left
  · intro w hw; clear hw; go_simp; try (with_reducible rfl)
  refine wpAnyH_take (i := 1) (v := ?_) rfl (by kernel_rfl) (by kernel_rfl) (by kernel_rfl) (fun _ _ _ h => h) (Or.inl ⟨by rfl, ?_⟩) hS0.out ?_
  rotate_left
  · intro w hw; clear hw; go_simp; try (with_reducible rfl)
  refine wpAnyH_take (i := 2) (v := ?_) rfl (by kernel_rfl) (by kernel_rfl) (by kernel_rfl) (fun _ _ _ h => h) (Or.inl ⟨by rfl, ?_⟩) hS0.out ?_
  rotate_left
  · intro w hw; clear hw; go_simp; try (with_reducible rfl)
  refine wpAnyH_take (i := 3) (v := ?_) rfl (by kernel_rfl) (by kernel_rfl) (by kernel_rfl) (fun _ _ _ h => h) (Or.inl ⟨by rfl, ?_⟩) hS0.out ?_
  rotate_left
  · intro w hw; have c := (hw).t; have lc := lt_of_cell (a := ⟨fb, 2, none⟩) c; clear hw; go_simp; try (with_reducible rfl)
  refine wpAnyH_ready (rs := [4]) (by kernel_rfl) (by simp) ?_
  refine AllReadyH.cons rfl (fun K hK => ?_) AllReadyH.nil
  go_simp
  refine hK.out _ _ hS0.out (fun _ => ?_)
  clear hK K
  refine wpAnyH_ready (rs := [5]) (by kernel_rfl) (by simp) ?_
  refine AllReadyH.cons rfl (fun K hK => ?_) AllReadyH.nil
  have c := (hS0.out).n; have lc := lt_of_cell (a := ⟨nb, 0, none⟩) c
  go_simp
  refine hK.out _ _ hS0.out (fun _ => ?_)
  clear hK K
  refine wpAnyH_ready (rs := [6]) (by kernel_rfl) (by simp) ?_
  refine AllReadyH.cons rfl (fun K hK => ?_) AllReadyH.nil
  go_simp
  go_wp2_with (go_at_call 112; refine (kF.out).mono ?_; rintro ev w6 ⟨rfl, hS6, hA6⟩)
  refine hK.out _ _ (DpS.keep hS0.out hA6 hfb hnb) (fun hSn1 => ?_)
  have hE := hidden (And.intro hS6 (hZ.out.2.trans hA6))
  clear hS6 hA6 kF
  clear hK K
  refine wpAnyH_ready (rs := [7]) (by kernel_rfl) (by simp) ?_
  refine AllReadyH.cons rfl (fun K hK => ?_) AllReadyH.nil
  go_simp
  refine hK.out _ _ hSn1 (fun _ => ?_)
  clear hK K
  refine wpAnyH_done (by kernel_rfl) ?_ _
  go_wp2
  go_ret
  exact ⟨rfl, ⟨_, by have := hZ.out.1; omega, hE.out.1⟩, hE.out.2⟩
end
structure KBox (b0 b1 b2 b3 fb : Nat) (up : Value) (s : List UInt8) (kind : Nat) (w : World) : Prop where
  c0 : w.cell? ⟨b0, 0, none⟩ = some (ptr fb)
  c1 : w.cell? ⟨b1, 0, none⟩ = some up
  c2 : w.cell? ⟨b2, 0, none⟩ = some (.string (mkB s))
  c3 : w.cell? ⟨b3, 0, none⟩ = some (.int .i64 (kind : Nat))
theorem KBox.below {b0 b1 b2 b3 fb : Nat} {up : Value} {s : List UInt8} {kind : Nat} {w w' : World} (h : KBox b0 b1 b2 b3 fb up s kind w) (hb : Below w.heap.size w w') : KBox b0 b1 b2 b3 fb up s kind w' :=
  have k : ∀ b v, w.cell? ⟨b, 0, none⟩ = some v -> w'.cell? ⟨b, 0, none⟩ = some v := fun b _ hc => (hb.cell (p := ⟨b, 0, none⟩) (lt_of_cell (a := ⟨b, 0, none⟩) hc)).trans hc
  ⟨k _ _ h.c0, k _ _ h.c1, k _ _ h.c2, k _ _ h.c3⟩
section
variable {fb rs hb : Nat} {E : TE} {w w' : World} {K : Nat -> Nat} {D : Nat -> List Int} {T : Nat -> List Rec} {f u lim : Nat}
theorem create1_new {b0 b1 b2 b3 : Nat} {v : Value} {s : List UInt8} {kind : Nat} (hB : KBox b0 b1 b2 b3 fb v s kind w) (hF : FsAt fb E rs hb w) (h : S8 E K D f u lim w) (ok : E.Ok) (hkk : E.kk = E.k) (ht : TreeOk E.tn K D T) (htn : 1 <= E.tn) {l : List (List UInt8)} (hv : TxtsAt w v l) (hll : l.length <= 1000) (hok : ∀ s ∈ l, okB s = true) {p : Nat} (hp : dirT K T l = .ok p) (hs : okB s = true) (hno : lookT (T p) s = none) (hl : (T p).length < 120)
    (hkind : kind = 1 \/ kind = 2) (id : Nat) (h1 : 1 <= id) (h2 : id <= E.tn) (hfree : K id = 0) (hlow : ∀ i, 1 <= i -> i < id -> K i ≠ 0) (hR : E.R id) (hRp : E.R p) (hWp : E.W p) (gn : Nat) (hgn : growb ((32 * (T p).length : Nat) : Int) ((32 * ((T p).length + 1) : Nat) : Int) = (gn : Int)) (hgu : gn <= u) (hmay : mayB (f : Int) (rs : Int) ((gn : Int) + growb 0 ((0 : Nat) : Int)) false = true) :
    Calls Tryz.prog 42 #[ptr b0, ptr b1, ptr b2, ptr b3] w fun e w' => e = .returned .nilIface /\ (∃ f' u', S8 E (upd K id kind) (upd D p (recsL (T p ++ [⟨s, id⟩]))) f' u' lim w' /\ f' + gn = f /\ u <= u' + gn) /\ Apart [E.mb] w w' := by
  have kDa := hidden (dirAt_calls hF h ok ht htn hv hll hok)
  have kCh := hidden (fun (wx : World) (db : Nat) (p1 : 1 <= p) (p2 : p <= E.tn) (hk : K p = 2) (hx : Below w.heap.size w wx) (hd : DirAt E db p wx) => child_none (fb := fb) (h.more hx) ok p1 p2 hk (ht.recs p p1 p2 hk).1 (ht.recs p p1 p2 hk).2 hd s hs (lookT_none hno))
  have kAd := hidden (fun (wx : World) (db : Nat) (p1 : 1 <= p) (p2 : p <= E.tn) (hk : K p = 2) (hx : Below w.heap.size w wx) (hd : DirAt E db p wx) => add_ok (hF.below hx) (h.more hx) ok hkk p1 p2 hk (ht.recs p p1 p2 hk).1 (ht.recs p p1 p2 hk).2 hd s hs (lookT_none hno) hl kind hkind id h1 h2 hfree hlow hR hRp hWp 0 false gn hgn hgu hmay)
  have c0 := hB.c0
  have c1 := hB.c1
  have hBk := hidden hB
  obtain ⟨a, cap, rfl, -⟩ := hv
  replace hp := hidden hp
  clear hF h ok ht hok hgn hmay hfree hlow hgu hno hB
  generalize l.length = LL at *
  go_enter Tryz.func42, Tryz.ntmps42
  go_wp2_with fail
  refine (kDa.out).mono ?_
  rintro ev w1 ⟨(⟨q, db, hq, rfl, hd1, hdb, q1, q2, q3⟩ | ⟨m, bk, nm, hq, -⟩), hB1⟩
  rotate_left
  · rw [hp.out] at hq; cases hq
  obtain rfl : p = q := by rw [hp.out] at hq; exact Except.ok.inj hq
  have kC1 := hidden (kCh.out w1 db q1 q2 q3 hB1 hd1)
  have hA1 := hidden (And.intro hB1 hd1)
  clear c0 c1
  have d0 := (hBk.out.below hB1).c0
  have d2 := (hBk.out.below hB1).c2
  clear kDa kCh hB1 hd1 hq
  go_wp2_with fail
  refine (kC1.out).mono ?_
  rintro ev w3 ⟨bk, rfl, hc, hB3⟩
  have kI := is_chain 11 11 w3 _ _ hc
  have hb3 : Below w.heap.size w w3 := hA1.out.1.trans (hB3.mono hA1.out.1.size)
  have hd3 : DirAt E db p w3 := hA1.out.2.below hB3
  have kA3 := hidden (kAd.out w3 db q1 q2 q3 hb3 hd3)
  obtain ⟨e0, e1, e2, e3⟩ := hBk.out.below hb3
  replace kI := hidden kI
  replace hb3 := hidden hb3
  clear hc hB3 kC1 kAd hd3 hA1 d0 d2
  go_wp2_with fail
  refine (kI.out).mono ?_
  rintro ev w4 ⟨rfl, hw4⟩
  subst w4
  dsimp only [Int.reduceBEq]
  go_wp2_with fail
  refine (kA3.out).mono ?_
  rintro ev w5 ⟨rfl, hS5, hA5⟩
  have hE := hidden (And.intro hS5 ((Apart.of_below (bs := [E.mb]) hb3.out).trans hA5))
  clear hS5 hA5 kA3 e0 e1 e2 e3
  go_wp2
  go_ret
  exact ⟨rfl, hE.out⟩
end
def sRemove : ByteArray := ⟨#[114, 101, 109, 111, 118, 101]⟩
theorem ent_create1 : ∀ (args : Array Value) (w : World), (callFunc 42 args).run Tryz.prog w = .ok (.enter 42 args) w := enters_of Tryz.func42 (by kernel_rfl) rfl
section
variable {fb rs hb : Nat} {E : TE} {w w' : World} {K : Nat -> Nat} {D : Nat -> List Int} {T : Nat -> List Rec} {f u lim : Nat}
theorem boxes_two (w : World) (p q : Value) (tp tq : TypeId) : ∃ w2, (w.alloc (Obj.cells #[p] tp)).alloc (Obj.cells #[q] tq) = w2 /\ Below w.heap.size w w2 /\ w2.cell? ⟨w.heap.size, 0, none⟩ = some p /\ w2.cell? ⟨w.heap.size + 1, 0, none⟩ = some q := by
  generalize e1 : w.alloc (Obj.cells #[p] tp) = W1
  have a1 : W1.cell? ⟨w.heap.size, 0, none⟩ = some p := by rw [<- e1]; simp
  have s1 : W1.heap.size = w.heap.size + 1 := by rw [<- e1]; simp
  have b1 : Below w.heap.size w W1 := by rw [<- e1]; exact (Below.refl _ _).alloc (Nat.le_refl _) _
  have hBx : Below W1.heap.size W1 (W1.alloc (Obj.cells #[q] tq)) := (Below.refl _ _).alloc (Nat.le_refl _) _
  exact ⟨_, rfl, b1.trans (hBx.mono b1.size), (hBx.cell (p := ⟨w.heap.size, 0, none⟩) (lt_of_cell a1)).trans a1, by rw [<- s1]; simp⟩
theorem create_via {path s : List UInt8} {l : List (List UInt8)} {kind : Nat} {Q : Value -> World -> Prop} (hlen : path.length <= 2000) (hp : splitB path = some (l ++ [s]))
    (kS : ∀ (wx : World) (b0 b1 b2 b3 : Nat) (up : Value), Below w.heap.size w wx -> KBox b0 b1 b2 b3 fb up s kind wx -> TxtsAt wx up l -> Calls Tryz.prog 41 #[ptr fb, .func (.func 42) #[] #[ptr b0, ptr b1, ptr b2, ptr b3]] wx fun e w' => ∃ ev, e = .returned ev /\ Q ev w') :
    Calls Tryz.prog 26 #[ptr fb, .string (mkB path), .int .i64 (kind : Nat)] w fun e w' => ∃ ev, e = .returned ev /\ Q ev w' := by
  have hmf : ∀ (fn : Fn) (first cap : Array Value) (w : World), (Instr.makeFunc fn first cap).run Tryz.prog w = .ok (.func fn first cap) w := fun _ _ _ _ => rfl
  obtain ⟨w3, hw3, hB3, g0, g3⟩ := boxes_two w (ptr fb) (.int .i64 (kind : Nat)) 27 3
  have kA := hidden (apart_ok path hlen hp 12 w3)
  replace kS := hidden kS
  replace hB3 := hidden hB3
  replace hw3 := hidden hw3
  go_enter Tryz.func26, Tryz.ntmps26
  go_upto_region 1 with fail
  rw [hw3.out]
  clear hw3
  go_wp2_with fail
  refine (kA.out).mono ?_
  rintro ev w4 ⟨up, rfl, hT, hB4⟩
  have hT4 := hT
  obtain ⟨ua, uc, rfl, -⟩ := hT
  have k0 := (hB4.cell (p := ⟨w.heap.size, 0, none⟩) (lt_of_cell (a := ⟨w.heap.size, 0, none⟩) g0)).trans g0
  have k3 := (hB4.cell (p := ⟨w.heap.size + 1, 0, none⟩) (lt_of_cell (a := ⟨w.heap.size + 1, 0, none⟩) g3)).trans g3
  obtain ⟨w6, hw6, hB6, n1, n2⟩ := boxes_two w4 (.slice ua l.length uc) (.string (mkB s)) 47 9
  have m0 := (hB6.cell (p := ⟨w.heap.size, 0, none⟩) (lt_of_cell (a := ⟨w.heap.size, 0, none⟩) k0)).trans k0
  have m3 := (hB6.cell (p := ⟨w.heap.size + 1, 0, none⟩) (lt_of_cell (a := ⟨w.heap.size + 1, 0, none⟩) k3)).trans k3
  have hb6 : Below w.heap.size w w6 := hB3.out.trans ((hB4.trans (hB6.mono hB4.size)).mono hB3.out.size)
  have kS6 := hidden (kS.out w6 w.heap.size w4.heap.size (w4.heap.size + 1) (w.heap.size + 1) _ hb6 ⟨m0, n1, n2, m3⟩ (hT4.below hB6))
  replace hw6 := hidden hw6
  clear hT4 hB4 hB6 hb6 kS kA g0 g3 k0 k3 hB3
  generalize l.length = LL at *
  go_upto_region 2 with fail
  rw [hw6.out]
  clear hw6
  go_wp2_with fail
  refine (kS6.out).mono ?_
  rintro ev w7 ⟨er, rfl, hQ⟩
  replace hQ := hidden hQ
  go_wp2
  go_ret
  exact ⟨er, rfl, hQ.out⟩
end
section
variable {fb rs hb : Nat} {E : TE} {w w' : World} {K : Nat -> Nat} {D : Nat -> List Int} {T : Nat -> List Rec} {f u lim : Nat}
theorem TreeOk.addK {tn p id kind : Nat} {s : List UInt8} (ht : TreeOk tn K D T) (p1 : 1 <= p) (p2 : p <= tn) (hk : K p = 2) (h2 : id <= tn) (hid : K id = 0) (hkind : kind = 1 \/ kind = 2) (hD0 : D id = []) (hT0 : kind = 2 -> T id = []) (hs : okB s = true) (h1 : 1 <= id) (htn : tn <= 200) (hno : lookT (T p) s = none) :
    TreeOk tn (upd K id kind) (upd D p (recsL (T p ++ [⟨s, id⟩]))) (upd T p (T p ++ [⟨s, id⟩])) := by
  have hpi : p ≠ id := by rintro rfl; omega
  have h1i : (1 : Nat) ≠ id := by rintro rfl; have := ht.root; omega
  obtain ⟨hD, hG⟩ := ht.recs p p1 p2 hk
  refine ⟨by rw [upd_other _ _ h1i]; exact ht.root, fun q q1 q2 hq => ?_, fun q q1 q2 hq r hr => ?_⟩
  · by_cases hqi : q = id
    · subst hqi
      rw [upd_same] at hq
      rw [upd_other _ _ (Ne.symm hpi), upd_other _ _ (Ne.symm hpi), hD0, hT0 hq]
      exact ⟨rfl, ⟨fun r hr => (by cases hr), List.nodup_nil⟩⟩
    · rw [upd_other _ _ hqi] at hq
      by_cases hqp : q = p
      · subst hqp
        rw [upd_same, upd_same]
        exact ⟨rfl, hG.put ⟨hs, h1, by show id < _; omega⟩ (lookT_none hno)⟩
      · rw [upd_other _ _ hqp, upd_other _ _ hqp]
        exact ht.recs q q1 q2 hq
  · have old : ∀ x : Rec, x.id <= tn -> K x.id ≠ 0 -> x.id <= tn /\ upd K id kind x.id ≠ 0 := fun x h h' => ⟨h, by rw [upd_other _ _ (by rintro e; rw [e] at h'; exact h' hid)]; exact h'⟩
    by_cases hqi : q = id
    · subst hqi
      rw [upd_same] at hq
      rw [upd_other _ _ (Ne.symm hpi), hT0 hq] at hr
      cases hr
    · rw [upd_other _ _ hqi] at hq
      by_cases hqp : q = p
      · subst hqp
        rw [upd_same] at hr
        rcases List.mem_append.1 hr with hr | hr
        · have := ht.used q q1 q2 hq r hr
          exact old r this.1 this.2
        · obtain rfl := List.mem_singleton.1 hr
          exact ⟨h2, by show upd K id kind id ≠ 0; rw [upd_same]; omega⟩
      · rw [upd_other _ _ hqp] at hr
        have := ht.used q q1 q2 hq r hr
        exact old r this.1 this.2
theorem create_new (h : Fsz fb rs hb E K D T f lim w) {path s : List UInt8} {l : List (List UInt8)} {kind : Nat} (hlen : path.length <= 2000) (hp : splitB path = some (l ++ [s])) {p : Nat} (hd : dirT K T l = .ok p) (hno : lookT (T p) s = none) (hl : (T p).length < 120) (hkind : kind = 1 \/ kind = 2) {id : Nat} (h1 : 1 <= id) (h2 : id <= E.tn) (hfree : K id = 0) (hT0 : kind = 2 -> T id = []) (hlow : ∀ i, 1 <= i -> i < id -> K i ≠ 0) {gn : Nat} (hgn : growb ((32 * (T p).length : Nat) : Int) ((32 * ((T p).length + 1) : Nat) : Int) = (gn : Int)) (hmay : mayB (f : Int) (rs : Int) ((gn : Int) + growb 0 ((0 : Nat) : Int)) false = true) (hlim : lim <= 300000000) :
    Calls Tryz.prog 26 #[ptr fb, .string (mkB path), .int .i64 (kind : Nat)] w fun e w' => e = .returned .nilIface /\ (∃ f', f' + gn = f /\ Fsz fb rs hb E.rest (upd K id kind) (upd D p (recsL (T p ++ [⟨s, id⟩]))) (upd T p (T p ++ [⟨s, id⟩])) f' (lim + 1000) w') /\ E.Turns fb w w' := by
  have hpl := h.pl
  have htn1 := hpl.tn1
  obtain ⟨p1, p2, hk⟩ := dirT_in h.tree htn1 hd
  obtain ⟨hDp, hGp⟩ := h.tree.recs p p1 p2 hk
  have hD0 : D id = [] := h.s.to.noBytes h1 h2 hfree
  have hpi : p ≠ id := by rintro rfl; omega
  have hmp := may_all (split_may hp)
  have hl6 : l.length <= 6 := by have := hmp.1; rw [List.length_append] at this; omega
  have hlok : ∀ x ∈ l, okB x = true := fun x hx => hmp.2 x (List.mem_append.2 (Or.inl hx))
  have hsok : okB s = true := hmp.2 s (by simp)
  have e0z : growb 0 ((0 : Nat) : Int) = 0 := by simp [growb, blk]
  have hc : gn <= f := by
    rw [e0z] at hmay
    unfold mayB at hmay
    simp only [Bool.or_eq_true, Bool.and_eq_true, decide_eq_true_eq] at hmay
    omega
  have hrl : (D p).length = 32 * (T p).length := by rw [hDp, recsL_len hGp.each]
  have hsum : sumL D [p, id] = bkL (T p).length := by
    show (blk ((D p).length : Int)).toNat + ((blk ((D id).length : Int)).toNat + 0) = _
    rw [hrl, hD0]
    show bkL (T p).length + _ = _
    simp [blk]
  have hbound : bkL (T p).length + gn <= 31 := by
    have e0 := bkL_eq (T p).length
    have e1 := bkL_eq ((T p).length + 1)
    have e2 := bkL_le (n := (T p).length + 1) (by omega)
    have hup : blk ((32 * (T p).length : Nat) : Int) <= blk ((32 * ((T p).length + 1) : Nat) : Int) := blk_upD (by omega) (by omega) (by omega)
    unfold growb at hgn
    omega
  obtain ⟨A, U, ku, ok', -, hS'⟩ := h.s.re hpl [p, id] [p, id] (fun x hx => by simp at hx; rcases hx with rfl | rfl <;> omega) (fun x hx => by simp at hx; rcases hx with rfl | rfl <;> omega) gn hc (by rw [hsum]; show 2 + 2 + _ + _ <= 87; omega)
  have hfar := h.far
  have hkk : E.kk = E.k := hpl.kk.symm
  refine (create_via (Q := fun ev w' => ev = .nilIface /\ (∃ f', f' + gn = f /\ Fsz fb rs hb E.rest (upd K id kind) (upd D p (recsL (T p ++ [⟨s, id⟩]))) (upd T p (T p ++ [⟨s, id⟩])) f' (lim + 1000) w') /\ E.Turns fb w w') hlen hp (fun wx b0 b1 b2 b3 up hx hbx hTx => ?_)).mono (fun e w' ⟨ev, h1, h2, h3⟩ => ⟨by rw [h1, h2], h3⟩)
  have hF' : FsAt fb (E.at A U (· ∈ [p, id]) (· ∈ [p, id]) ku) rs hb wx := (h.at_.below hx).at _ _ _ _ _
  have hSx := (hS'.more hx).to
  have kC := create1_new hbx hF' hSx ok' hkk h.tree htn1 hTx (by omega) hlok hd hsok hno hl hkind id h1 h2 hfree hlow (show id ∈ [p, id] by simp) (show p ∈ [p, id] by simp) (show p ∈ [p, id] by simp) gn hgn (Nat.le_refl _) hmay
  refine (step_ok (P := fun w1 => Apart [E.mb] wx w1) (K := upd K id kind) (D := upd D p (recsL (T p ++ [⟨s, id⟩]))) (f := f - gn) (u := 0) (lim := lim) ent_create1 hF' hfar ok' hpl.far hpl.live (by show 1 <= E.most /\ E.most <= 200; rw [hpl.most]; omega) hlim (kC.mono ?_)).mono ?_
  · rintro e w1 ⟨rfl, ⟨f1, u1, r1, r2, r3⟩, hA⟩
    have hf2 : f1 = f - gn := by omega
    rw [hf2] at r1
    exact ⟨rfl, hA, hF'.keep hA (fun hm => hfar.1 (List.mem_singleton.1 hm)), r1.low (Nat.zero_le _)⟩
  · rintro e w2 ⟨rfl, w1, hA1, hF2, hS2, hA2⟩
    refine ⟨_, rfl, rfl, ⟨f - gn, by omega, ⟨⟨hF2.c0, hF2.c1, hF2.c2, hF2.c3, hF2.c4, hF2.c5, hF2.c6, hF2.c7, hF2.f7⟩, hS2.rest, hpl.at _ _ _ _ _, hfar, h.tree.addK p1 p2 hk h2 hfree hkind hD0 hT0 hsok h1 hpl.tn hno⟩⟩, ?_⟩
    exact turns_of hx hA1 hA2
end
def sMkdir : ByteArray := ⟨#[109, 107, 100, 105, 114]⟩
theorem fMkdir_ok {fb : Nat} {w : World} {path : List UInt8} {Q : World -> Prop} (k : Calls Tryz.prog 26 #[ptr fb, .string (mkB path), .int .i64 ((2 : Nat) : Int)] w fun e w' => e = .returned .nilIface /\ Q w') :
    Calls Tryz.prog 6 #[ptr fb, .string (mkB path)] w fun e w' => e = .returned .nilIface /\ Q w' := by
  replace k := hidden k
  have kW := hidden (fun (wx : World) => wrap_nil sMkdir (mkB path) wx)
  unfold sMkdir at kW
  go_enter Tryz.func6, Tryz.ntmps6
  go_wp2_with fail
  refine (k.out).mono ?_
  rintro ev w1 ⟨rfl, hQ⟩
  replace hQ := hidden hQ
  go_wp2_with fail
  refine (kW.out _).mono ?_
  rintro ev w2 ⟨rfl, hw2⟩
  subst w2
  go_wp2
  go_ret
  exact ⟨rfl, hQ.out⟩
structure MBox (b0 b1 b2 b3 fb : Nat) (up : Value) (s : List UInt8) (w : World) : Prop where
  c0 : w.cell? ⟨b0, 0, none⟩ = some (ptr fb)
  c1 : w.cell? ⟨b1, 0, none⟩ = some up
  c2 : w.cell? ⟨b2, 0, none⟩ = some (.string (mkB s))
  n : FnAt w b3 0 0
section
variable {fb rs hb : Nat} {E : TE} {w w' : World} {K : Nat -> Nat} {D : Nat -> List Int} {T : Nat -> List Rec} {f u lim : Nat}
theorem empty_file (x : Int) :
    Calls Tryz.prog 62 #[ptr fb, fnV x 1] w fun e w' => e = .returned .nilIface /\ Below w.heap.size w w' := by
  have hB : Below w.heap.size w (w.alloc (.cells #[.int .i64 x, .int .i64 1] 89)) := (Below.refl _ _).alloc (Nat.le_refl _) _
  replace hB := hidden hB
  go_enter Tryz.func62, Tryz.ntmps62
  go_wp2
  go_ret
  exact ⟨rfl, hB.out⟩
theorem MBox.below {b0 b1 b2 b3 : Nat} {up : Value} {s : List UInt8} (h : MBox b0 b1 b2 b3 fb up s w) (hb : Below w.heap.size w w') : MBox b0 b1 b2 b3 fb up s w' :=
  have k : ∀ b v, w.cell? ⟨b, 0, none⟩ = some v -> w'.cell? ⟨b, 0, none⟩ = some v := fun b _ hc => (hb.cell (p := ⟨b, 0, none⟩) (lt_of_cell (a := ⟨b, 0, none⟩) hc)).trans hc
  ⟨k _ _ h.c0, k _ _ h.c1, k _ _ h.c2, h.n.below hb⟩
theorem remove1_file {wo : World} {b0 b1 b2 b3 : Nat} {v : Value} {s : List UInt8} (hB : MBox b0 b1 b2 b3 fb v s w) (hF : FsAt fb E rs hb w) (hfar : FsAt.Far fb E) (hno : HNo fb hb E w) (h : S8 E K D f u lim w) (ok : E.Ok) (ht : TreeOk E.tn K D T) (htn : 1 <= E.tn) {l : List (List UInt8)} (hv : TxtsAt w v l) (hll : l.length <= 1000) (hok : ∀ s ∈ l, okB s = true) {p i : Nat} {r : Rec} (hp : dirT K T l = .ok p) (hi : (T p)[i]? = some r) (hrs : r.s = s) (hkr : K r.id = 1) (hR : E.R p) (hW : E.W p) (hRy : E.R r.id) (hWy : E.W r.id \/ E.ku = 0) {n : Nat} (hn : blk ((D r.id).length : Int) = (n : Int))
    (hx : Below wo.heap.size wo w) (hah : E.Ahead wo.heap.size) (hfbB : fb < wo.heap.size) (hhbB : hb < wo.heap.size) (hb3 : wo.heap.size <= b3) :
    Calls Tryz.prog 61 #[ptr b0, ptr b1, ptr b2, ptr b3] w fun e w' => e = .returned .nilIface /\ FnAt w' b3 (r.id : Nat) 1 /\ w'.cell? ⟨b0, 0, none⟩ = some (ptr fb) /\ (∃ f', f' + bkL (dropR (T p) i).length = f + bkL (T p).length + n /\ S8 E (upd K r.id 0) (upd (upd D p (recsL (dropR (T p) i))) r.id []) f' u lim w') /\ FsAt fb E rs hb w' /\ HNo fb hb E w' /\ Apart [E.mb] wo w' := by
  obtain ⟨p1, p2, hkp⟩ := dirT_in ht htn hp
  obtain ⟨hD, hG⟩ := ht.recs p p1 p2 hkp
  have hrm := List.mem_of_getElem? hi
  obtain ⟨hrt, hrk⟩ := ht.used p p1 p2 hkp r hrm
  have hyp : r.id ≠ p := by intro e; rw [e, hkp] at hkr; cases hkr
  subst hrs
  have hbs := hB.n.lt
  have h03 : b0 ≠ b3 := fun e => by have c := hB.c0; rw [e, hB.n.c0] at c; cases c
  have h23 : b2 ≠ b3 := fun e => by have c := hB.c2; rw [e, hB.n.c0] at c; cases c
  have hmb3 : b3 ≠ E.mb := by unfold TE.Ahead at hah; omega
  have hmb0 : b0 ≠ E.mb := fun e => by have c := hB.c0; rw [e, h.mapNo 0] at c; cases c
  have hfm : fb ≠ E.mb := hfar.1
  have hhm : hb ≠ E.mb := hno.ne.2.2.1
  have kDa := hidden (dirAt_calls hF h ok ht htn hv hll hok)
  have kCh : ∀ (wx : World) (db : Nat), Below w.heap.size w wx -> DirAt E db p wx -> Calls Tryz.prog 44 #[ptr fb, ptr db, .string (mkB r.s)] wx fun e w' => e = .returned (.tuple #[fnV (r.id : Nat) 1, .nilIface]) /\ Below wx.heap.size wx w' := fun wx db hx hd => by
    have k := child_at (hF.below hx) (h.more hx) ok p1 p2 hkp hD hG hd hi hrt hrk
    rw [hkr] at k
    exact k
  replace kCh := hidden kCh
  have kE := hidden (fun (wx : World) => empty_file (fb := fb) (w := wx) ((r.id : Nat) : Int))
  have kDr := hidden (fun (wx : World) (db : Nat) (hFx : FsAt fb E rs hb wx) (hnx : HNo fb hb E wx) (hSx : S8 E K D f u lim wx) (hd : DirAt E db p wx) => drop_ok hFx hfar hnx hSx ok p1 p2 hkp hD hG hd hi hrt (by rw [hkr]; decide) hyp hR hW hRy hWy hn 1)
  have hKeep := hidden (fun (w3 w4 : World) (hx3 : Below w.heap.size w w3) (hA : Apart [b3] w3 w4) => show FsAt fb E rs hb w4 /\ HNo fb hb E w4 /\ S8 E K D f u lim w4 from ⟨(hF.below hx3).keep hA (by simp; omega), (hno.below hx3).keep hA (by simp; omega), (h.more hx3).over hah (hA.below (by simpa using hb3) (Nat.le_trans hx.size hx3.size))⟩)
  have hBk := hidden hB
  have hxk := hidden hx
  have c0 := hB.c0
  have c1 := hB.c1
  obtain ⟨a, cap, rfl, -⟩ := hv
  replace hp := hidden hp
  clear hF h ok ht hok hB hfar hno hx hah hD hG hi hrm hrk hR hW hRy hWy hn
  generalize l.length = LL at *
  generalize hRI : ((r.id : Nat) : Int) = RI at *
  go_enter Tryz.func61, Tryz.ntmps61
  go_wp2_with fail
  refine (kDa.out).mono ?_
  rintro ev w1 ⟨(⟨q, db, hq, rfl, hd1, hdb, q1, q2, q3⟩ | ⟨m, bk, nm, hq, -⟩), hB1⟩
  rotate_left
  · rw [hp.out] at hq; cases hq
  obtain rfl : p = q := by rw [hp.out] at hq; exact Except.ok.inj hq
  have kC1 := hidden (kCh.out w1 db hB1 hd1)
  clear c0 c1
  have d0 := (hBk.out.below hB1).c0
  have d2 := (hBk.out.below hB1).c2
  have hdb3 : db ≠ b3 := by omega
  replace hd1 := hidden hd1
  replace hB1 := hidden hB1
  clear kDa kCh hq
  go_wp2_with fail
  refine (kC1.out).mono ?_
  rintro ev w3 ⟨rfl, hB3⟩
  have hB13 : Below w.heap.size w w3 := hB1.out.trans (hB3.mono hB1.out.size)
  have hM3 := hBk.out.below hB13
  have hN3 := hM3.n
  have n0 := hN3.c0
  have n1 := hN3.c1
  have g0 := hN3.f0
  have g1 := hN3.f1
  have l3 := hN3.lt
  obtain ⟨w4, hw4, hA4, hN4⟩ : ∃ w4, (w3.setCell ⟨b3, 0, none⟩ (.int .i64 RI)).setCell ⟨b3, 1, none⟩ (.int .i64 1) = w4 /\ Apart [b3] w3 w4 /\ FnAt w4 b3 RI 1 := ⟨_, rfl, fn_apart _ _ _ _, fn_stored hN3⟩
  have hK4 := hKeep.out w3 w4 hB13 hA4
  have hd4 := (hd1.out.below hB3).keep hA4 (by simpa using hdb3)
  have m0 := (hA4.cell (p := ⟨b0, 0, none⟩) (lt_of_cell (a := ⟨b0, 0, none⟩) hM3.c0) (by simpa using h03)).trans hM3.c0
  have m2 := (hA4.cell (p := ⟨b2, 0, none⟩) (lt_of_cell (a := ⟨b2, 0, none⟩) hM3.c2) (by simpa using h23)).trans hM3.c2
  have hAo : Apart [E.mb] wo w4 := (Apart.of_below (bs := [E.mb]) (hxk.out.trans (hB13.mono hxk.out.size))).trans' hA4 (by simpa using hb3)
  have k0 := hN4.c0
  have k1 := hN4.c1
  have l4 := hN4.lt
  replace hw4 := hidden hw4
  have kE4 := hidden (kE.out w4)
  have hZ := hidden (And.intro hK4 (And.intro hd4 (And.intro hAo (And.intro hN4 (And.intro m0 m2)))))
  clear hB3 hB13 hM3 hN3 hA4 hN4 hK4 hd4 hAo kC1 d0 d2 hd1 hB1 hBk hKeep kE hxk
  go_upto_region 7 with fail
  rw [hw4.out]
  clear hw4 n0 n1 g0 g1 l3
  go_wp2_with fail
  refine (kE4.out).mono ?_
  rintro ev w5 ⟨rfl, hB5⟩
  obtain ⟨⟨hF4, hH4, hS4⟩, hd4, hAo, hN4, m0', m2'⟩ := hZ.out
  have hN5 := hN4.below hB5
  have o0 := hN5.c0
  have o1 := hN5.c1
  have l5 := hN5.lt
  have r0 := (hB5.cell (p := ⟨b0, 0, none⟩) (lt_of_cell (a := ⟨b0, 0, none⟩) m0')).trans m0'
  have r2 := (hB5.cell (p := ⟨b2, 0, none⟩) (lt_of_cell (a := ⟨b2, 0, none⟩) m2')).trans m2'
  have kD5 := hidden (kDr.out w5 db (hF4.below hB5) (hH4.below hB5) (hS4.more hB5) (hd4.below hB5))
  have hY := hidden (And.intro (hF4.below hB5) (And.intro (hH4.below hB5) (And.intro (hAo.trans (Apart.of_below (bs := [E.mb]) hB5)) (And.intro hN5 r0))))
  clear hF4 hH4 hS4 hd4 hAo hN4 m0' m2' hN5 hB5 hZ kDr kE4 m0 m2 k0 k1 l4
  go_wp2_with fail
  refine (kD5.out).mono ?_
  rintro ev w6 ⟨rfl, ⟨f', g1', g2'⟩, hA6⟩
  obtain ⟨hF5, hH5, hA5, hN5, r0'⟩ := hY.out
  have hA6' : Apart [E.mb] w5 w6 := hA6
  have hE := hidden (show FnAt w6 b3 RI 1 /\ w6.cell? ⟨b0, 0, none⟩ = some (ptr fb) /\ (∃ f', f' + bkL (dropR (T p) i).length = f + bkL (T p).length + n /\ S8 E (upd K r.id 0) (upd (upd D p (recsL (dropR (T p) i))) r.id []) f' u lim w6) /\ FsAt fb E rs hb w6 /\ HNo fb hb E w6 /\ Apart [E.mb] wo w6 from
    ⟨hN5.keep hA6' (by simpa using hmb3), (hA6'.cell (p := ⟨b0, 0, none⟩) (lt_of_cell (a := ⟨b0, 0, none⟩) r0') (by simpa using hmb0)).trans r0', ⟨f', g1', g2'⟩, hF5.keep hA6' (by simpa using hfm), hH5.keep hA6' (by simpa using hhm), hA5.trans hA6'⟩)
  clear hF5 hH5 hA5 hN5 r0' hA6 hA6' g2' hY kD5 o0 o1 l5 r0 r2
  go_wp2
  go_ret
  exact ⟨rfl, hE.out⟩
end
theorem ent_remove1 : ∀ (args : Array Value) (w : World), (callFunc 61 args).run Tryz.prog w = .ok (.enter 61 args) w := enters_of Tryz.func61 (by kernel_rfl) rfl
section
variable {fb rs hb : Nat} {E : TE} {w w' : World} {K : Nat -> Nat} {D : Nat -> List Int} {T : Nat -> List Rec} {f u lim : Nat}
theorem boxM (w : World) (fb : Nat) : ∃ w2, w.alloc (Obj.cells #[ptr fb] 27) = w2 /\ Below w.heap.size w w2 /\ w2.cell? ⟨w.heap.size, 0, none⟩ = some (ptr fb) := ⟨_, rfl, (Below.refl _ _).alloc (Nat.le_refl _) _, by simp⟩
theorem remove_via {path s : List UInt8} {l : List (List UInt8)} (hlen : path.length <= 2000) (hp : splitB path = some (l ++ [s])) {Q : World -> Prop} (hQ : ∀ w1 w2, Q w1 -> Below w1.heap.size w1 w2 -> Q w2)
    (kS : ∀ (wx : World) (b0 b1 b2 b3 : Nat) (up : Value), Below w.heap.size w wx -> w.heap.size <= b0 -> w.heap.size <= b3 -> MBox b0 b1 b2 b3 fb up s wx -> TxtsAt wx up l -> Calls Tryz.prog 41 #[ptr fb, .func (.func 61) #[] #[ptr b0, ptr b1, ptr b2, ptr b3]] wx fun e w' => e = .returned .nilIface /\ w'.cell? ⟨b0, 0, none⟩ = some (ptr fb) /\ ∃ x k, i64 x /\ FnAt w' b3 x k /\ FsAt fb E rs hb w' /\ HNo fb hb E w' /\ Q w') :
    Calls Tryz.prog 32 #[ptr fb, .string (mkB path)] w fun e w' => e = .returned .nilIface /\ Q w' := by
  have hmf : ∀ (fn : Fn) (first cap : Array Value) (w : World), (Instr.makeFunc fn first cap).run Tryz.prog w = .ok (.func fn first cap) w := fun _ _ _ _ => rfl
  obtain ⟨w3, hw3, hB3, g0⟩ := boxM w fb
  have kA := hidden (apart_ok path hlen hp 1 w3)
  replace kS := hidden kS
  replace hQ := hidden hQ
  replace hB3 := hidden hB3
  replace hw3 := hidden hw3
  go_enter Tryz.func32, Tryz.ntmps32
  go_upto_region 1 with fail
  rw [hw3.out]
  clear hw3
  go_wp2_with fail
  refine (kA.out).mono ?_
  rintro ev w4 ⟨up, rfl, hT, hB4⟩
  have hT4 := hT
  obtain ⟨ua, uc, rfl, -⟩ := hT
  have k0 := (hB4.cell (p := ⟨w.heap.size, 0, none⟩) (lt_of_cell (a := ⟨w.heap.size, 0, none⟩) g0)).trans g0
  obtain ⟨w6, hw6, hB6, n1, n2⟩ := boxes_two w4 (.slice ua l.length uc) (.string (mkB s)) 47 9
  have m0 := (hB6.cell (p := ⟨w.heap.size, 0, none⟩) (lt_of_cell (a := ⟨w.heap.size, 0, none⟩) k0)).trans k0
  have hb6 : Below w.heap.size w w6 := hB3.out.trans ((hB4.trans (hB6.mono hB4.size)).mono hB3.out.size)
  obtain ⟨w7, hw7, hB7, hN7⟩ : ∃ w7, w6.alloc (Obj.cells #[.int .i64 0, .int .i64 0] 89) = w7 /\ Below w6.heap.size w6 w7 /\ FnAt w7 w6.heap.size 0 0 := ⟨_, rfl, (Below.refl _ _).alloc (Nat.le_refl _) _, fn_new _ _ _⟩
  have o0 := (hB7.cell (p := ⟨w.heap.size, 0, none⟩) (lt_of_cell (a := ⟨w.heap.size, 0, none⟩) m0)).trans m0
  have o1 := (hB7.cell (p := ⟨w4.heap.size, 0, none⟩) (lt_of_cell (a := ⟨w4.heap.size, 0, none⟩) n1)).trans n1
  have o2 := (hB7.cell (p := ⟨w4.heap.size + 1, 0, none⟩) (lt_of_cell (a := ⟨w4.heap.size + 1, 0, none⟩) n2)).trans n2
  have hl0 := lt_of_cell (a := ⟨w.heap.size, 0, none⟩) o0
  have kS7 := hidden (kS.out w7 w.heap.size w4.heap.size (w4.heap.size + 1) w6.heap.size _ (hb6.trans (hB7.mono hb6.size)) (Nat.le_refl _) hb6.size ⟨o0, o1, o2, hN7⟩ ((hT4.below hB6).below hB7))
  replace hw6 := hidden hw6
  replace hw7 := hidden hw7
  clear hT4 hB4 hB6 hb6 hB7 hN7 kS kA g0 k0 m0 o1 o2 n1 n2 hB3
  generalize l.length = LL at *
  generalize hb1e : w4.heap.size = b1 at *
  generalize hb3e : w6.heap.size = b3 at *
  go_upto_region 4 with fail
  rw [hw6.out]
  go_upto_region 5 with fail
  rw [hw7.out]
  clear hw6 hw7
  go_wp2_with fail
  refine (kS7.out).mono ?_
  rintro ev w8 ⟨rfl, q0, x, k, hx, hN8, hF8, hH8, hQ8⟩
  have kL := hidden (lose_no hF8 hH8 x k hx)
  have x0 := hN8.c0
  have x1 := hN8.c1
  have l5 := hN8.lt
  have l6 := lt_of_cell (a := ⟨w.heap.size, 0, none⟩) q0
  replace hQ8 := hidden hQ8
  clear hN8 hF8 hH8 kS7 hx o0 hl0
  go_wp2_with fail
  refine (kL.out).mono ?_
  rintro ev w9 ⟨rfl, hB9⟩
  have hE := hidden (hQ.out _ _ hQ8.out hB9)
  clear hB9 kL
  go_wp2
  go_ret
  exact ⟨rfl, hE.out⟩
theorem dropR_mem {L : List Rec} {i : Nat} (hi : i < L.length) : ∀ x ∈ dropR L i, x ∈ L := by
  intro x hx
  have hlast : L[L.length - 1]? = some (L[L.length - 1]'(by omega)) := List.getElem?_eq_getElem (by omega)
  rw [dropR_get hlast] at hx
  rcases List.mem_or_eq_of_mem_set (List.mem_of_mem_take hx) with h | h
  · exact h
  · rw [h]; exact List.getElem_mem _
theorem TreeOk.dropK {tn p i id : Nat} (ht : TreeOk tn K D T) (p1 : 1 <= p) (p2 : p <= tn) (hk : K p = 2) (hi : i < (T p).length) (h1 : id ≠ 1) (hip : id ≠ p) (hu : ∀ q, 1 <= q -> q <= tn -> K q = 2 -> q ≠ id -> ∀ x ∈ upd T p (dropR (T p) i) q, x.id ≠ id) :
    TreeOk tn (upd K id 0) (upd (upd D p (recsL (dropR (T p) i))) id []) (upd T p (dropR (T p) i)) := by
  have hKq : ∀ q, upd K id 0 q = 2 -> q ≠ id /\ K q = 2 := fun q hq => by
    by_cases e : q = id
    · rw [e, upd_same] at hq; cases hq
    · rw [upd_other _ _ e] at hq; exact ⟨e, hq⟩
  refine ⟨by rw [upd_other _ _ (Ne.symm h1)]; exact ht.root, fun q q1 q2 hq => ?_, fun q q1 q2 hq x hx => ?_⟩
  · obtain ⟨hne, hq⟩ := hKq q hq
    rw [upd_other _ _ hne]
    by_cases hqp : q = p
    · subst hqp
      rw [upd_same, upd_same]
      exact ⟨rfl, (ht.recs q q1 q2 hq).2.drop hi⟩
    · rw [upd_other _ _ hqp, upd_other _ _ hqp]
      exact ht.recs q q1 q2 hq
  · obtain ⟨hne, hq⟩ := hKq q hq
    have hxi := hu q q1 q2 hq hne x hx
    rw [upd_other _ _ hxi]
    by_cases hqp : q = p
    · subst hqp
      rw [upd_same] at hx
      exact ht.used q q1 q2 hq x (dropR_mem hi x hx)
    · rw [upd_other _ _ hqp] at hx
      exact ht.used q q1 q2 hq x hx
theorem remove_file (h : Fsz fb rs hb E K D T f lim w) (hno : HNo fb hb E w) {path s : List UInt8} {l : List (List UInt8)} (hlen : path.length <= 2000) (hp : splitB path = some (l ++ [s])) {p i : Nat} {r : Rec} (hd : dirT K T l = .ok p) (hi : (T p)[i]? = some r) (hrs : r.s = s) (hkr : K r.id = 1) {n : Nat} (hn : blk ((D r.id).length : Int) = (n : Int))
    (hlenp : (T p).length <= 120) (hu : ∀ q, 1 <= q -> q <= E.tn -> K q = 2 -> q ≠ r.id -> ∀ x ∈ upd T p (dropR (T p) i) q, x.id ≠ r.id) (hlim : lim <= 300000000) :
    Calls Tryz.prog 32 #[ptr fb, .string (mkB path)] w fun e w' => e = .returned .nilIface /\ (∃ f', f' + bkL (dropR (T p) i).length = f + bkL (T p).length + n /\ Fsz fb rs hb E.rest (upd K r.id 0) (upd (upd D p (recsL (dropR (T p) i))) r.id []) (upd T p (dropR (T p) i)) f' (lim + 1000) w') /\ E.Turns fb w w' := by
  have hpl := h.pl
  have htn1 := hpl.tn1
  obtain ⟨p1, p2, hk⟩ := dirT_in h.tree htn1 hd
  obtain ⟨hDp, hGp⟩ := h.tree.recs p p1 p2 hk
  have hrm := List.mem_of_getElem? hi
  have hil := (List.getElem?_eq_some_iff.1 hi).1
  obtain ⟨hrt, -⟩ := h.tree.used p p1 p2 hk r hrm
  have hr1 : 1 <= r.id := (hGp.each r hrm).lo
  have hip : r.id ≠ p := by intro e; rw [e, hk] at hkr; cases hkr
  have hi1 : r.id ≠ 1 := by intro e; rw [e, h.tree.root] at hkr; cases hkr
  have hmp := may_all (split_may hp)
  have hl6 : l.length <= 6 := by have := hmp.1; rw [List.length_append] at this; omega
  have hlok : ∀ x ∈ l, okB x = true := fun x hx => hmp.2 x (List.mem_append.2 (Or.inl hx))
  have hsum : sumL D [p, r.id] = bkL (T p).length + n := by
    show (blk ((D p).length : Int)).toNat + ((blk ((D r.id).length : Int)).toNat + 0) = _
    rw [hDp, recsL_len hGp.each, hn]
    rfl
  have hbk : bkL (T p).length <= 40 := by
    have e := bkL_eq (T p).length
    unfold blk at e
    split at e <;> (try split at e) <;> (try split at e) <;> omega
  have hn40 : n <= 40 := by have := blk_range ((D r.id).length : Int); omega
  obtain ⟨A, U, ku, ok', -, hS'⟩ := h.s.re hpl [p, r.id] [p, r.id] (fun x hx => by simp at hx; rcases hx with rfl | rfl <;> omega) (fun x hx => by simp at hx; rcases hx with rfl | rfl <;> omega) 0 (Nat.zero_le _) (by rw [hsum]; show 2 + 2 + _ + 0 <= 87; omega)
  have hfar := h.far
  have hah := h.s.to.lts
  have hfbl := h.at_.lt
  have hlow : ∀ k ∈ [E.d, E.g, E.mb], k < w.heap.size := fun k hk => by
    unfold TE.Ahead at hah
    simp only [List.mem_cons, List.not_mem_nil, or_false] at hk
    omega
  refine remove_via (E := E.rest) (rs := rs) (hb := hb) (Q := fun w' => (∃ f', f' + bkL (dropR (T p) i).length = f + bkL (T p).length + n /\ Fsz fb rs hb E.rest (upd K r.id 0) (upd (upd D p (recsL (dropR (T p) i))) r.id []) (upd T p (dropR (T p) i)) f' (lim + 1000) w') /\ E.Turns fb w w') hlen hp (fun w1 w2 hq hB => ⟨by obtain ⟨f', g1, g2⟩ := hq.1; exact ⟨f', g1, g2.below hB⟩, hq.2.trans (Apart.of_below hB)⟩) (fun wx b0 b1 b2 b3 up hx hb0 hb3 hbx hTx => ?_)
  have hF' : FsAt fb (E.at A U (· ∈ [p, r.id]) (· ∈ [p, r.id]) ku) rs hb wx := (h.at_.below hx).at _ _ _ _ _
  have hSx := (hS'.more hx).to
  have hHx : HNo fb hb (E.at A U (· ∈ [p, r.id]) (· ∈ [p, r.id]) ku) wx := ⟨(hno.below hx).no, hno.ne⟩
  have hi64 : i64 ((r.id : Nat) : Int) := by have := ok'.tn; have : r.id <= (E.at A U (· ∈ [p, r.id]) (· ∈ [p, r.id]) ku).tn := hrt; unfold i64; omega
  have kM := remove1_file (wo := w) hbx hF' hfar hHx hSx ok' h.tree htn1 hTx (by omega) hlok hd hi hrs hkr (show p ∈ [p, r.id] by simp) (show p ∈ [p, r.id] by simp) (show r.id ∈ [p, r.id] by simp) (Or.inl (show r.id ∈ [p, r.id] by simp)) hn hx hah hfbl hno.lt hb3
  obtain ⟨F, hFe⟩ : ∃ F, F = f + bkL (T p).length + n - bkL (dropR (T p) i).length := ⟨_, rfl⟩
  refine (step_ok (P := fun w1 => (Apart [E.mb] w w1 /\ w1.cell? ⟨b0, 0, none⟩ = some (ptr fb) /\ F + bkL (dropR (T p) i).length = f + bkL (T p).length + n) /\ FnAt w1 b3 (r.id : Nat) 1) (K := upd K r.id 0) (D := upd (upd D p (recsL (dropR (T p) i))) r.id []) (f := F) (u := 0) (lim := lim) ent_remove1 hF' hfar ok' hpl.far hpl.live (by show 1 <= E.most /\ E.most <= 200; rw [hpl.most]; omega) hlim (kM.mono ?_)).mono ?_
  · rintro e w1 ⟨rfl, hN1, d0, ⟨f', g1, g2⟩, hF1, hH1, hA1⟩
    have hfF : f' = F := by omega
    rw [hfF] at g1 g2
    exact ⟨rfl, ⟨⟨hA1, d0, g1⟩, hN1⟩, hF1, g2⟩
  · rintro e w2 ⟨rfl, w1, ⟨⟨hA1, d0, hFf⟩, hN1⟩, hF2, hS2, hA2⟩
    have hA2' : Apart [E.d, E.g, E.mb] w1 w2 := hA2
    have hturn : E.Turns fb w w2 := turns_of (Below.refl _ _) hA1 hA2'
    refine ⟨rfl, ?_, ((r.id : Nat) : Int), 1, hi64, hN1.keep hA2' (fun hm => by have := hlow _ hm; omega), ⟨hF2.c0, hF2.c1, hF2.c2, hF2.c3, hF2.c4, hF2.c5, hF2.c6, hF2.c7, hF2.f7⟩, ?_, ⟨F, hFf, ⟨⟨hF2.c0, hF2.c1, hF2.c2, hF2.c3, hF2.c4, hF2.c5, hF2.c6, hF2.c7, hF2.f7⟩, hS2.rest, hpl.at _ _ _ _ _, hfar, h.tree.dropK p1 p2 hk hil hi1 hip hu⟩⟩, hturn⟩
    · exact (hA2'.cell (p := ⟨b0, 0, none⟩) (lt_of_cell (a := ⟨b0, 0, none⟩) d0) (fun hm => by have := hlow _ hm; simp only at this; omega)).trans d0
    · exact ⟨(hno.turns hturn).no, hno.ne⟩
theorem fRemove_ok {a : List UInt8} {Q : World -> Prop} (k : Calls Tryz.prog 32 #[ptr fb, .string (mkB a)] w fun e w' => e = .returned .nilIface /\ Q w') :
    Calls Tryz.prog 15 #[ptr fb, .string (mkB a)] w fun e w' => e = .returned .nilIface /\ Q w' := by
  replace k := hidden k
  have kW := hidden (fun (wx : World) => wrap_nil sRemove (mkB a) wx)
  unfold sRemove at kW
  go_enter Tryz.func15, Tryz.ntmps15
  go_wp2_with fail
  refine (k.out).mono ?_
  rintro ev w1 ⟨rfl, hQ⟩
  replace hQ := hidden hQ
  go_wp2_with fail
  refine (kW.out _).mono ?_
  rintro ev w2 ⟨rfl, hw2⟩
  subst w2
  go_wp2
  go_ret
  exact ⟨rfl, hQ.out⟩
end
section
variable {fb rs hb : Nat} {E : TE} {w w' : World} {K : Nat -> Nat} {D : Nat -> List Int} {T : Nat -> List Rec} {f u lim : Nat}
theorem empty_dir (hF : FsAt fb E rs hb w) (h : S8 E K D f u lim w) (ok : E.Ok) {x : Nat} (h1 : 1 <= x) (h2 : x <= E.tn) (hk : K x = 2) (hD : D x = []) :
    Calls Tryz.prog 62 #[ptr fb, fnV (x : Nat) 2] w fun e w' => e = .returned .nilIface /\ Below w.heap.size w w' := by
  obtain ⟨w1, hw1, hB1, hN1⟩ : ∃ w1, w.alloc (.cells #[.int .i64 (x : Nat), .int .i64 2] 89) = w1 /\ Below w.heap.size w w1 /\ FnAt w1 w.heap.size (x : Nat) 2 := ⟨_, rfl, (Below.refl _ _).alloc (Nat.le_refl _) _, fn_new _ _ _⟩
  have kO := hidden (fun (wx : World) (hx : Below w1.heap.size w1 wx) => of_ok ok (h.more (hB1.trans (hx.mono hB1.size))) h1 h2 hk)
  have kL := hidden (fun (wx : World) (db : Nat) (hx : Below w.heap.size w wx) (hd : DirAt E db x wx) => dLen_calls ((h.more hx).dl (L := []) hD ⟨by simp, by simp⟩ hd) ⟨ok, h1, h2, hk⟩)
  have hF1 := hF.below hB1
  have c2 := hF1.c2
  have hlt := hF1.lt
  have n0 := hN1.c0
  have n1 := hN1.c1
  have ln := hN1.lt
  replace hB1 := hidden hB1
  replace hw1 := hidden hw1
  clear hF h ok hF1 hN1 hD
  generalize hX : ((x : Nat) : Int) = X at *
  go_enter Tryz.func62, Tryz.ntmps62
  go_upto_region 1 with fail
  rw [hw1.out]
  clear hw1
  go_upto_region 3 with fail
  go_region_with (go_at_call 72; refine (kO.out _ (below_drew1 w1)).mono ?_; rintro ev w4 ⟨db, rfl, hdb, d0, d1, hB4⟩)
  all_goals
    have hB14 : Below w.heap.size w w4 := hB1.out.trans (((below_drew1 w1).trans hB4).mono hB1.out.size)
    have kL4 := hidden (kL.out w4 db hB14 ⟨d0, by rw [hX]; exact d1⟩)
    replace hB14 := hidden hB14
    clear hB4 d0 d1
    go_wp2_with fail
    refine (kL4.out).mono ?_
    rintro ev w5 ⟨rfl, hB5⟩
    have hE := hidden (hB14.out.trans (hB5.mono hB14.out.size))
    clear hB5 hB14
    dsimp only [List.length_nil]
    go_wp2
    go_ret
    exact ⟨rfl, hE.out⟩
theorem remove1_dir {wo : World} {b0 b1 b2 b3 : Nat} {v : Value} {s : List UInt8} (hB : MBox b0 b1 b2 b3 fb v s w) (hF : FsAt fb E rs hb w) (hfar : FsAt.Far fb E) (hno : HNo fb hb E w) (h : S8 E K D f u lim w) (ok : E.Ok) (ht : TreeOk E.tn K D T) (htn : 1 <= E.tn) {l : List (List UInt8)} (hv : TxtsAt w v l) (hll : l.length <= 1000) (hok : ∀ s ∈ l, okB s = true) {p i : Nat} {r : Rec} (hp : dirT K T l = .ok p) (hi : (T p)[i]? = some r) (hrs : r.s = s) (hkr : K r.id = 2) (hyp : r.id ≠ p) (hDy : D r.id = []) (hR : E.R p) (hW : E.W p) (hRy : E.R r.id) (hWy : E.W r.id \/ E.ku = 0) {n : Nat} (hn : blk ((D r.id).length : Int) = (n : Int))
    (hx : Below wo.heap.size wo w) (hah : E.Ahead wo.heap.size) (hfbB : fb < wo.heap.size) (hhbB : hb < wo.heap.size) (hb3 : wo.heap.size <= b3) :
    Calls Tryz.prog 61 #[ptr b0, ptr b1, ptr b2, ptr b3] w fun e w' => e = .returned .nilIface /\ FnAt w' b3 (r.id : Nat) 2 /\ w'.cell? ⟨b0, 0, none⟩ = some (ptr fb) /\ (∃ f', f' + bkL (dropR (T p) i).length = f + bkL (T p).length + n /\ S8 E (upd K r.id 0) (upd (upd D p (recsL (dropR (T p) i))) r.id []) f' u lim w') /\ FsAt fb E rs hb w' /\ HNo fb hb E w' /\ Apart [E.mb] wo w' := by
  obtain ⟨p1, p2, hkp⟩ := dirT_in ht htn hp
  obtain ⟨hD, hG⟩ := ht.recs p p1 p2 hkp
  have hrm := List.mem_of_getElem? hi
  obtain ⟨hrt, hrk⟩ := ht.used p p1 p2 hkp r hrm
  have hr1 : 1 <= r.id := (hG.each r hrm).lo
  subst hrs
  have hbs := hB.n.lt
  have h03 : b0 ≠ b3 := fun e => by have c := hB.c0; rw [e, hB.n.c0] at c; cases c
  have h23 : b2 ≠ b3 := fun e => by have c := hB.c2; rw [e, hB.n.c0] at c; cases c
  have hmb3 : b3 ≠ E.mb := by unfold TE.Ahead at hah; omega
  have hmb0 : b0 ≠ E.mb := fun e => by have c := hB.c0; rw [e, h.mapNo 0] at c; cases c
  have hfm : fb ≠ E.mb := hfar.1
  have hhm : hb ≠ E.mb := hno.ne.2.2.1
  have kDa := hidden (dirAt_calls hF h ok ht htn hv hll hok)
  have kCh : ∀ (wx : World) (db : Nat), Below w.heap.size w wx -> DirAt E db p wx -> Calls Tryz.prog 44 #[ptr fb, ptr db, .string (mkB r.s)] wx fun e w' => e = .returned (.tuple #[fnV (r.id : Nat) 2, .nilIface]) /\ Below wx.heap.size wx w' := fun wx db hx hd => by
    have k := child_at (hF.below hx) (h.more hx) ok p1 p2 hkp hD hG hd hi hrt hrk
    rw [hkr] at k
    exact k
  replace kCh := hidden kCh
  have kE := hidden (fun (wx : World) (hFx : FsAt fb E rs hb wx) (hSx : S8 E K D f u lim wx) => empty_dir hFx hSx ok hr1 hrt hkr hDy)
  have kDr := hidden (fun (wx : World) (db : Nat) (hFx : FsAt fb E rs hb wx) (hnx : HNo fb hb E wx) (hSx : S8 E K D f u lim wx) (hd : DirAt E db p wx) => drop_ok hFx hfar hnx hSx ok p1 p2 hkp hD hG hd hi hrt (by rw [hkr]; decide) hyp hR hW hRy hWy hn 2)
  have hKeep := hidden (fun (w3 w4 : World) (hx3 : Below w.heap.size w w3) (hA : Apart [b3] w3 w4) => show FsAt fb E rs hb w4 /\ HNo fb hb E w4 /\ S8 E K D f u lim w4 from ⟨(hF.below hx3).keep hA (by simp; omega), (hno.below hx3).keep hA (by simp; omega), (h.more hx3).over hah (hA.below (by simpa using hb3) (Nat.le_trans hx.size hx3.size))⟩)
  have hBk := hidden hB
  have hxk := hidden hx
  have c0 := hB.c0
  have c1 := hB.c1
  obtain ⟨a, cap, rfl, -⟩ := hv
  replace hp := hidden hp
  clear hF h ok ht hok hB hfar hno hx hah hD hG hi hrm hrk hR hW hRy hWy hn hDy
  generalize l.length = LL at *
  generalize hRI : ((r.id : Nat) : Int) = RI at *
  go_enter Tryz.func61, Tryz.ntmps61
  go_wp2_with fail
  refine (kDa.out).mono ?_
  rintro ev w1 ⟨(⟨q, db, hq, rfl, hd1, hdb, q1, q2, q3⟩ | ⟨m, bk, nm, hq, -⟩), hB1⟩
  rotate_left
  · rw [hp.out] at hq; cases hq
  obtain rfl : p = q := by rw [hp.out] at hq; exact Except.ok.inj hq
  have kC1 := hidden (kCh.out w1 db hB1 hd1)
  clear c0 c1
  have d0 := (hBk.out.below hB1).c0
  have d2 := (hBk.out.below hB1).c2
  have hdb3 : db ≠ b3 := by omega
  replace hd1 := hidden hd1
  replace hB1 := hidden hB1
  clear kDa kCh hq
  go_wp2_with fail
  refine (kC1.out).mono ?_
  rintro ev w3 ⟨rfl, hB3⟩
  have hB13 : Below w.heap.size w w3 := hB1.out.trans (hB3.mono hB1.out.size)
  have hM3 := hBk.out.below hB13
  have hN3 := hM3.n
  have n0 := hN3.c0
  have n1 := hN3.c1
  have g0 := hN3.f0
  have g1 := hN3.f1
  have l3 := hN3.lt
  obtain ⟨w4, hw4, hA4, hN4⟩ : ∃ w4, (w3.setCell ⟨b3, 0, none⟩ (.int .i64 RI)).setCell ⟨b3, 1, none⟩ (.int .i64 2) = w4 /\ Apart [b3] w3 w4 /\ FnAt w4 b3 RI 2 := ⟨_, rfl, fn_apart _ _ _ _, fn_stored hN3⟩
  have hK4 := hKeep.out w3 w4 hB13 hA4
  have hd4 := (hd1.out.below hB3).keep hA4 (by simpa using hdb3)
  have m0 := (hA4.cell (p := ⟨b0, 0, none⟩) (lt_of_cell (a := ⟨b0, 0, none⟩) hM3.c0) (by simpa using h03)).trans hM3.c0
  have m2 := (hA4.cell (p := ⟨b2, 0, none⟩) (lt_of_cell (a := ⟨b2, 0, none⟩) hM3.c2) (by simpa using h23)).trans hM3.c2
  have hAo : Apart [E.mb] wo w4 := (Apart.of_below (bs := [E.mb]) (hxk.out.trans (hB13.mono hxk.out.size))).trans' hA4 (by simpa using hb3)
  have k0 := hN4.c0
  have k1 := hN4.c1
  have l4 := hN4.lt
  replace hw4 := hidden hw4
  have kE4 := hidden (kE.out w4 hK4.1 hK4.2.2)
  have hZ := hidden (And.intro hK4 (And.intro hd4 (And.intro hAo (And.intro hN4 (And.intro m0 m2)))))
  clear hB3 hB13 hM3 hN3 hA4 hN4 hK4 hd4 hAo kC1 d0 d2 hd1 hB1 hBk hKeep kE hxk
  go_upto_region 7 with fail
  rw [hw4.out]
  clear hw4 n0 n1 g0 g1 l3
  go_wp2_with fail
  refine (kE4.out).mono ?_
  rintro ev w5 ⟨rfl, hB5⟩
  obtain ⟨⟨hF4, hH4, hS4⟩, hd4, hAo, hN4, m0', m2'⟩ := hZ.out
  have hN5 := hN4.below hB5
  have o0 := hN5.c0
  have o1 := hN5.c1
  have l5 := hN5.lt
  have r0 := (hB5.cell (p := ⟨b0, 0, none⟩) (lt_of_cell (a := ⟨b0, 0, none⟩) m0')).trans m0'
  have r2 := (hB5.cell (p := ⟨b2, 0, none⟩) (lt_of_cell (a := ⟨b2, 0, none⟩) m2')).trans m2'
  have kD5 := hidden (kDr.out w5 db (hF4.below hB5) (hH4.below hB5) (hS4.more hB5) (hd4.below hB5))
  have hY := hidden (And.intro (hF4.below hB5) (And.intro (hH4.below hB5) (And.intro (hAo.trans (Apart.of_below (bs := [E.mb]) hB5)) (And.intro hN5 r0))))
  clear hF4 hH4 hS4 hd4 hAo hN4 m0' m2' hN5 hB5 hZ kDr kE4 m0 m2 k0 k1 l4
  go_wp2_with fail
  refine (kD5.out).mono ?_
  rintro ev w6 ⟨rfl, ⟨f', g1', g2'⟩, hA6⟩
  obtain ⟨hF5, hH5, hA5, hN5, r0'⟩ := hY.out
  have hA6' : Apart [E.mb] w5 w6 := hA6
  have hE := hidden (show FnAt w6 b3 RI 2 /\ w6.cell? ⟨b0, 0, none⟩ = some (ptr fb) /\ (∃ f', f' + bkL (dropR (T p) i).length = f + bkL (T p).length + n /\ S8 E (upd K r.id 0) (upd (upd D p (recsL (dropR (T p) i))) r.id []) f' u lim w6) /\ FsAt fb E rs hb w6 /\ HNo fb hb E w6 /\ Apart [E.mb] wo w6 from
    ⟨hN5.keep hA6' (by simpa using hmb3), (hA6'.cell (p := ⟨b0, 0, none⟩) (lt_of_cell (a := ⟨b0, 0, none⟩) r0') (by simpa using hmb0)).trans r0', ⟨f', g1', g2'⟩, hF5.keep hA6' (by simpa using hfm), hH5.keep hA6' (by simpa using hhm), hA5.trans hA6'⟩)
  clear hF5 hH5 hA5 hN5 r0' hA6 hA6' g2' hY kD5 o0 o1 l5 r0 r2
  go_wp2
  go_ret
  exact ⟨rfl, hE.out⟩
theorem remove_dir (h : Fsz fb rs hb E K D T f lim w) (hno : HNo fb hb E w) {path s : List UInt8} {l : List (List UInt8)} (hlen : path.length <= 2000) (hp : splitB path = some (l ++ [s])) {p i : Nat} {r : Rec} (hd : dirT K T l = .ok p) (hi : (T p)[i]? = some r) (hrs : r.s = s) (hkr : K r.id = 2) (hip : r.id ≠ p) (hi1 : r.id ≠ 1) (hDy : D r.id = []) {n : Nat} (hn : blk ((D r.id).length : Int) = (n : Int))
    (hlenp : (T p).length <= 120) (hu : ∀ q, 1 <= q -> q <= E.tn -> K q = 2 -> q ≠ r.id -> ∀ x ∈ upd T p (dropR (T p) i) q, x.id ≠ r.id) (hlim : lim <= 300000000) :
    Calls Tryz.prog 32 #[ptr fb, .string (mkB path)] w fun e w' => e = .returned .nilIface /\ (∃ f', f' + bkL (dropR (T p) i).length = f + bkL (T p).length + n /\ Fsz fb rs hb E.rest (upd K r.id 0) (upd (upd D p (recsL (dropR (T p) i))) r.id []) (upd T p (dropR (T p) i)) f' (lim + 1000) w') /\ E.Turns fb w w' := by
  have hpl := h.pl
  have htn1 := hpl.tn1
  obtain ⟨p1, p2, hk⟩ := dirT_in h.tree htn1 hd
  obtain ⟨hDp, hGp⟩ := h.tree.recs p p1 p2 hk
  have hrm := List.mem_of_getElem? hi
  have hil := (List.getElem?_eq_some_iff.1 hi).1
  obtain ⟨hrt, -⟩ := h.tree.used p p1 p2 hk r hrm
  have hr1 : 1 <= r.id := (hGp.each r hrm).lo
  have hmp := may_all (split_may hp)
  have hl6 : l.length <= 6 := by have := hmp.1; rw [List.length_append] at this; omega
  have hlok : ∀ x ∈ l, okB x = true := fun x hx => hmp.2 x (List.mem_append.2 (Or.inl hx))
  have hsum : sumL D [p, r.id] = bkL (T p).length + n := by
    show (blk ((D p).length : Int)).toNat + ((blk ((D r.id).length : Int)).toNat + 0) = _
    rw [hDp, recsL_len hGp.each, hn]
    rfl
  have hbk : bkL (T p).length <= 40 := by
    have e := bkL_eq (T p).length
    unfold blk at e
    split at e <;> (try split at e) <;> (try split at e) <;> omega
  have hn40 : n <= 40 := by have := blk_range ((D r.id).length : Int); omega
  obtain ⟨A, U, ku, ok', -, hS'⟩ := h.s.re hpl [p, r.id] [p, r.id] (fun x hx => by simp at hx; rcases hx with rfl | rfl <;> omega) (fun x hx => by simp at hx; rcases hx with rfl | rfl <;> omega) 0 (Nat.zero_le _) (by rw [hsum]; show 2 + 2 + _ + 0 <= 87; omega)
  have hfar := h.far
  have hah := h.s.to.lts
  have hfbl := h.at_.lt
  have hlow : ∀ k ∈ [E.d, E.g, E.mb], k < w.heap.size := fun k hk => by
    unfold TE.Ahead at hah
    simp only [List.mem_cons, List.not_mem_nil, or_false] at hk
    omega
  refine remove_via (E := E.rest) (rs := rs) (hb := hb) (Q := fun w' => (∃ f', f' + bkL (dropR (T p) i).length = f + bkL (T p).length + n /\ Fsz fb rs hb E.rest (upd K r.id 0) (upd (upd D p (recsL (dropR (T p) i))) r.id []) (upd T p (dropR (T p) i)) f' (lim + 1000) w') /\ E.Turns fb w w') hlen hp (fun w1 w2 hq hB => ⟨by obtain ⟨f', g1, g2⟩ := hq.1; exact ⟨f', g1, g2.below hB⟩, hq.2.trans (Apart.of_below hB)⟩) (fun wx b0 b1 b2 b3 up hx hb0 hb3 hbx hTx => ?_)
  have hF' : FsAt fb (E.at A U (· ∈ [p, r.id]) (· ∈ [p, r.id]) ku) rs hb wx := (h.at_.below hx).at _ _ _ _ _
  have hSx := (hS'.more hx).to
  have hHx : HNo fb hb (E.at A U (· ∈ [p, r.id]) (· ∈ [p, r.id]) ku) wx := ⟨(hno.below hx).no, hno.ne⟩
  have hi64 : i64 ((r.id : Nat) : Int) := by have := ok'.tn; have : r.id <= (E.at A U (· ∈ [p, r.id]) (· ∈ [p, r.id]) ku).tn := hrt; unfold i64; omega
  have kM := remove1_dir (wo := w) hbx hF' hfar hHx hSx ok' h.tree htn1 hTx (by omega) hlok hd hi hrs hkr hip hDy (show p ∈ [p, r.id] by simp) (show p ∈ [p, r.id] by simp) (show r.id ∈ [p, r.id] by simp) (Or.inl (show r.id ∈ [p, r.id] by simp)) hn hx hah hfbl hno.lt hb3
  obtain ⟨F, hFe⟩ : ∃ F, F = f + bkL (T p).length + n - bkL (dropR (T p) i).length := ⟨_, rfl⟩
  refine (step_ok (P := fun w1 => (Apart [E.mb] w w1 /\ w1.cell? ⟨b0, 0, none⟩ = some (ptr fb) /\ F + bkL (dropR (T p) i).length = f + bkL (T p).length + n) /\ FnAt w1 b3 (r.id : Nat) 2) (K := upd K r.id 0) (D := upd (upd D p (recsL (dropR (T p) i))) r.id []) (f := F) (u := 0) (lim := lim) ent_remove1 hF' hfar ok' hpl.far hpl.live (by show 1 <= E.most /\ E.most <= 200; rw [hpl.most]; omega) hlim (kM.mono ?_)).mono ?_
  · rintro e w1 ⟨rfl, hN1, d0, ⟨f', g1, g2⟩, hF1, hH1, hA1⟩
    have hfF : f' = F := by omega
    rw [hfF] at g1 g2
    exact ⟨rfl, ⟨⟨hA1, d0, g1⟩, hN1⟩, hF1, g2⟩
  · rintro e w2 ⟨rfl, w1, ⟨⟨hA1, d0, hFf⟩, hN1⟩, hF2, hS2, hA2⟩
    have hA2' : Apart [E.d, E.g, E.mb] w1 w2 := hA2
    have hturn : E.Turns fb w w2 := turns_of (Below.refl _ _) hA1 hA2'
    refine ⟨rfl, ?_, ((r.id : Nat) : Int), 2, hi64, hN1.keep hA2' (fun hm => by have := hlow _ hm; omega), ⟨hF2.c0, hF2.c1, hF2.c2, hF2.c3, hF2.c4, hF2.c5, hF2.c6, hF2.c7, hF2.f7⟩, ?_, ⟨F, hFf, ⟨⟨hF2.c0, hF2.c1, hF2.c2, hF2.c3, hF2.c4, hF2.c5, hF2.c6, hF2.c7, hF2.f7⟩, hS2.rest, hpl.at _ _ _ _ _, hfar, h.tree.dropK p1 p2 hk hil hi1 hip hu⟩⟩, hturn⟩
    · exact (hA2'.cell (p := ⟨b0, 0, none⟩) (lt_of_cell (a := ⟨b0, 0, none⟩) d0) (fun hm => by have := hlow _ hm; simp only at this; omega)).trans d0
    · exact ⟨(hno.turns hturn).no, hno.ne⟩
end
section
variable {fb rs hb : Nat} {E : TE} {w w' : World} {K : Nat -> Nat} {D : Nat -> List Int} {T : Nat -> List Rec} {f u lim : Nat}
end
def nmP (c : UInt8) (i : Nat) : List UInt8 := c :: Lib.itoa (i : Int)
def valD (l : List UInt8) : Nat := l.foldl (fun a c => a * 10 + (c.toNat - 48)) 0
theorem val_fin : ∀ i : Fin 128, valD (Lib.itoa ((i.val : Nat) : Int)) = i.val := by decide +kernel
theorem ok_fin : ∀ i : Fin 128, okB (nmP 120 i.val) = true /\ okB (nmP 102 i.val) = true /\ okB (nmP 107 i.val) = true := by decide +kernel
theorem size_fin : ∀ i : Fin 128, (Lib.itoa ((i.val : Nat) : Int)).length <= 20 := by decide +kernel
theorem nm_inj {c : UInt8} {i j : Nat} (hi : i < 128) (hj : j < 128) (h : nmP c i = nmP c j) : i = j := by
  have h2 := congrArg valD (List.cons.inj h).2
  rw [val_fin ⟨i, hi⟩, val_fin ⟨j, hj⟩] at h2
  exact h2
theorem nm_size {i : Nat} (hi : i < 128) : (itoaB (i : Int)).size <= 20 := by
  have := size_fin ⟨i, hi⟩
  simpa [itoaB, ByteArray.size] using this
theorem mem_dropR {L : List Rec} {i : Nat} {r q : Rec} (h : (L.map Rec.s).Nodup) (hr : L[i]? = some r) : q ∈ dropR L i <-> q ∈ L /\ q.s ≠ r.s := by
  obtain ⟨hi, er⟩ := List.getElem?_eq_some_iff.1 hr
  obtain ⟨m, hm⟩ : ∃ m, L.length = m + 1 := ⟨L.length - 1, by omega⟩
  obtain ⟨x, hx⟩ : ∃ x, L[m]? = some x := ⟨_, List.getElem?_eq_getElem (by omega)⟩
  have key : ∀ {a b : Nat} {y z : Rec}, L[a]? = some y -> L[b]? = some z -> a ≠ b -> y.s ≠ z.s := fun {a b y z} ha hb hne e => by
    obtain ⟨h1, e1⟩ := List.getElem?_eq_some_iff.1 ha
    obtain ⟨h2, e2⟩ := List.getElem?_eq_some_iff.1 hb
    rcases Nat.lt_or_gt_of_ne hne with hl | hl
    · have hn := List.pairwise_iff_getElem.1 h a b (by simpa using h1) (by simpa using h2) hl
      rw [List.getElem_map, List.getElem_map, e1, e2] at hn
      exact hn e
    · have hn := List.pairwise_iff_getElem.1 h b a (by simpa using h2) (by simpa using h1) hl
      rw [List.getElem_map, List.getElem_map, e1, e2] at hn
      exact hn e.symm
  have hd := dropR_get (i := i) (show L[L.length - 1]? = some x by rw [hm]; exact hx)
  rw [hm, show m + 1 - 1 = m by omega] at hd
  rw [hd]
  constructor
  · intro hq
    obtain ⟨a, ha⟩ := List.getElem?_of_mem hq
    rw [List.getElem?_take] at ha
    split at ha
    · rename_i ham
      rw [List.getElem?_set] at ha
      split at ha
      · rename_i hia
        cases ha
        exact ⟨List.mem_of_getElem? hx, key hx hr (by omega)⟩
      · rename_i hia
        exact ⟨List.mem_of_getElem? ha, key ha hr (fun e => hia e.symm)⟩
    · cases ha
  · rintro ⟨hq, hne⟩
    obtain ⟨a, ha⟩ := List.getElem?_of_mem hq
    have hai : a ≠ i := fun e => by
      subst e
      rw [ha] at hr
      cases hr
      exact hne rfl
    have hal := (List.getElem?_eq_some_iff.1 ha).1
    rcases Nat.lt_or_ge a m with hlt | hge
    · refine List.mem_of_getElem? (i := a) ?_
      rw [List.getElem?_take, if_pos hlt, List.getElem?_set_ne (by omega)]
      exact ha
    · have : a = m := by omega
      subst this
      rw [hx] at ha
      cases ha
      refine List.mem_of_getElem? (i := i) ?_
      rw [List.getElem?_take, if_pos (by omega), List.getElem?_set_self (by omega)]
theorem split_one {s : List UInt8} (h : okB s = true) : splitB (47 :: s) = some [s] := by
  have := split_join (l := [s]) (by simp [mayP, h])
  simpa [joinB, flatB] using this
theorem lookN {L : List Rec} {s : List UInt8} (h : ∀ r ∈ L, r.s ≠ s) : lookT L s = none := List.find?_eq_none.2 fun r hr => by simpa using h r hr
theorem bkL_one (n : Nat) (hn : n <= 124) : bkL n <= bkL (n + 1) /\ bkL (n + 1) <= bkL n + 2 /\ bkL n <= 33 := by
  have e1 := bkL_eq n
  have e2 := bkL_eq (n + 1)
  unfold blk at e1 e2
  split at e1 <;> split at e2 <;> (try split at e1) <;> (try split at e2) <;> (try split at e1) <;> (try split at e2) <;> omega
theorem grow_bk (n : Nat) (hn : n <= 123) : growb ((32 * n : Nat) : Int) ((32 * (n + 1) : Nat) : Int) = ((bkL (n + 1) - bkL n : Nat) : Int) := by
  have e1 := bkL_eq n
  have e2 := bkL_eq (n + 1)
  have := bkL_one n (by omega)
  unfold growb
  omega
structure GnR (fb hb xb N dd : Nat) (P : (Nat -> List Int) -> Nat -> Prop) (K : Nat -> Nat) (T : Nat -> List Rec) (lim : Nat) (E : TE) (w : World) : Prop where
  st : ∃ D f, P D f /\ Fsz fb 0 hb E K D T f lim w
  no : HNo fb hb E w
  x1 : w.cell? ⟨xb, 1, none⟩ = some (ptr fb)
  xn : xb ≠ E.d /\ xb ≠ E.g /\ xb ≠ E.mb /\ xb ≠ fb
  tn : E.tn = N
  k : E.k = dd
def GnS (fb hb xb N dd : Nat) (P : (Nat -> List Int) -> Nat -> Prop) (K : Nat -> Nat) (T : Nat -> List Rec) (lim : Nat) (w0 w : World) : Prop := (∃ E, GnR fb hb xb N dd P K T lim E w /\ E.w0 = w0) /\ GT w0
def ErN (op nm : ByteArray) (m : Int) (ev : Value) (w : World) : Prop := ∃ ll b, ev = flt b /\ Chain w ((op, nm) :: ll) (num m) (flt b)
section
variable {fb hb xb N dd lim lim' : Nat} {P P' : (Nat -> List Int) -> Nat -> Prop} {K K' : Nat -> Nat} {T T' : Nat -> List Rec} {D D' : Nat -> List Int} {f f' : Nat} {E : TE} {w0 w w' : World}
theorem GnS.up (h : GnS fb hb xb N dd P K T lim w0 w) (hl : lim <= lim') : GnS fb hb xb N dd P K T lim' w0 w := by
  obtain ⟨⟨E, ⟨⟨D, f, hp, h0⟩, h1, h2, h3, h4, h5⟩, he⟩, hg⟩ := h
  obtain ⟨mem, wr, M, z1, z2, z3, z4, z5⟩ := h0.s
  exact ⟨⟨E, ⟨⟨D, f, hp, ⟨h0.at_, ⟨mem, wr, M, z1, z2, z3, ⟨z4.1, Int.le_trans z4.2 (by omega)⟩, z5⟩, h0.pl, h0.far, h0.tree⟩⟩, h1, h2, h3, h4, h5⟩, he⟩, hg⟩
end
section
variable {fb hb xb N dd lim k c : Nat} {kd : Nat -> Nat} {w0 w w' : World}
end
structure GrR (rs fb hb xb N dd : Nat) (P : (Nat -> List Int) -> Nat -> Prop) (K : Nat -> Nat) (T : Nat -> List Rec) (lim : Nat) (E : TE) (w : World) : Prop where
  st : ∃ D f, P D f /\ Fsz fb rs hb E K D T f lim w
  no : HNo fb hb E w
  x1 : w.cell? ⟨xb, 1, none⟩ = some (ptr fb)
  xn : xb ≠ E.d /\ xb ≠ E.g /\ xb ≠ E.mb /\ xb ≠ fb
  tn : E.tn = N
  k : E.k = dd
def GrS (rs fb hb xb N dd : Nat) (P : (Nat -> List Int) -> Nat -> Prop) (K : Nat -> Nat) (T : Nat -> List Rec) (lim : Nat) (w0 w : World) : Prop := (∃ E, GrR rs fb hb xb N dd P K T lim E w /\ E.w0 = w0) /\ GT w0
section
variable {rs fb hb xb N dd lim lim' : Nat} {P P' : (Nat -> List Int) -> Nat -> Prop} {K K' : Nat -> Nat} {T T' : Nat -> List Rec} {D D' : Nat -> List Int} {f f' : Nat} {E : TE} {w0 w w' : World}
theorem GrR.below (h : GrR rs fb hb xb N dd P K T lim E w) (hB : Below w.heap.size w w') : GrR rs fb hb xb N dd P K T lim E w' := by
  obtain ⟨⟨D, f, hp, h0⟩, h1, h2, h3, h4, h5⟩ := h
  exact ⟨⟨D, f, hp, h0.below hB⟩, h1.below hB, (hB.cell (p := ⟨xb, 1, none⟩) (lt_of_cell (a := ⟨xb, 1, none⟩) h2)).trans h2, h3, h4, h5⟩
theorem GrR.turn (h : GrR rs fb hb xb N dd P K T lim E w) (hT : E.Turns fb w w') (hP : P' D' f') (hz : Fsz fb rs hb E.rest K' D' T' f' lim' w') : GrR rs fb hb xb N dd P' K' T' lim' E.rest w' :=
  have hA : Apart [E.d, E.g, E.mb, fb] w w' := hT
  ⟨⟨D', f', hP, hz⟩, ⟨(h.no.turns hT).no, h.no.ne⟩, (hA.cell (p := ⟨xb, 1, none⟩) (lt_of_cell (a := ⟨xb, 1, none⟩) h.x1) (by have := h.xn; simp; omega)).trans h.x1, h.xn, h.tn, h.k⟩
theorem GrS.below (h : GrS rs fb hb xb N dd P K T lim w0 w) (hB : Below w.heap.size w w') : GrS rs fb hb xb N dd P K T lim w0 w' := by
  obtain ⟨⟨E, h1, h2⟩, h3⟩ := h
  exact ⟨⟨E, h1.below hB, h2⟩, h3⟩
theorem GrS.x1 (h : GrS rs fb hb xb N dd P K T lim w0 w) : w.cell? ⟨xb, 1, none⟩ = some (ptr fb) := by
  obtain ⟨⟨E, h1, h2⟩, h3⟩ := h
  exact h1.x1
theorem GrS.bel (h : GrS rs fb hb xb N dd P K T lim w0 w) : Below w0.heap.size w0 w := by
  obtain ⟨⟨E, ⟨⟨D, f, hp, h0⟩, -⟩, rfl⟩, h3⟩ := h
  exact h0.s.to.below
theorem GrS.gt (h : GrS rs fb hb xb N dd P K T lim w0 w) : GT w := h.2.below h.bel
theorem GrS.ground (h : GrS rs fb hb xb N dd P K T lim w0 w) : Ground w := by
  obtain ⟨⟨E, ⟨⟨D, f, hp, h0⟩, -⟩, rfl⟩, h3⟩ := h
  exact h0.s.to.ground
theorem GrS.up (h : GrS rs fb hb xb N dd P K T lim w0 w) (hl : lim <= lim') : GrS rs fb hb xb N dd P K T lim' w0 w := by
  obtain ⟨⟨E, ⟨⟨D, f, hp, h0⟩, h1, h2, h3, h4, h5⟩, he⟩, hg⟩ := h
  obtain ⟨mem, wr, M, z1, z2, z3, z4, z5⟩ := h0.s
  exact ⟨⟨E, ⟨⟨D, f, hp, ⟨h0.at_, ⟨mem, wr, M, z1, z2, z3, ⟨z4.1, Int.le_trans z4.2 (by omega)⟩, z5⟩, h0.pl, h0.far, h0.tree⟩⟩, h1, h2, h3, h4, h5⟩, he⟩, hg⟩
theorem gr_new {n i : Nat} (hN : New11 n i rs dd w0 E fb hb xb w) (hg : GT w0) (hP : P (fun _ => []) dd) : GrS rs fb hb xb i dd P rootK (fun _ => []) 6000 w0 w :=
  ⟨⟨E, ⟨⟨_, _, hP, hN.z⟩, hN.no, hN.x1, hN.xn, hN.tn, hN.k⟩, hN.w0⟩, hg⟩
theorem GrS.step {F : FuncId} {args : Array Value} {R : Ending -> World -> Prop} (h : GrS rs fb hb xb N dd P K T lim w0 w)
    (k : ∀ E D f, GrR rs fb hb xb N dd P K T lim E w -> P D f -> Fsz fb rs hb E K D T f lim w -> Calls Tryz.prog F args w fun e w' => R e w' /\ (∃ D' f', P' D' f' /\ Fsz fb rs hb E.rest K' D' T' f' lim' w') /\ E.Turns fb w w') :
    Calls Tryz.prog F args w fun e w' => R e w' /\ GrS rs fb hb xb N dd P' K' T' lim' w0 w' := by
  obtain ⟨⟨E, h1, h2⟩, h3⟩ := h
  obtain ⟨D, f, hp, hz⟩ := h1.st
  refine (k E D f h1 hp hz).mono ?_
  rintro e w' ⟨hR, ⟨D', f', hp', hz'⟩, hT⟩
  exact ⟨hR, ⟨⟨E.rest, h1.turn hT hp' hz', h2⟩, h3⟩⟩
theorem GrS.told {F : FuncId} {args : Array Value} {op nm : ByteArray} {m : Int} (h : GrS rs fb hb xb N dd P K T lim w0 w)
    (k : ∀ E D f, GrR rs fb hb xb N dd P K T lim E w -> P D f -> Fsz fb rs hb E K D T f lim w -> Calls Tryz.prog F args w fun e w' => ∃ ev, e = .returned ev /\ Told11 fb rs hb E K D T f lim op nm m w ev w') :
    Calls Tryz.prog F args w fun e w' => ∃ ev, e = .returned ev /\ ErN op nm m ev w' /\ GrS rs fb hb xb N dd P K T lim w0 w' := by
  obtain ⟨⟨E, h1, h2⟩, h3⟩ := h
  obtain ⟨D, f, hp, hz⟩ := h1.st
  refine (k E D f h1 hp hz).mono ?_
  rintro e w' ⟨ev, he, ⟨ll, b, q1, q2⟩, hz', hT⟩
  exact ⟨ev, he, ⟨ll, b, q1, q2⟩, ⟨⟨E.rest, h1.turn hT hp hz', h2⟩, h3⟩⟩
end
section
variable {fb rs hb : Nat} {E : TE} {w w' : World} {K : Nat -> Nat} {D : Nat -> List Int} {T : Nat -> List Rec} {f u lim : Nat}
theorem add_poor (hF : FsAt fb E rs hb w) (h : S8 E K D f u lim w) (ok : E.Ok) (hkk : E.kk = E.k) {p db : Nat} {L : List Rec} (p1 : 1 <= p) (p2 : p <= E.tn) (hk : K p = 2) (hD : D p = recsL L) (hg : GoodL L) (hd : DirAt E db p w) (s : List UInt8) (hl : L.length < 120)
    (kind : Int) (id : Nat) (h1 : 1 <= id) (h2 : id <= E.tn) (hfree : K id = 0) (size : Nat) (all : Bool) (gn : Nat) (hgn : growb ((32 * L.length : Nat) : Int) ((32 * (L.length + 1) : Nat) : Int) = (gn : Int)) (hmay : mayB (f : Int) (rs : Int) ((gn : Int) + growb 0 (size : Int)) all = false) :
    Calls Tryz.prog 45 #[ptr fb, ptr db, .string (mkB s), .int .i64 kind, .int .i64 (size : Nat), .bool all] w fun e w' => e = .returned (.tuple #[.int .i64 0, num 15]) /\ Below w.heap.size w w' := by
  have htn := ok.tn
  have hfk : f <= 2100 := by
    obtain ⟨mem, wr, M, N, q1, q2, q3, q4, q5, q6, q7, q8⟩ := h
    have := freeN_le (bitM mem M E.ma) E.k
    have := ok.k
    omega
  have kWi := widen_calls (h.dl hD hg hd) (eok ok p1 p2 hk _) hl
  rw [hgn] at kWi
  replace kWi := hidden kWi
  have kLe := hidden (fun (wx : World) (hx : Below w.heap.size w wx) => S8.left ok (h.more hx))
  have kGr := hidden (fun (wx : World) => grow_calls 0 (size : Int) wx)
  have kMy := hidden (fun (wx : World) (hx : Below w.heap.size w wx) => fmay_calls (hF.below hx) (h.more hx) ok hkk ((gn : Int) + growb 0 (size : Int)) all (yes := false) (fun wy => by have := may_calls (f : Int) (rs : Int) ((gn : Int) + growb 0 (size : Int)) all (by omega) wy; rw [hmay] at this; exact this))
  have kFs := hidden (fun (wx : World) (hx : Below w.heap.size w wx) => (hF.below hx).c2)
  have hcnt := cnt_pos h1 hfree (E.tn + 1) (by omega)
  have hcn : ¬ ((cntN K (E.tn + 1) : Nat) : Int) = 0 := by omega
  have hgr := growb_range 0 (size : Int)
  have hgz : gn <= 100 := by have := growb_range ((32 * L.length : Nat) : Int) ((32 * (L.length + 1) : Nat) : Int); omega
  have hlt := hF.lt
  clear hF h hD hd hmay hgn
  generalize hcq : ((cntN K (E.tn + 1) : Nat) : Int) = CN at *
  generalize hgq : growb 0 (size : Int) = GS at *
  clear hcq hgq hcnt
  go_enter Tryz.func45, Tryz.ntmps45
  go_wp2_with fail
  refine (kWi.out).mono ?_
  rintro ev w1 ⟨rfl, hB1⟩
  have c21 := kFs.out _ hB1
  have hl1 : fb < w1.heap.size := lt_of_cell (a := ⟨fb, 2, none⟩) c21
  have kLe1 := hidden (kLe.out _ hB1)
  replace hB1 := hidden hB1
  clear kWi kLe
  go_wp2_with fail
  refine (kLe1.out).mono ?_
  rintro ev w2 ⟨rfl, hB2⟩
  have hb2 := hB1.out.trans (hB2.mono hB1.out.size)
  have kMy2 := hidden (kMy.out _ hb2)
  replace hb2 := hidden hb2
  clear kLe1 hB2 hB1 c21 kMy
  go_wp2_with fail
  refine (kGr.out _).mono ?_
  rintro ev wq ⟨rfl, hwq⟩
  subst wq
  go_wp2_with fail
  refine (kMy2.out).mono ?_
  rintro ev w3 ⟨rfl, hB3⟩
  have hE := hidden (hb2.out.trans (hB3.mono hb2.out.size))
  clear kMy2 hB3 hb2 kGr
  dsimp only [Bool.false_eq_true, if_false]
  go_wp2
  go_ret2
  exact ⟨rfl, hE.out⟩
theorem target_poor (hF : FsAt fb E rs hb w) (h : S8 E K D f u lim w) (ok : E.Ok) (hkk : E.kk = E.k) (ht : TreeOk E.tn K D T) (htn : 1 <= E.tn) {v : Value} {l : List (List UInt8)} (hv : TxtsAt w v l) (hll : l.length <= 1000) (hok : ∀ s ∈ l, okB s = true) {p : Nat} (hp : dirT K T l = .ok p) (s : List UInt8) (hs : okB s = true) (hno : lookT (T p) s = none) (hl : (T p).length < 120) (id : Nat) (h1 : 1 <= id) (h2 : id <= E.tn) (hfree : K id = 0) (size : Nat) (all : Bool) (gn : Nat) (hgn : growb ((32 * (T p).length : Nat) : Int) ((32 * ((T p).length + 1) : Nat) : Int) = (gn : Int)) (hmay : mayB (f : Int) (rs : Int) ((gn : Int) + growb 0 (size : Int)) all = false) :
    Calls Tryz.prog 47 #[ptr fb, v, .string (mkB s), .int .i64 (size : Nat), .bool all] w fun e w' => e = .returned (.tuple #[.int .i64 0, num 15]) /\ Below w.heap.size w w' := by
  have kDa := hidden (dirAt_calls hF h ok ht htn hv hll hok)
  have kCh := hidden (fun (wx : World) (db : Nat) (p1 : 1 <= p) (p2 : p <= E.tn) (hk : K p = 2) (hx : Below w.heap.size w wx) (hd : DirAt E db p wx) => child_none (fb := fb) (h.more hx) ok p1 p2 hk (ht.recs p p1 p2 hk).1 (ht.recs p p1 p2 hk).2 hd s hs (lookT_none hno))
  have kAd := hidden (fun (wx : World) (db : Nat) (p1 : 1 <= p) (p2 : p <= E.tn) (hk : K p = 2) (hx : Below w.heap.size w wx) (hd : DirAt E db p wx) => add_poor (hF.below hx) (h.more hx) ok hkk p1 p2 hk (ht.recs p p1 p2 hk).1 (ht.recs p p1 p2 hk).2 hd s hl 1 id h1 h2 hfree size all gn hgn hmay)
  obtain ⟨a, cap, rfl, -⟩ := hv
  replace hp := hidden hp
  clear hF h ok ht hok hgn hmay hfree hno
  generalize l.length = LL at *
  go_enter Tryz.func47, Tryz.ntmps47
  go_wp2_with fail
  refine (kDa.out).mono ?_
  rintro ev w1 ⟨(⟨q, db, hq, rfl, hd1, hdb, q1, q2, q3⟩ | ⟨m, bk, nm, hq, -⟩), hB1⟩
  rotate_left
  · rw [hp.out] at hq; cases hq
  obtain rfl : p = q := by rw [hp.out] at hq; exact Except.ok.inj hq
  have kC1 := hidden (kCh.out w1 db q1 q2 q3 hB1 hd1)
  have hA1 := hidden (And.intro hB1 hd1)
  clear kDa kCh hB1 hd1 hq
  go_wp2_with fail
  refine (kC1.out).mono ?_
  rintro ev w2 ⟨bk, rfl, hc, hB2⟩
  obtain ⟨w3, hw3, hB3, hN3⟩ : ∃ w3, w2.alloc (Obj.cells #[.int .i64 0, .int .i64 0] 89) = w3 /\ Below w2.heap.size w2 w3 /\ FnAt w3 w2.heap.size 0 0 := ⟨_, rfl, (Below.refl _ _).alloc (Nat.le_refl _) _, fn_new _ _ _⟩
  have kI := is_chain 11 11 w3 _ _ (Chain.below hB3 _ _ _ hc)
  have hb3 : Below w.heap.size w w3 := hA1.out.1.trans ((hB2.trans (hB3.mono hB2.size)).mono hA1.out.1.size)
  have hd3 : DirAt E db p w3 := (hA1.out.2.below hB2).below hB3
  have kA3 := hidden (kAd.out w3 db q1 q2 q3 hb3 hd3)
  replace kI := hidden kI
  replace hb3 := hidden hb3
  replace hw3 := hidden hw3
  clear hc hB2 hB3 hN3 kC1 kAd hd3 hA1
  go_upto_region 5 with fail
  rw [hw3.out]
  clear hw3
  go_wp2_with fail
  refine (kI.out).mono ?_
  rintro ev w4 ⟨rfl, hw4⟩
  subst w4
  dsimp only [Int.reduceBEq]
  go_wp2_with fail
  refine (kA3.out).mono ?_
  rintro ev w5 ⟨rfl, hB5⟩
  have hE := hidden (hb3.out.trans (hB5.mono hb3.out.size))
  clear hB5 kA3
  go_wp2
  go_ret2
  exact ⟨rfl, hE.out⟩
theorem put_poor (h : Fsz fb rs hb E K D T f lim w) {path s : List UInt8} {l : List (List UInt8)} (hlen : path.length <= 2000) (hp : splitB path = some (l ++ [s])) {bv : Value} {zs : List Int} (hbv : ∃ a c, bv = .slice a zs.length c) (hz : zs.length <= 4000) (all : Bool) {p : Nat} (hd : dirT K T l = .ok p) (hno : lookT (T p) s = none) (hl : (T p).length < 120) {id : Nat} (h1 : 1 <= id) (h2 : id <= E.tn) (hfree : K id = 0) {gn : Nat} (hgn : growb ((32 * (T p).length : Nat) : Int) ((32 * ((T p).length + 1) : Nat) : Int) = (gn : Int)) (hmay : mayB (f : Int) (rs : Int) ((gn : Int) + growb 0 (zs.length : Int)) all = false) :
    Calls Tryz.prog 28 #[ptr fb, .string (mkB path), bv, .bool all] w fun e w' => ∃ ev, e = .returned ev /\ Refused fb rs hb E K D T f lim 15 w ev w' := by
  have hmp := may_all (split_may hp)
  have hl6 : l.length <= 6 := by have := hmp.1; rw [List.length_append] at this; omega
  refine put_fail h hlen hp hbv hz all rfl (fun wx up hr hT => ?_)
  refine (target_poor hr.at_ hr.s.to h.pl.rest_ok h.pl.kk.symm hr.tree h.pl.tn1 hT (by omega) (fun x hx => hmp.2 x (List.mem_append.2 (Or.inl hx))) hd s (hmp.2 s (by simp)) hno hl id h1 h2 hfree zs.length all gn hgn hmay).mono ?_
  rintro e w' ⟨rfl, hB⟩
  exact ⟨[], _, rfl, rfl, hB⟩
end
section
variable {fb rs hb : Nat} {E : TE} {w w' : World} {K : Nat -> Nat} {D : Nat -> List Int} {T : Nat -> List Rec} {f u lim tn : Nat}
theorem rec_inj : ∀ {L : List Rec}, (L.map Rec.s).Nodup -> ∀ {a b : Rec}, a ∈ L -> b ∈ L -> a.s = b.s -> a = b
  | [], _, a, b, ha, _, _ => by simp at ha
  | x :: l, h, a, b, ha, hb, e => by
    rw [List.map_cons, List.nodup_cons] at h
    rcases List.mem_cons.1 ha with ha | ha <;> rcases List.mem_cons.1 hb with hb | hb
    · rw [ha, hb]
    · exact absurd (List.mem_map.2 ⟨b, hb, by rw [<- e, ha]⟩) h.1
    · exact absurd (List.mem_map.2 ⟨a, ha, by rw [e, hb]⟩) h.1
    · exact rec_inj h.2 ha hb e
theorem idT_at {L : List Rec} (h : (L.map Rec.s).Nodup) {r : Rec} (hr : r ∈ L) : idT L r.s = r.id := by
  obtain ⟨q, h1, h2⟩ := look_has (L := L) (s := r.s) ⟨r, hr, rfl⟩
  obtain ⟨e, i, hi⟩ := lookT_some h1
  rw [h2, rec_inj h (List.mem_of_getElem? hi) hr e]
end
section
variable {fb hb xb N dd lim k : Nat} {kd : Nat -> Nat} {w0 w w' : World}
end
section
variable {K : Nat -> Nat} {D : Nat -> List Int} {T : Nat -> List Rec} {tn : Nat}
theorem kids_perm {x : Nat} (hk : K x = 2) (hL : ((T x).map Rec.s).Nodup) : (kidsT K T x).Perm ((T x).map Rec.id) := by
  unfold kidsT
  rw [if_pos hk]
  have h1 : (namesT T x).Perm ((T x).map Rec.s) := by unfold namesT; exact List.mergeSort_perm _ _
  have h2 := h1.map (idT (T x))
  rw [List.map_map] at h2
  exact h2.trans (List.Perm.of_eq (List.map_congr_left fun r hr => idT_at hL hr))
def lvT (K : Nat -> Nat) (T : Nat -> List Rec) (x : Nat) : Nat -> List Nat
  | 0 => [x]
  | j + 1 => (lvT K T x j).flatMap (kidsT K T)
structure RankT (K : Nat -> Nat) (T : Nat -> List Rec) (tn : Nat) (rk : Nat -> Nat) : Prop where
  root : rk 1 = 0
  up : ∀ q, 1 <= q -> q <= tn -> K q = 2 -> ∀ r ∈ T q, rk r.id = rk q + 1
  few : ∀ q, 1 <= q -> q <= tn -> K q ≠ 0 -> rk q <= 6
  own : ∀ q, 1 <= q -> q <= tn -> K q = 2 -> ((T q).map Rec.id).Nodup
  one : ∀ q q', 1 <= q -> q <= tn -> K q = 2 -> 1 <= q' -> q' <= tn -> K q' = 2 -> ∀ r ∈ T q, ∀ r' ∈ T q', r.id = r'.id -> q = q'
  all : ∀ x, 1 <= x -> x <= tn -> K x ≠ 0 -> x ≠ 1 -> ∃ q, 1 <= q /\ q <= tn /\ K q = 2 /\ ∃ r ∈ T q, r.id = x
variable {rk : Nat -> Nat}
theorem kids_mem (ht : TreeOk tn K D T) {q y : Nat} (q1 : 1 <= q) (q2 : q <= tn) : y ∈ kidsT K T q <-> K q = 2 /\ ∃ r ∈ T q, r.id = y := by
  by_cases hk : K q = 2
  · rw [(kids_perm hk (ht.recs q q1 q2 hk).2.nodup).mem_iff, List.mem_map]
    exact ⟨fun h => ⟨hk, h⟩, fun h => h.2⟩
  · unfold kidsT
    rw [if_neg hk]
    exact ⟨fun h => by simp at h, fun h => absurd h.1 hk⟩
theorem lv_in (ht : TreeOk tn K D T) (m : RankT K T tn rk) {x : Nat} (x1 : 1 <= x) (x2 : x <= tn) (x3 : K x ≠ 0) : ∀ j y, y ∈ lvT K T x j -> 1 <= y /\ y <= tn /\ K y ≠ 0 /\ rk y = rk x + j
  | 0, y, h => by
    obtain rfl : y = x := by simpa [lvT] using h
    exact ⟨x1, x2, x3, rfl⟩
  | j + 1, y, h => by
    obtain ⟨q, hq, hy⟩ := List.mem_flatMap.1 h
    obtain ⟨q1, q2, q3, q4⟩ := lv_in ht m x1 x2 x3 j q hq
    obtain ⟨hk, r, hr, rfl⟩ := (kids_mem ht q1 q2).1 hy
    obtain ⟨u1, u2⟩ := ht.used q q1 q2 hk r hr
    exact ⟨((ht.recs q q1 q2 hk).2.each r hr).lo, u1, u2, by rw [m.up q q1 q2 hk r hr, q4]; omega⟩
theorem lv_all (ht : TreeOk tn K D T) (m : RankT K T tn rk) : ∀ n x, 1 <= x -> x <= tn -> K x ≠ 0 -> rk x = n -> x ∈ lvT K T 1 n
  | 0, x, x1, x2, x3, hx => by
    by_cases e : x = 1
    · simp [lvT, e]
    · obtain ⟨q, q1, q2, hk, r, hr, rfl⟩ := m.all x x1 x2 x3 e
      have := m.up q q1 q2 hk r hr
      omega
  | n + 1, x, x1, x2, x3, hx => by
    have e : x ≠ 1 := fun e => by rw [e, m.root] at hx; omega
    obtain ⟨q, q1, q2, hk, r, hr, rfl⟩ := m.all x x1 x2 x3 e
    have hu := m.up q q1 q2 hk r hr
    exact List.mem_flatMap.2 ⟨q, lv_all ht m n q q1 q2 (by rw [hk]; decide) (by omega), (kids_mem ht q1 q2).2 ⟨hk, r, hr, rfl⟩⟩
theorem lv_nodup (ht : TreeOk tn K D T) (m : RankT K T tn rk) {x : Nat} (x1 : 1 <= x) (x2 : x <= tn) (x3 : K x ≠ 0) : ∀ j, (lvT K T x j).Nodup
  | 0 => by simp [lvT]
  | j + 1 => by
    refine List.pairwise_flatMap.2 ⟨fun q hq => ?_, List.Pairwise.imp_of_mem (fun {a b} ha hb hne y hy z hz e => ?_) (lv_nodup ht m x1 x2 x3 j)⟩
    · obtain ⟨q1, q2, -, -⟩ := lv_in ht m x1 x2 x3 j q hq
      by_cases hk : K q = 2
      · exact (kids_perm hk (ht.recs q q1 q2 hk).2.nodup).nodup_iff.2 (m.own q q1 q2 hk)
      · unfold kidsT
        rw [if_neg hk]
        exact List.Pairwise.nil
    · obtain ⟨a1, a2, -, -⟩ := lv_in ht m x1 x2 x3 j a ha
      obtain ⟨b1, b2, -, -⟩ := lv_in ht m x1 x2 x3 j b hb
      obtain ⟨ka, r, hr, rfl⟩ := (kids_mem ht a1 a2).1 hy
      obtain ⟨kb, r', hr', e'⟩ := (kids_mem ht b1 b2).1 hz
      exact hne (m.one a b a1 a2 ka b1 b2 kb r hr r' hr' (by rw [e', e]))
theorem lv_up {x j : Nat} (h : lvT K T x j = []) : lvT K T x (j + 1) = [] := by
  show (lvT K T x j).flatMap _ = []
  rw [h]
  rfl
theorem lv_ups {x j i : Nat} (h : lvT K T x j = []) (hi : j <= i) : lvT K T x i = [] := by
  obtain ⟨d, rfl⟩ : ∃ d, i = j + d := ⟨i - j, by omega⟩
  induction d with
  | zero => exact h
  | succ d ih => exact lv_up (ih (by omega))
theorem lv_last {x : Nat} : ∀ n, lvT K T x (n + 1) = [] -> ∃ J, J <= n /\ lvT K T x (J + 1) = [] /\ ∀ j, j <= J -> lvT K T x j ≠ []
  | 0, h => ⟨0, Nat.le_refl _, h, fun j hj => by obtain rfl : j = 0 := by omega
                                                 simp [lvT]⟩
  | n + 1, h => by
    by_cases e : lvT K T x (n + 1) = []
    · obtain ⟨J, h1, h2, h3⟩ := lv_last n e
      exact ⟨J, by omega, h2, h3⟩
    · exact ⟨n + 1, Nat.le_refl _, h, fun j hj e' => e (lv_ups e' hj)⟩
theorem lv_mem {x J y : Nat} : y ∈ ((List.range (J + 1)).map (lvT K T x)).flatten <-> ∃ j, j <= J /\ y ∈ lvT K T x j := by
  rw [List.mem_flatten]
  constructor
  · rintro ⟨l, hl, hx⟩
    obtain ⟨j, hj, rfl⟩ := List.mem_map.1 hl
    exact ⟨j, by have := List.mem_range.1 hj; omega, hx⟩
  · rintro ⟨j, hj, hx⟩
    exact ⟨_, List.mem_map.2 ⟨j, List.mem_range.2 (by omega), rfl⟩, hx⟩
theorem lvok_rank (ht : TreeOk tn K D T) (m : RankT K T tn rk) {x J : Nat} (x1 : 1 <= x) (x2 : x <= tn) (x3 : K x ≠ 0) (hnil : lvT K T x (J + 1) = []) (hne : ∀ j, j <= J -> lvT K T x j ≠ []) : LvOk K T tn x ((List.range (J + 1)).map (lvT K T x)) := by
  have hget : ∀ j, ((List.range (J + 1)).map (lvT K T x))[j]? = if j <= J then some (lvT K T x j) else none := fun j => by
    by_cases e : j <= J
    · rw [if_pos e, List.getElem?_map, List.getElem?_range (by omega)]
      rfl
    · rw [if_neg e]
      exact List.getElem?_eq_none (by simp; omega)
  refine ⟨by rw [hget, if_pos (Nat.zero_le _)]; rfl, fun j l hl => ?_, ?_, fun y hy => ?_⟩
  · rw [hget] at hl
    by_cases e : j <= J
    · rw [if_pos e] at hl
      obtain rfl := Option.some.inj hl
      refine ⟨hne j e, ?_⟩
      show lvT K T x (j + 1) = _
      rw [hget]
      by_cases e' : j + 1 <= J
      · rw [if_pos e']; rfl
      · rw [if_neg e']
        obtain rfl : j = J := by omega
        exact hnil
    · rw [if_neg e] at hl; cases hl
  · rw [<- List.flatMap_def]
    refine List.pairwise_flatMap.2 ⟨fun j _ => lv_nodup ht m x1 x2 x3 j, List.Pairwise.imp (fun {a b} hab y hy z hz e => ?_) (List.nodup_range (n := J + 1))⟩
    have h1 := (lv_in ht m x1 x2 x3 a y hy).2.2.2
    have h2 := (lv_in ht m x1 x2 x3 b z hz).2.2.2
    rw [e] at h1
    exact hab (by omega)
  · obtain ⟨j, hj, hy⟩ := lv_mem.1 hy
    have := lv_in ht m x1 x2 x3 j y hy
    exact ⟨this.1, this.2.1⟩
theorem sound_rank (ht : TreeOk tn K D T) (htn : 1 <= tn) (m : RankT K T tn rk) : ∃ lv, Sound K T tn lv := by
  have k1 : K 1 ≠ 0 := by rw [ht.root]; decide
  have h7 : lvT K T 1 (6 + 1) = [] := List.eq_nil_iff_forall_not_mem.2 fun x hx => by
    obtain ⟨x1, x2, x3, x4⟩ := lv_in ht m (Nat.le_refl _) htn k1 7 x hx
    have := m.few x x1 x2 x3
    have := m.root
    omega
  obtain ⟨J, hJ, hnil, hne⟩ := lv_last 6 h7
  refine ⟨(List.range (J + 1)).map (lvT K T 1), lvok_rank ht m (Nat.le_refl _) htn k1 hnil hne, by simp; omega, fun x x1 x2 x3 => ?_⟩
  have hx := lv_all ht m (rk x) x x1 x2 x3 rfl
  refine lv_mem.2 ⟨rk x, ?_, hx⟩
  rcases Nat.lt_or_ge J (rk x) with h | h
  · rw [lv_ups hnil h] at hx
    simp at hx
  · exact h
end
section
variable {fb rs hb : Nat} {E : TE} {w w' : World} {K : Nat -> Nat} {D : Nat -> List Int} {T : Nat -> List Rec} {f u lim : Nat}
end
section
variable {fb rs hb : Nat} {E : TE} {w w' : World} {K : Nat -> Nat} {D : Nat -> List Int} {T : Nat -> List Rec} {f u lim : Nat}
end
section
variable {fb rs hb : Nat} {E : TE} {w w' : World} {K : Nat -> Nat} {D : Nat -> List Int} {T : Nat -> List Rec} {f u lim : Nat}
end
section
variable {fb rs hb : Nat} {E : TE} {w w' : World} {K : Nat -> Nat} {D : Nat -> List Int} {T : Nat -> List Rec} {f u lim : Nat}
end
section
variable {fb rs hb : Nat} {E : TE} {w w' : World} {K : Nat -> Nat} {D : Nat -> List Int} {T : Nat -> List Rec} {f u lim : Nat}
end
section
variable {fb rs hb : Nat} {E : TE} {w w' : World} {K : Nat -> Nat} {D : Nat -> List Int} {T : Nat -> List Rec} {f u lim : Nat}
structure EnterT (K : Nat -> Nat) (T : Nat -> List Rec) (tn : Nat) (a b : List UInt8) (l l2 : List (List UInt8)) (s t : List UInt8) (p q i : Nat) (r : Rec) (lv : List (List Nat)) : Prop where
  la : a.length <= 2000
  lb : b.length <= 2000
  pa : splitB a = some (l ++ [s])
  pb : splitB b = some (l2 ++ [t])
  ne : a ≠ b
  out : withinB b a = false
  dir : dirT K T l = .ok p
  dir2 : dirT K T l2 = .ok q
  at_ : (T p)[i]? = some r
  name : r.s = s
  no : lookT (T q) t = none
  lvok : LvOk K T tn r.id lv
  fit : l2.length + 1 + lv.length <= 7
  few : (T q).length < 120
  oth : q ≠ p
  lne : l ≠ l2
end
section
variable {fb rs hb : Nat} {E : TE} {w w' : World} {K : Nat -> Nat} {D : Nat -> List Int} {T : Nat -> List Rec} {f u lim : Nat}
end
end Go.Proofs.YtleafmdjhmnjmaaGreatDoor
