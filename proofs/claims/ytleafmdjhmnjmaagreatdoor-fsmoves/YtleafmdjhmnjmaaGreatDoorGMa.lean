/- Drop of a name, over the state itself: what may be taken stays so. -/
import Derived.Test.YtleafmdjhmnjmaaGreatDoorGXd
import Derived.Test.YtleafmdjhmnjmaaGreatDoorGVk
import Derived.Test.YtleafmdjhmnjmaaGreatDoorGXf
import Derived.Test.YtleafmdjhmnjmaaGreatDoorGVg
import Derived.Deep.RegionHeld
import Derived.Test.YtleafmdjhmnjmaaGreatDoorGWg
import Derived.Test.YtleafmdjhmnjmaaGreatDoorGWa
import Derived.Test.YtleafmdjhmnjmaaGreatDoorGXi
namespace Go.Proofs.YtleafmdjhmnjmaaGreatDoor
open Go.RowKit Go.Extern.Stop Go.Stop Go.Extern Go.Maps Go.Sort Go.Shelf
set_option maxRecDepth 100000
section
variable {E : TE} {w w' : World} {K : Nat -> Nat} {D : Nat -> List Int} {f u lim : Nat} {p db : Nat}
theorem tcutU (h : S8 E K D f u lim w) (ok : E.Ok) (p1 : 1 <= p) (p2 : p <= E.tn) (hk : K p = 2) (hR : E.R p) (hW : E.W p) {S2 : Nat} (hS : S2 <= (D p).length) :
    Calls Tryz.prog 48 #[ptr E.tb, .int .i64 (p : Nat), .int .i64 S2] w fun e w' => e = .returned .nilIface /\ (∃ f', S8 E K (upd D p (cutL (D p) S2)) f' u lim w' /\ (f' : Int) + blk (S2 : Int) = (f : Int) + blk ((D p).length : Int)) /\ Apart [E.mb] w w' := by
  have hl := h.len p1 p2
  have hge : blk (S2 : Int) <= blk ((D p).length : Int) := blk_upD (by omega) (by omega) (by omega)
  by_cases hlt : S2 < (D p).length
  · obtain ⟨n, hn⟩ : ∃ n : Nat, blk ((D p).length : Int) - blk (S2 : Int) = (n : Int) := ⟨(blk ((D p).length : Int) - blk (S2 : Int)).toNat, by omega⟩
    refine (S8.cutless ok h p1 p2 hR hW (by rw [hk]; decide) hlt hn).mono ?_
    rintro e w' ⟨rfl, r1, r2⟩
    rw [<- cutL_less _ _ (by omega)] at r1
    exact ⟨rfl, ⟨_, r1, by omega⟩, r2⟩
  · obtain rfl : S2 = (D p).length := by omega
    refine (S8.cutmore ok h p1 p2 hR hW (by rw [hk]; decide) (n := 0) (Nat.le_refl _) hl (by unfold growb; omega) (Nat.zero_le _)).mono ?_
    rintro e w' ⟨rfl, r1, r2⟩
    rw [<- cutL_more _ _ (Nat.le_refl _)] at r1
    exact ⟨rfl, ⟨_, r1, by omega⟩, r2⟩
set_option maxHeartbeats 2000000 in
theorem dcutU (h : S8 E K D f u lim w) (ok : E.Ok) (p1 : 1 <= p) (p2 : p <= E.tn) (hk : K p = 2) (hR : E.R p) (hW : E.W p) (hd : DirAt E db p w) {n : Nat} (hn : 32 * n <= (D p).length) :
    Calls Tryz.prog 208 #[ptr db, .int .i64 n] w fun e w' => e = .returned .nilIface /\ (∃ f', S8 E K (upd D p (cutL (D p) (32 * n))) f' u lim w' /\ (f' : Int) + blk ((32 * n : Nat) : Int) = (f : Int) + blk ((D p).length : Int)) /\ Apart [E.mb] w w' := by
  have hBd := below_drew1 w
  have hd' := hd.below hBd
  have d0 := hd'.d0
  have d1 := hd'.d1
  have hlt := hd.lt
  have hn4 : 32 * n <= 4000 := Nat.le_trans hn (h.len p1 p2)
  have kC := tcutU (h.more hBd) ok p1 p2 hk hR hW hn
  rw [show ((32 * n : Nat) : Int) = (n : Int) * 32 by omega] at kC
  rw [show ((32 * n : Nat) : Int) = (n : Int) * 32 by omega]
  replace kC := hidden kC
  have hwm := wrap_inD ((n : Int) * 32) (by omega) (by omega)
  replace hBd := hidden hBd
  clear h hd hd'
  go_enter Tryz.func208, Tryz.ntmps208
  go_upto_region 1 with fail
  go_region_with (go_at_call 48; refine (kC.out).mono ?_; rintro ev w3 ⟨rfl, hD3, hA3⟩)
  all_goals
    have hE := hidden (And.intro hD3 ((Apart.of_below (bs := [E.mb]) hBd.out).trans hA3))
    clear hD3 hA3
    go_wp2
    go_ret
    exact ⟨rfl, hE.out⟩
set_option maxHeartbeats 2000000 in
theorem ddropU (h : S8 E K D f u lim w) (ok : E.Ok) {L : List Rec} (p1 : 1 <= p) (p2 : p <= E.tn) (hk : K p = 2) (hD : D p = recsL L) (hg : GoodL L) (hd : DirAt E db p w) {i : Nat} {r : Rec} (hr : L[i]? = some r) (hR : E.R p) (hW : E.W p) :
    Calls Tryz.prog 158 #[ptr db, .string (mkB r.s)] w fun e w' => e = .returned .nilIface /\ (∃ f', S8 E K (upd D p (recsL (dropR L i))) f' u lim w' /\ f' + bkL (dropR L i).length = f + bkL L.length) /\ Apart [E.mb] w w' := by
  have hi : i < L.length := (List.getElem?_eq_some_iff.1 hr).1
  have hrl := recsL_len hg.each
  have hL : 32 * L.length <= 4000 := by have := h.len p1 p2; rw [hD, hrl] at this; exact this
  have kF := hidden (dfind_at (h.dl hD hg hd) (eok ok p1 p2 hk _) hr)
  have hdm := hd.ne h
  obtain ⟨n, hn⟩ : ∃ n, L.length = n + 1 := ⟨L.length - 1, by omega⟩
  have hdl := dropR_len hi
  have e0 := bkL_eq L.length
  have e1 := bkL_eq n
  have hgd := hidden (hg.drop hi)
  have hEnd : ∀ (M : List Rec) (f' : Nat) (wx : World), M.length = L.length -> (∀ x ∈ M, x.Good) -> dropR L i = M.take n -> S8 E K (upd (upd D p (recsL M)) p (cutL (upd D p (recsL M) p) (32 * n))) f' u lim wx -> (f' : Int) + blk ((32 * n : Nat) : Int) = (f : Int) + blk ((upd D p (recsL M) p).length : Int) -> ∃ f', S8 E K (upd D p (recsL (dropR L i))) f' u lim wx /\ f' + bkL (dropR L i).length = f + bkL L.length := fun M f' wx hM hMg hdr hS hf => by
    rw [upd_same, upd_upd, recs_cut hMg n (by omega), <- hdr] at hS
    rw [upd_same, recsL_len hMg, hM] at hf
    refine ⟨f', hS, ?_⟩
    rw [hdl, hn, show n + 1 - 1 = n by omega]
    rw [hn] at e0 hf
    omega
  have hX := hidden (And.intro h (And.intro ok (And.intro hg hd)))
  have hRW := hidden (And.intro hR hW)
  replace hEnd := hidden hEnd
  replace hDh := hidden hD
  replace hdl := hidden hdl
  replace e0 := hidden e0
  replace e1 := hidden e1
  replace hrl := hidden hrl
  clear h ok hg hd hR hW hD
  go_enter Tryz.func158, Tryz.ntmps158
  go_wp2_with fail
  refine (kF.out).mono ?_
  rintro ev w2 ⟨v, rfl, hO, hB⟩
  obtain ⟨la, lc, rfl⟩ := hO.form
  have hO' := hidden hO
  have hX2 := hidden (And.intro (hX.out.1.more hB) (hX.out.2.2.2.below hB))
  have hBh := hidden hB
  clear hB kF
  have hsub : ((L.length : Nat) : Int) - 1 = (n : Int) := by omega
  by_cases hlast : i = n
  · have hdr : dropR L i = L.take n := by
      have := dropR_last (L := L) (by omega)
      rw [hn, show n + 1 - 1 = n by omega] at this
      rw [hlast]
      exact this
    have hS2 : S8 E K (upd D p (recsL L)) f u lim w2 := by
      have := hX2.out.1
      rw [<- upd_self D p, hDh.out] at this
      exact this
    have kC := hidden (dcutU hS2 hX.out.2.1 p1 p2 hk hRW.out.1 hRW.out.2 hX2.out.2 (n := n) (by rw [upd_same, hrl.out]; omega))
    replace hdr := hidden hdr
    have hii : (i : Int) = (n : Int) := by omega
    clear hO hS2
    go_wp2_with fail
    refine (kC.out).mono ?_
    rintro ev w4 ⟨rfl, ⟨f', hS4, hf4⟩, hA⟩
    have hZ := hidden (And.intro (hEnd.out L f' w4 rfl hX.out.2.2.1.each hdr.out hS4 hf4) (show Apart [E.mb] w w4 from (Apart.of_below (bs := [E.mb]) hBh.out).trans hA))
    clear hS4 hf4 hA kC
    go_wp2
    go_ret
    exact ⟨rfl, hZ.out⟩
  · obtain ⟨q, hq⟩ : ∃ q, L[n]? = some q := ⟨_, List.getElem?_eq_getElem (by omega)⟩
    have hqg := hX.out.2.2.1.each q (List.mem_of_getElem? hq)
    have hDL2 := hX2.out.1.dl hDh.out hX.out.2.2.1 hX2.out.2
    have kL := lay_calls (S2 := 32 * L.length) hDL2.b (eok hX.out.2.1 p1 p2 hk _) ⟨hRW.out.1, hRW.out.2⟩ i q hqg (by omega) (by rw [hrl.out]; omega) (Or.inl (by rw [hrl.out]))
    rw [recs_set hX.out.2.2.1.each hqg.len i hi] at kL
    replace kL := hidden kL
    obtain ⟨a', c', hv, hcs⟩ := hO.at
    obtain ⟨rfl, -, rfl⟩ := Value.slice.inj hv
    obtain ⟨bb, off, rfl, hbb, hcell⟩ := hcs (by intro e; rw [e] at hi; simp at hi)
    obtain ⟨c0, c1⟩ := hcell n q hq
    have hdr : dropR L i = (L.set i q).take n := by
      have := dropR_get (i := i) (show L[L.length - 1]? = some q by rw [hn]; exact hq)
      rw [hn, show n + 1 - 1 = n by omega] at this
      exact this
    replace hdr := hidden hdr
    have hii : ¬ (i : Int) = (n : Int) := by omega
    have hnl : (n : Int) < (L.length : Int) := by omega
    have hqg' := hidden hqg
    clear hO hv hcs hcell hqg hDL2
    go_wp2_with fail
    refine (kL.out).mono ?_
    rintro ev w4 ⟨rfl, hD4, hA⟩
    have hset : ∀ x ∈ L.set i q, x.Good := fun x hx => by
      rcases List.mem_or_eq_of_mem_set hx with hx | rfl
      · exact hX.out.2.2.1.each x hx
      · exact hqg'.out
    obtain ⟨f4, u4, s1, s2, s3⟩ := hD4.s
    rw [recsL_len hset, List.length_set] at s2 s3
    have s3' : (bkL L.length : Int) + (u : Int) <= (u4 : Int) + blk ((32 * L.length : Nat) : Int) := s3 (Int.le_of_eq e0.out)
    have s2' : (f4 : Int) + blk ((32 * L.length : Nat) : Int) = ((f + bkL L.length : Nat) : Int) := s2
    have hf4 : f4 = f := by have := e0.out; omega
    have s1' : S8 E K (upd D p (recsL (L.set i q))) f u lim w4 := by
      rw [hf4] at s1
      exact S8.low s1 (by have := e0.out; omega)
    have hA4' : Apart [E.mb] w2 w4 := hA
    have kC := hidden (dcutU s1' hX.out.2.1 p1 p2 hk hRW.out.1 hRW.out.2 (hX2.out.2.keep hA4' (by simpa using hdm)) (n := n) (by rw [upd_same, recsL_len hset, List.length_set]; omega))
    have hA4 := hidden ((Apart.of_below (bs := [E.mb]) hBh.out).trans hA4')
    replace hset := hidden hset
    clear hD4 hA kL hA4' s1 s2 s3 s2' s3' s1' hf4
    go_wp2_with fail
    refine (kC.out).mono ?_
    rintro ev w5 ⟨rfl, ⟨f', hS5, hf5⟩, hA⟩
    have hZ := hidden (And.intro (hEnd.out (L.set i q) f' w5 List.length_set hset.out hdr.out hS5 hf5) (hA4.out.trans hA))
    clear hS5 hf5 hA kC
    go_wp2
    go_ret
    exact ⟨rfl, hZ.out⟩
set_option maxHeartbeats 1000000 in
theorem dDropU (h : S8 E K D f u lim w) (ok : E.Ok) {L : List Rec} (p1 : 1 <= p) (p2 : p <= E.tn) (hk : K p = 2) (hD : D p = recsL L) (hg : GoodL L) (hd : DirAt E db p w) {i : Nat} {r : Rec} (hr : L[i]? = some r) (hR : E.R p) (hW : E.W p) :
    Calls Tryz.prog 111 #[ptr db, .string (mkB r.s)] w fun e w' => e = .returned .nilIface /\ (∃ f', S8 E K (upd D p (recsL (dropR L i))) f' u lim w' /\ f' + bkL (dropR L i).length = f + bkL L.length) /\ Apart [E.mb] w w' := by
  have kF := hidden (ddropU h ok p1 p2 hk hD hg hd hr hR hW)
  have kW := hidden (fun (wx : World) => dwrong_nil (mkB r.s) wx)
  clear h ok hg hd hR hW hD
  go_enter Tryz.func111, Tryz.ntmps111
  go_wp2_with fail
  refine (kF.out).mono ?_
  rintro ev w2 ⟨rfl, hD, hA⟩
  have hE := hidden (And.intro hD hA)
  clear hD hA kF
  go_wp2_with fail
  refine (kW.out _).mono ?_
  rintro ev w3 ⟨rfl, rfl⟩
  go_wp2
  go_ret
  exact ⟨rfl, hE.out⟩
end
set_option maxRecDepth 1000000
section
variable {fb rs hb : Nat} {E : TE} {w w' : World} {K : Nat -> Nat} {D : Nat -> List Int} {T : Nat -> List Rec} {f u lim : Nat}
structure DpS (fb nb : Nat) (E : TE) (id : Int) (w : World) : Prop where
  t : w.cell? ⟨fb, 2, none⟩ = some (ptr E.tb)
  n : w.cell? ⟨nb, 0, none⟩ = some (.int .i64 id)
theorem DpS.keep {nb : Nat} {id : Int} {bs : List Nat} (h : DpS fb nb E id w) (ha : Apart bs w w') (h1 : fb ∉ bs) (h2 : nb ∉ bs) : DpS fb nb E id w' := ⟨(ha.cell (p := ⟨fb, 2, none⟩) (lt_of_cell (a := ⟨fb, 2, none⟩) h.t) h1).trans h.t, (ha.cell (p := ⟨nb, 0, none⟩) (lt_of_cell (a := ⟨nb, 0, none⟩) h.n) h2).trans h.n⟩
end
set_option maxRecDepth 100000
structure KBox (b0 b1 b2 b3 fb : Nat) (up : Value) (s : List UInt8) (kind : Nat) (w : World) : Prop where
  c0 : w.cell? ⟨b0, 0, none⟩ = some (ptr fb)
  c1 : w.cell? ⟨b1, 0, none⟩ = some up
  c2 : w.cell? ⟨b2, 0, none⟩ = some (.string (mkB s))
  c3 : w.cell? ⟨b3, 0, none⟩ = some (.int .i64 (kind : Nat))
theorem KBox.below {b0 b1 b2 b3 fb : Nat} {up : Value} {s : List UInt8} {kind : Nat} {w w' : World} (h : KBox b0 b1 b2 b3 fb up s kind w) (hb : Below w.heap.size w w') : KBox b0 b1 b2 b3 fb up s kind w' :=
  have k : ∀ b v, w.cell? ⟨b, 0, none⟩ = some v -> w'.cell? ⟨b, 0, none⟩ = some v := fun b _ hc => (hb.cell (p := ⟨b, 0, none⟩) (lt_of_cell (a := ⟨b, 0, none⟩) hc)).trans hc
  ⟨k _ _ h.c0, k _ _ h.c1, k _ _ h.c2, k _ _ h.c3⟩
section
variable {fb rs hb : Nat} {E : TE} {w w' : World} {K : Nat -> Nat} {D : Nat -> List Int} {T : Nat -> List Rec} {f u lim : Nat}
set_option maxHeartbeats 2000000 in
theorem create1_new {b0 b1 b2 b3 : Nat} {v : Value} {s : List UInt8} {kind : Nat} (hB : KBox b0 b1 b2 b3 fb v s kind w) (hF : FsAt fb E rs hb w) (h : S8 E K D f u lim w) (ok : E.Ok) (hkk : E.kk = E.k) (ht : TreeOk E.tn K D T) (htn : 1 <= E.tn) {l : List (List UInt8)} (hv : TxtsAt w v l) (hll : l.length <= 1000) (hok : ∀ s ∈ l, okB s = true) {p : Nat} (hp : dirT K T l = .ok p) (hs : okB s = true) (hno : lookT (T p) s = none) (hl : (T p).length < 120)
    (hkind : kind = 1 \/ kind = 2) (id : Nat) (h1 : 1 <= id) (h2 : id <= E.tn) (hfree : K id = 0) (hlow : ∀ i, 1 <= i -> i < id -> K i ≠ 0) (hR : E.R id) (hRp : E.R p) (hWp : E.W p) (gn : Nat) (hgn : growb ((32 * (T p).length : Nat) : Int) ((32 * ((T p).length + 1) : Nat) : Int) = (gn : Int)) (hgu : gn <= u) (hmay : mayB (f : Int) (rs : Int) ((gn : Int) + growb 0 ((0 : Nat) : Int)) false = true) :
    Calls Tryz.prog 42 #[ptr b0, ptr b1, ptr b2, ptr b3] w fun e w' => e = .returned .nilIface /\ (∃ f' u', S8 E (upd K id kind) (upd D p (recsL (T p ++ [⟨s, id⟩]))) f' u' lim w' /\ f' + gn = f /\ u <= u' + gn) /\ Apart [E.mb] w w' := by
  have kDa := hidden (dirAt_calls hF h ok ht htn hv hll hok)
  have kCh := hidden (fun (wx : World) (db : Nat) (p1 : 1 <= p) (p2 : p <= E.tn) (hk : K p = 2) (hx : Below w.heap.size w wx) (hd : DirAt E db p wx) => child_none (fb := fb) (h.more hx) ok p1 p2 hk (ht.recs p p1 p2 hk).1 (ht.recs p p1 p2 hk).2 hd s hs (lookT_none hno))
  have kAd := hidden (fun (wx : World) (db : Nat) (p1 : 1 <= p) (p2 : p <= E.tn) (hk : K p = 2) (hx : Below w.heap.size w wx) (hd : DirAt E db p wx) => add_ok (hF.below hx) (h.more hx) ok hkk p1 p2 hk (ht.recs p p1 p2 hk).1 (ht.recs p p1 p2 hk).2 hd s hs (lookT_none hno) hl kind hkind id h1 h2 hfree hlow hR hRp hWp 0 false gn hgn hgu hmay)
  have c0 := hB.c0
  have c1 := hB.c1
  have hBk := hidden hB
  obtain ⟨a, cap, rfl, -⟩ := hv
  replace hp := hidden hp
  clear hF h ok ht hok hgn hmay hfree hlow hgu hno hB
  generalize l.length = LL at *
  go_enter Tryz.func42, Tryz.ntmps42
  go_wp2_with fail
  refine (kDa.out).mono ?_
  rintro ev w1 ⟨(⟨q, db, hq, rfl, hd1, hdb, q1, q2, q3⟩ | ⟨m, bk, nm, hq, -⟩), hB1⟩
  rotate_left
  · rw [hp.out] at hq; cases hq
  obtain rfl : p = q := by rw [hp.out] at hq; exact Except.ok.inj hq
  have kC1 := hidden (kCh.out w1 db q1 q2 q3 hB1 hd1)
  have hA1 := hidden (And.intro hB1 hd1)
  clear c0 c1
  have d0 := (hBk.out.below hB1).c0
  have d2 := (hBk.out.below hB1).c2
  clear kDa kCh hB1 hd1 hq
  go_wp2_with fail
  refine (kC1.out).mono ?_
  rintro ev w3 ⟨bk, rfl, hc, hB3⟩
  have kI := is_chain 11 11 w3 _ _ hc
  have hb3 : Below w.heap.size w w3 := hA1.out.1.trans (hB3.mono hA1.out.1.size)
  have hd3 : DirAt E db p w3 := hA1.out.2.below hB3
  have kA3 := hidden (kAd.out w3 db q1 q2 q3 hb3 hd3)
  obtain ⟨e0, e1, e2, e3⟩ := hBk.out.below hb3
  replace kI := hidden kI
  replace hb3 := hidden hb3
  clear hc hB3 kC1 kAd hd3 hA1 d0 d2
  go_wp2_with fail
  refine (kI.out).mono ?_
  rintro ev w4 ⟨rfl, hw4⟩
  subst w4
  dsimp only [Int.reduceBEq]
  go_wp2_with fail
  refine (kA3.out).mono ?_
  rintro ev w5 ⟨rfl, hS5, hA5⟩
  have hE := hidden (And.intro hS5 ((Apart.of_below (bs := [E.mb]) hb3.out).trans hA5))
  clear hS5 hA5 kA3 e0 e1 e2 e3
  go_wp2
  go_ret
  exact ⟨rfl, hE.out⟩
end
theorem ent_create1 : ∀ (args : Array Value) (w : World), (callFunc 42 args).run Tryz.prog w = .ok (.enter 42 args) w := enters_of Tryz.func42 (by kernel_rfl) rfl
section
variable {fb rs hb : Nat} {E : TE} {w w' : World} {K : Nat -> Nat} {D : Nat -> List Int} {T : Nat -> List Rec} {f u lim : Nat}
theorem boxes_two (w : World) (p q : Value) (tp tq : TypeId) : ∃ w2, (w.alloc (Obj.cells #[p] tp)).alloc (Obj.cells #[q] tq) = w2 /\ Below w.heap.size w w2 /\ w2.cell? ⟨w.heap.size, 0, none⟩ = some p /\ w2.cell? ⟨w.heap.size + 1, 0, none⟩ = some q := by
  generalize e1 : w.alloc (Obj.cells #[p] tp) = W1
  have a1 : W1.cell? ⟨w.heap.size, 0, none⟩ = some p := by rw [<- e1]; simp
  have s1 : W1.heap.size = w.heap.size + 1 := by rw [<- e1]; simp
  have b1 : Below w.heap.size w W1 := by rw [<- e1]; exact (Below.refl _ _).alloc (Nat.le_refl _) _
  have hBx : Below W1.heap.size W1 (W1.alloc (Obj.cells #[q] tq)) := (Below.refl _ _).alloc (Nat.le_refl _) _
  exact ⟨_, rfl, b1.trans (hBx.mono b1.size), (hBx.cell (p := ⟨w.heap.size, 0, none⟩) (lt_of_cell a1)).trans a1, by rw [<- s1]; simp⟩
set_option maxHeartbeats 2000000 in
theorem create_via {path s : List UInt8} {l : List (List UInt8)} {kind : Nat} {Q : Value -> World -> Prop} (hlen : path.length <= 2000) (hp : splitB path = some (l ++ [s]))
    (kS : ∀ (wx : World) (b0 b1 b2 b3 : Nat) (up : Value), Below w.heap.size w wx -> KBox b0 b1 b2 b3 fb up s kind wx -> TxtsAt wx up l -> Calls Tryz.prog 41 #[ptr fb, .func (.func 42) #[] #[ptr b0, ptr b1, ptr b2, ptr b3]] wx fun e w' => ∃ ev, e = .returned ev /\ Q ev w') :
    Calls Tryz.prog 26 #[ptr fb, .string (mkB path), .int .i64 (kind : Nat)] w fun e w' => ∃ ev, e = .returned ev /\ Q ev w' := by
  have hmf : ∀ (fn : Fn) (first cap : Array Value) (w : World), (Instr.makeFunc fn first cap).run Tryz.prog w = .ok (.func fn first cap) w := fun _ _ _ _ => rfl
  obtain ⟨w3, hw3, hB3, g0, g3⟩ := boxes_two w (ptr fb) (.int .i64 (kind : Nat)) 27 3
  have kA := hidden (apart_ok path hlen hp 12 w3)
  replace kS := hidden kS
  replace hB3 := hidden hB3
  replace hw3 := hidden hw3
  go_enter Tryz.func26, Tryz.ntmps26
  go_upto_region 1 with fail
  rw [hw3.out]
  clear hw3
  go_wp2_with fail
  refine (kA.out).mono ?_
  rintro ev w4 ⟨up, rfl, hT, hB4⟩
  have hT4 := hT
  obtain ⟨ua, uc, rfl, -⟩ := hT
  have k0 := (hB4.cell (p := ⟨w.heap.size, 0, none⟩) (lt_of_cell (a := ⟨w.heap.size, 0, none⟩) g0)).trans g0
  have k3 := (hB4.cell (p := ⟨w.heap.size + 1, 0, none⟩) (lt_of_cell (a := ⟨w.heap.size + 1, 0, none⟩) g3)).trans g3
  obtain ⟨w6, hw6, hB6, n1, n2⟩ := boxes_two w4 (.slice ua l.length uc) (.string (mkB s)) 47 9
  have m0 := (hB6.cell (p := ⟨w.heap.size, 0, none⟩) (lt_of_cell (a := ⟨w.heap.size, 0, none⟩) k0)).trans k0
  have m3 := (hB6.cell (p := ⟨w.heap.size + 1, 0, none⟩) (lt_of_cell (a := ⟨w.heap.size + 1, 0, none⟩) k3)).trans k3
  have hb6 : Below w.heap.size w w6 := hB3.out.trans ((hB4.trans (hB6.mono hB4.size)).mono hB3.out.size)
  have kS6 := hidden (kS.out w6 w.heap.size w4.heap.size (w4.heap.size + 1) (w.heap.size + 1) _ hb6 ⟨m0, n1, n2, m3⟩ (hT4.below hB6))
  replace hw6 := hidden hw6
  clear hT4 hB4 hB6 hb6 kS kA g0 g3 k0 k3 hB3
  generalize l.length = LL at *
  go_upto_region 2 with fail
  rw [hw6.out]
  clear hw6
  go_wp2_with fail
  refine (kS6.out).mono ?_
  rintro ev w7 ⟨er, rfl, hQ⟩
  replace hQ := hidden hQ
  go_wp2
  go_ret
  exact ⟨er, rfl, hQ.out⟩
end
section
variable {fb rs hb : Nat} {E : TE} {w w' : World} {K : Nat -> Nat} {D : Nat -> List Int} {T : Nat -> List Rec} {f u lim : Nat}
theorem TreeOk.addK {tn p id kind : Nat} {s : List UInt8} (ht : TreeOk tn K D T) (p1 : 1 <= p) (p2 : p <= tn) (hk : K p = 2) (h2 : id <= tn) (hid : K id = 0) (hkind : kind = 1 \/ kind = 2) (hD0 : D id = []) (hT0 : kind = 2 -> T id = []) (hs : okB s = true) (h1 : 1 <= id) (htn : tn <= 200) (hno : lookT (T p) s = none) :
    TreeOk tn (upd K id kind) (upd D p (recsL (T p ++ [⟨s, id⟩]))) (upd T p (T p ++ [⟨s, id⟩])) := by
  have hpi : p ≠ id := by rintro rfl; omega
  have h1i : (1 : Nat) ≠ id := by rintro rfl; have := ht.root; omega
  obtain ⟨hD, hG⟩ := ht.recs p p1 p2 hk
  refine ⟨by rw [upd_other _ _ h1i]; exact ht.root, fun q q1 q2 hq => ?_, fun q q1 q2 hq r hr => ?_⟩
  · by_cases hqi : q = id
    · subst hqi
      rw [upd_same] at hq
      rw [upd_other _ _ (Ne.symm hpi), upd_other _ _ (Ne.symm hpi), hD0, hT0 hq]
      exact ⟨rfl, ⟨fun r hr => (by cases hr), List.nodup_nil⟩⟩
    · rw [upd_other _ _ hqi] at hq
      by_cases hqp : q = p
      · subst hqp
        rw [upd_same, upd_same]
        exact ⟨rfl, hG.put ⟨hs, h1, by show id < _; omega⟩ (lookT_none hno)⟩
      · rw [upd_other _ _ hqp, upd_other _ _ hqp]
        exact ht.recs q q1 q2 hq
  · have old : ∀ x : Rec, x.id <= tn -> K x.id ≠ 0 -> x.id <= tn /\ upd K id kind x.id ≠ 0 := fun x h h' => ⟨h, by rw [upd_other _ _ (by rintro e; rw [e] at h'; exact h' hid)]; exact h'⟩
    by_cases hqi : q = id
    · subst hqi
      rw [upd_same] at hq
      rw [upd_other _ _ (Ne.symm hpi), hT0 hq] at hr
      cases hr
    · rw [upd_other _ _ hqi] at hq
      by_cases hqp : q = p
      · subst hqp
        rw [upd_same] at hr
        rcases List.mem_append.1 hr with hr | hr
        · have := ht.used q q1 q2 hq r hr
          exact old r this.1 this.2
        · obtain rfl := List.mem_singleton.1 hr
          exact ⟨h2, by show upd K id kind id ≠ 0; rw [upd_same]; omega⟩
      · rw [upd_other _ _ hqp] at hr
        have := ht.used q q1 q2 hq r hr
        exact old r this.1 this.2
set_option maxHeartbeats 2000000 in
theorem create_new (h : Fsz fb rs hb E K D T f lim w) {path s : List UInt8} {l : List (List UInt8)} {kind : Nat} (hlen : path.length <= 2000) (hp : splitB path = some (l ++ [s])) {p : Nat} (hd : dirT K T l = .ok p) (hno : lookT (T p) s = none) (hl : (T p).length < 120) (hkind : kind = 1 \/ kind = 2) {id : Nat} (h1 : 1 <= id) (h2 : id <= E.tn) (hfree : K id = 0) (hT0 : kind = 2 -> T id = []) (hlow : ∀ i, 1 <= i -> i < id -> K i ≠ 0) {gn : Nat} (hgn : growb ((32 * (T p).length : Nat) : Int) ((32 * ((T p).length + 1) : Nat) : Int) = (gn : Int)) (hmay : mayB (f : Int) (rs : Int) ((gn : Int) + growb 0 ((0 : Nat) : Int)) false = true) (hlim : lim <= 300000000) :
    Calls Tryz.prog 26 #[ptr fb, .string (mkB path), .int .i64 (kind : Nat)] w fun e w' => e = .returned .nilIface /\ (∃ f', f' + gn = f /\ Fsz fb rs hb E.rest (upd K id kind) (upd D p (recsL (T p ++ [⟨s, id⟩]))) (upd T p (T p ++ [⟨s, id⟩])) f' (lim + 1000) w') /\ E.Turns fb w w' := by
  have hpl := h.pl
  have htn1 := hpl.tn1
  obtain ⟨p1, p2, hk⟩ := dirT_in h.tree htn1 hd
  obtain ⟨hDp, hGp⟩ := h.tree.recs p p1 p2 hk
  have hD0 : D id = [] := h.s.to.noBytes h1 h2 hfree
  have hpi : p ≠ id := by rintro rfl; omega
  have hmp := may_all (split_may hp)
  have hl6 : l.length <= 6 := by have := hmp.1; rw [List.length_append] at this; omega
  have hlok : ∀ x ∈ l, okB x = true := fun x hx => hmp.2 x (List.mem_append.2 (Or.inl hx))
  have hsok : okB s = true := hmp.2 s (by simp)
  have e0z : growb 0 ((0 : Nat) : Int) = 0 := by simp [growb, blk]
  have hc : gn <= f := by
    rw [e0z] at hmay
    unfold mayB at hmay
    simp only [Bool.or_eq_true, Bool.and_eq_true, decide_eq_true_eq] at hmay
    omega
  have hrl : (D p).length = 32 * (T p).length := by rw [hDp, recsL_len hGp.each]
  have hsum : sumL D [p, id] = bkL (T p).length := by
    show (blk ((D p).length : Int)).toNat + ((blk ((D id).length : Int)).toNat + 0) = _
    rw [hrl, hD0]
    show bkL (T p).length + _ = _
    simp [blk]
  have hbound : bkL (T p).length + gn <= 31 := by
    have e0 := bkL_eq (T p).length
    have e1 := bkL_eq ((T p).length + 1)
    have e2 := bkL_le (n := (T p).length + 1) (by omega)
    have hup : blk ((32 * (T p).length : Nat) : Int) <= blk ((32 * ((T p).length + 1) : Nat) : Int) := blk_upD (by omega) (by omega) (by omega)
    unfold growb at hgn
    omega
  obtain ⟨A, U, ku, ok', -, hS'⟩ := h.s.re hpl [p, id] [p, id] (fun x hx => by simp at hx; rcases hx with rfl | rfl <;> omega) (fun x hx => by simp at hx; rcases hx with rfl | rfl <;> omega) gn hc (by rw [hsum]; show 2 + 2 + _ + _ <= 87; omega)
  have hfar := h.far
  have hkk : E.kk = E.k := hpl.kk.symm
  refine (create_via (Q := fun ev w' => ev = .nilIface /\ (∃ f', f' + gn = f /\ Fsz fb rs hb E.rest (upd K id kind) (upd D p (recsL (T p ++ [⟨s, id⟩]))) (upd T p (T p ++ [⟨s, id⟩])) f' (lim + 1000) w') /\ E.Turns fb w w') hlen hp (fun wx b0 b1 b2 b3 up hx hbx hTx => ?_)).mono (fun e w' ⟨ev, h1, h2, h3⟩ => ⟨by rw [h1, h2], h3⟩)
  have hF' : FsAt fb (E.at A U (· ∈ [p, id]) (· ∈ [p, id]) ku) rs hb wx := (h.at_.below hx).at _ _ _ _ _
  have hSx := (hS'.more hx).to
  have kC := create1_new hbx hF' hSx ok' hkk h.tree htn1 hTx (by omega) hlok hd hsok hno hl hkind id h1 h2 hfree hlow (show id ∈ [p, id] by simp) (show p ∈ [p, id] by simp) (show p ∈ [p, id] by simp) gn hgn (Nat.le_refl _) hmay
  refine (step_ok (P := fun w1 => Apart [E.mb] wx w1) (K := upd K id kind) (D := upd D p (recsL (T p ++ [⟨s, id⟩]))) (f := f - gn) (u := 0) (lim := lim) ent_create1 hF' hfar ok' hpl.far hpl.live (by show 1 <= E.most /\ E.most <= 200; rw [hpl.most]; omega) hlim (kC.mono ?_)).mono ?_
  · rintro e w1 ⟨rfl, ⟨f1, u1, r1, r2, r3⟩, hA⟩
    have hf2 : f1 = f - gn := by omega
    rw [hf2] at r1
    exact ⟨rfl, hA, hF'.keep hA (fun hm => hfar.1 (List.mem_singleton.1 hm)), r1.low (Nat.zero_le _)⟩
  · rintro e w2 ⟨rfl, w1, hA1, hF2, hS2, hA2⟩
    refine ⟨_, rfl, rfl, ⟨f - gn, by omega, ⟨⟨hF2.c0, hF2.c1, hF2.c2, hF2.c3, hF2.c4, hF2.c5, hF2.c6, hF2.c7, hF2.f7⟩, hS2.rest, hpl.at _ _ _ _ _, hfar, h.tree.addK p1 p2 hk h2 hfree hkind hD0 hT0 hsok h1 hpl.tn hno⟩⟩, ?_⟩
    exact turns_of hx hA1 hA2
end
def sMkdir : ByteArray := ⟨#[109, 107, 100, 105, 114]⟩
set_option maxHeartbeats 1000000 in
theorem fMkdir_ok {fb : Nat} {w : World} {path : List UInt8} {Q : World -> Prop} (k : Calls Tryz.prog 26 #[ptr fb, .string (mkB path), .int .i64 ((2 : Nat) : Int)] w fun e w' => e = .returned .nilIface /\ Q w') :
    Calls Tryz.prog 6 #[ptr fb, .string (mkB path)] w fun e w' => e = .returned .nilIface /\ Q w' := by
  replace k := hidden k
  have kW := hidden (fun (wx : World) => wrap_nil sMkdir (mkB path) wx)
  unfold sMkdir at kW
  go_enter Tryz.func6, Tryz.ntmps6
  go_wp2_with fail
  refine (k.out).mono ?_
  rintro ev w1 ⟨rfl, hQ⟩
  replace hQ := hidden hQ
  go_wp2_with fail
  refine (kW.out _).mono ?_
  rintro ev w2 ⟨rfl, hw2⟩
  subst w2
  go_wp2
  go_ret
  exact ⟨rfl, hQ.out⟩
structure MBox (b0 b1 b2 b3 fb : Nat) (up : Value) (s : List UInt8) (w : World) : Prop where
  c0 : w.cell? ⟨b0, 0, none⟩ = some (ptr fb)
  c1 : w.cell? ⟨b1, 0, none⟩ = some up
  c2 : w.cell? ⟨b2, 0, none⟩ = some (.string (mkB s))
  n : FnAt w b3 0 0
section
variable {fb rs hb : Nat} {E : TE} {w w' : World} {K : Nat -> Nat} {D : Nat -> List Int} {T : Nat -> List Rec} {f u lim : Nat}
theorem MBox.below {b0 b1 b2 b3 : Nat} {up : Value} {s : List UInt8} (h : MBox b0 b1 b2 b3 fb up s w) (hb : Below w.heap.size w w') : MBox b0 b1 b2 b3 fb up s w' :=
  have k : ∀ b v, w.cell? ⟨b, 0, none⟩ = some v -> w'.cell? ⟨b, 0, none⟩ = some v := fun b _ hc => (hb.cell (p := ⟨b, 0, none⟩) (lt_of_cell (a := ⟨b, 0, none⟩) hc)).trans hc
  ⟨k _ _ h.c0, k _ _ h.c1, k _ _ h.c2, h.n.below hb⟩
end
section
variable {fb rs hb : Nat} {E : TE} {w w' : World} {K : Nat -> Nat} {D : Nat -> List Int} {T : Nat -> List Rec} {f u lim : Nat}
theorem dropR_mem {L : List Rec} {i : Nat} (hi : i < L.length) : ∀ x ∈ dropR L i, x ∈ L := by
  intro x hx
  have hlast : L[L.length - 1]? = some (L[L.length - 1]'(by omega)) := List.getElem?_eq_getElem (by omega)
  rw [dropR_get hlast] at hx
  rcases List.mem_or_eq_of_mem_set (List.mem_of_mem_take hx) with h | h
  · exact h
  · rw [h]; exact List.getElem_mem _
end
section
variable {fb rs hb : Nat} {E : TE} {w w' : World} {K : Nat -> Nat} {D : Nat -> List Int} {T : Nat -> List Rec} {f u lim : Nat}
end
section
variable {fb rs hb : Nat} {E : TE} {w w' : World} {K : Nat -> Nat} {D : Nat -> List Int} {T : Nat -> List Rec} {f u lim : Nat}
end
def nmP (c : UInt8) (i : Nat) : List UInt8 := c :: Lib.itoa (i : Int)
def valD (l : List UInt8) : Nat := l.foldl (fun a c => a * 10 + (c.toNat - 48)) 0
theorem val_fin : ∀ i : Fin 128, valD (Lib.itoa ((i.val : Nat) : Int)) = i.val := by decide +kernel
theorem ok_fin : ∀ i : Fin 128, okB (nmP 120 i.val) = true /\ okB (nmP 102 i.val) = true /\ okB (nmP 107 i.val) = true := by decide +kernel
theorem size_fin : ∀ i : Fin 128, (Lib.itoa ((i.val : Nat) : Int)).length <= 20 := by decide +kernel
theorem nm_inj {c : UInt8} {i j : Nat} (hi : i < 128) (hj : j < 128) (h : nmP c i = nmP c j) : i = j := by
  have h2 := congrArg valD (List.cons.inj h).2
  rw [val_fin ⟨i, hi⟩, val_fin ⟨j, hj⟩] at h2
  exact h2
theorem nm_size {i : Nat} (hi : i < 128) : (itoaB (i : Int)).size <= 20 := by
  have := size_fin ⟨i, hi⟩
  simpa [itoaB, ByteArray.size] using this
theorem lookN {L : List Rec} {s : List UInt8} (h : ∀ r ∈ L, r.s ≠ s) : lookT L s = none := List.find?_eq_none.2 fun r hr => by simpa using h r hr
theorem bkL_one (n : Nat) (hn : n <= 124) : bkL n <= bkL (n + 1) /\ bkL (n + 1) <= bkL n + 2 /\ bkL n <= 33 := by
  have e1 := bkL_eq n
  have e2 := bkL_eq (n + 1)
  unfold blk at e1 e2
  split at e1 <;> split at e2 <;> (try split at e1) <;> (try split at e2) <;> (try split at e1) <;> (try split at e2) <;> omega
theorem grow_bk (n : Nat) (hn : n <= 123) : growb ((32 * n : Nat) : Int) ((32 * (n + 1) : Nat) : Int) = ((bkL (n + 1) - bkL n : Nat) : Int) := by
  have e1 := bkL_eq n
  have e2 := bkL_eq (n + 1)
  have := bkL_one n (by omega)
  unfold growb
  omega
def inK (kd : Nat -> Nat) (k : Nat) (j : Nat) : Nat := if j = 1 then 2 else if 2 <= j /\ j <= k + 1 then kd (j - 1) else 0
end Go.Proofs.YtleafmdjhmnjmaaGreatDoor
