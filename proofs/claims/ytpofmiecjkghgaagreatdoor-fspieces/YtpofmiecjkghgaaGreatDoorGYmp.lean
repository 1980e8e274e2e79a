/- Drop of a name, over the state itself: what may be taken stays so. -/
import Derived.Test.YtpofmiecjkghgaaGreatDoorGXdp
import Derived.Test.YtpofmiecjkghgaaGreatDoorGVkp
import Derived.Test.YtpofmiecjkghgaaGreatDoorGXfp
import Derived.Test.YtpofmiecjkghgaaGreatDoorGVgp
import Derived.Deep.RegionHeld
import Derived.Test.YtpofmiecjkghgaaGreatDoorGWgp
import Derived.Test.YtpofmiecjkghgaaGreatDoorGWap
import Derived.Test.YtpofmiecjkghgaaGreatDoorGXip
import Derived.Test.YtpofmiecjkghgaaGreatDoorGXap
import Derived.Test.YtpofmiecjkghgaaGreatDoorGWcp
namespace Go.Proofs.YtpofmiecjkghgaaGreatDoor
open Go.RowKit Go.Extern.Stop Go.Stop Go.Extern Go.Maps Go.Sort Go.Shelf
set_option maxRecDepth 1000000
set_option maxHeartbeats 4000000
section
variable {E : TE} {w w' : World} {K : Nat -> Nat} {D : Nat -> List Int} {f u lim : Nat} {p db : Nat}
end
section
variable {fb rs hb : Nat} {E : TE} {w w' : World} {K : Nat -> Nat} {D : Nat -> List Int} {T : Nat -> List Rec} {f u lim : Nat}
structure DpS (fb nb : Nat) (E : TE) (id : Int) (w : World) : Prop where
  t : w.cell? ⟨fb, 2, none⟩ = some (ptr E.tb)
  n : w.cell? ⟨nb, 0, none⟩ = some (.int .i64 id)
theorem DpS.keep {nb : Nat} {id : Int} {bs : List Nat} (h : DpS fb nb E id w) (ha : Apart bs w w') (h1 : fb ∉ bs) (h2 : nb ∉ bs) : DpS fb nb E id w' := ⟨(ha.cell (p := ⟨fb, 2, none⟩) (lt_of_cell (a := ⟨fb, 2, none⟩) h.t) h1).trans h.t, (ha.cell (p := ⟨nb, 0, none⟩) (lt_of_cell (a := ⟨nb, 0, none⟩) h.n) h2).trans h.n⟩
end
structure KBox (b0 b1 b2 b3 fb : Nat) (up : Value) (s : List UInt8) (kind : Nat) (w : World) : Prop where
  c0 : w.cell? ⟨b0, 0, none⟩ = some (ptr fb)
  c1 : w.cell? ⟨b1, 0, none⟩ = some up
  c2 : w.cell? ⟨b2, 0, none⟩ = some (.string (mkB s))
  c3 : w.cell? ⟨b3, 0, none⟩ = some (.int .i64 (kind : Nat))
theorem KBox.below {b0 b1 b2 b3 fb : Nat} {up : Value} {s : List UInt8} {kind : Nat} {w w' : World} (h : KBox b0 b1 b2 b3 fb up s kind w) (hb : Below w.heap.size w w') : KBox b0 b1 b2 b3 fb up s kind w' :=
  have k : ∀ b v, w.cell? ⟨b, 0, none⟩ = some v -> w'.cell? ⟨b, 0, none⟩ = some v := fun b _ hc => (hb.cell (p := ⟨b, 0, none⟩) (lt_of_cell (a := ⟨b, 0, none⟩) hc)).trans hc
  ⟨k _ _ h.c0, k _ _ h.c1, k _ _ h.c2, k _ _ h.c3⟩
section
variable {fb rs hb : Nat} {E : TE} {w w' : World} {K : Nat -> Nat} {D : Nat -> List Int} {T : Nat -> List Rec} {f u lim : Nat}
theorem create1_new {b0 b1 b2 b3 : Nat} {v : Value} {s : List UInt8} {kind : Nat} (hB : KBox b0 b1 b2 b3 fb v s kind w) (hF : FsAt fb E rs hb w) (h : S8 E K D f u lim w) (ok : E.Ok) (hkk : E.kk = E.k) (ht : TreeOk E.tn K D T) (htn : 1 <= E.tn) {l : List (List UInt8)} (hv : TxtsAt w v l) (hll : l.length <= 1000) (hok : ∀ s ∈ l, okB s = true) {p : Nat} (hp : dirT K T l = .ok p) (hs : okB s = true) (hno : lookT (T p) s = none) (hl : (T p).length < 120)
    (hkind : kind = 1 \/ kind = 2) (id : Nat) (h1 : 1 <= id) (h2 : id <= E.tn) (hfree : K id = 0) (hlow : ∀ i, 1 <= i -> i < id -> K i ≠ 0) (hR : E.R id) (hRp : E.R p) (hWp : E.W p) (gn : Nat) (hgn : growb ((32 * (T p).length : Nat) : Int) ((32 * ((T p).length + 1) : Nat) : Int) = (gn : Int)) (hgu : gn <= u) (hmay : mayB (f : Int) (rs : Int) ((gn : Int) + growb 0 ((0 : Nat) : Int)) false = true) :
    Calls Tryz.prog 59 #[ptr b0, ptr b1, ptr b2, ptr b3] w fun e w' => e = .returned .nilIface /\ (∃ f' u', S8 E (upd K id kind) (upd D p (recsL (T p ++ [⟨s, id⟩]))) f' u' lim w' /\ f' + gn = f /\ u <= u' + gn) /\ Apart [E.mb] w w' := by
  have kDa := hidden (dirAt_calls hF h ok ht htn hv hll hok)
  have kCh := hidden (fun (wx : World) (db : Nat) (p1 : 1 <= p) (p2 : p <= E.tn) (hk : K p = 2) (hx : Below w.heap.size w wx) (hd : DirAt E db p wx) => child_none (fb := fb) (h.more hx) ok p1 p2 hk (ht.recs p p1 p2 hk).1 (ht.recs p p1 p2 hk).2 hd s hs (lookT_none hno))
  have kAd := hidden (fun (wx : World) (db : Nat) (p1 : 1 <= p) (p2 : p <= E.tn) (hk : K p = 2) (hx : Below w.heap.size w wx) (hd : DirAt E db p wx) => add_ok (hF.below hx) (h.more hx) ok hkk p1 p2 hk (ht.recs p p1 p2 hk).1 (ht.recs p p1 p2 hk).2 hd s hs (lookT_none hno) hl kind hkind id h1 h2 hfree hlow hR hRp hWp 0 false gn hgn hgu hmay)
  have c0 := hB.c0
  have c1 := hB.c1
  have hBk := hidden hB
  obtain ⟨a, cap, rfl, -⟩ := hv
  replace hp := hidden hp
  clear hF h ok ht hok hgn hmay hfree hlow hgu hno hB
  generalize l.length = LL at *
  go_enter Tryz.func59, Tryz.ntmps59
  go_wp2_with fail
  refine (kDa.out).mono ?_
  rintro ev w1 ⟨(⟨q, db, hq, rfl, hd1, hdb, q1, q2, q3⟩ | ⟨m, bk, nm, hq, -⟩), hB1⟩
  rotate_left
  · rw [hp.out] at hq; cases hq
  obtain rfl : p = q := by rw [hp.out] at hq; exact Except.ok.inj hq
  have kC1 := hidden (kCh.out w1 db q1 q2 q3 hB1 hd1)
  have hA1 := hidden (And.intro hB1 hd1)
  clear c0 c1
  have d0 := (hBk.out.below hB1).c0
  have d2 := (hBk.out.below hB1).c2
  clear kDa kCh hB1 hd1 hq
  go_wp2_with fail
  refine (kC1.out).mono ?_
  rintro ev w3 ⟨bk, rfl, hc, hB3⟩
  have kI := is_chain 11 11 w3 _ _ hc
  have hb3 : Below w.heap.size w w3 := hA1.out.1.trans (hB3.mono hA1.out.1.size)
  have hd3 : DirAt E db p w3 := hA1.out.2.below hB3
  have kA3 := hidden (kAd.out w3 db q1 q2 q3 hb3 hd3)
  obtain ⟨e0, e1, e2, e3⟩ := hBk.out.below hb3
  replace kI := hidden kI
  replace hb3 := hidden hb3
  clear hc hB3 kC1 kAd hd3 hA1 d0 d2
  go_wp2_with fail
  refine (kI.out).mono ?_
  rintro ev w4 ⟨rfl, hw4⟩
  subst w4
  dsimp only [Int.reduceBEq]
  go_wp2_with fail
  refine (kA3.out).mono ?_
  rintro ev w5 ⟨rfl, hS5, hA5⟩
  have hE := hidden (And.intro hS5 ((Apart.of_below (bs := [E.mb]) hb3.out).trans hA5))
  clear hS5 hA5 kA3 e0 e1 e2 e3
  go_wp2
  go_ret
  exact ⟨rfl, hE.out⟩
end
theorem ent_create1 : ∀ (args : Array Value) (w : World), (callFunc 59 args).run Tryz.prog w = .ok (.enter 59 args) w := enters_of Tryz.func59 (by kernel_rfl) rfl
section
variable {fb rs hb : Nat} {E : TE} {w w' : World} {K : Nat -> Nat} {D : Nat -> List Int} {T : Nat -> List Rec} {f u lim : Nat}
theorem boxes_two (w : World) (p q : Value) (tp tq : TypeId) : ∃ w2, (w.alloc (Obj.cells #[p] tp)).alloc (Obj.cells #[q] tq) = w2 /\ Below w.heap.size w w2 /\ w2.cell? ⟨w.heap.size, 0, none⟩ = some p /\ w2.cell? ⟨w.heap.size + 1, 0, none⟩ = some q := by
  generalize e1 : w.alloc (Obj.cells #[p] tp) = W1
  have a1 : W1.cell? ⟨w.heap.size, 0, none⟩ = some p := by rw [<- e1]; simp
  have s1 : W1.heap.size = w.heap.size + 1 := by rw [<- e1]; simp
  have b1 : Below w.heap.size w W1 := by rw [<- e1]; exact (Below.refl _ _).alloc (Nat.le_refl _) _
  have hBx : Below W1.heap.size W1 (W1.alloc (Obj.cells #[q] tq)) := (Below.refl _ _).alloc (Nat.le_refl _) _
  exact ⟨_, rfl, b1.trans (hBx.mono b1.size), (hBx.cell (p := ⟨w.heap.size, 0, none⟩) (lt_of_cell a1)).trans a1, by rw [<- s1]; simp⟩
theorem create_via {path s : List UInt8} {l : List (List UInt8)} {kind : Nat} {Q : Value -> World -> Prop} (hlen : path.length <= 2000) (hp : splitB path = some (l ++ [s]))
    (kS : ∀ (wx : World) (b0 b1 b2 b3 : Nat) (up : Value), Below w.heap.size w wx -> KBox b0 b1 b2 b3 fb up s kind wx -> TxtsAt wx up l -> Calls Tryz.prog 54 #[ptr fb, .func (.func 59) #[] #[ptr b0, ptr b1, ptr b2, ptr b3]] wx fun e w' => ∃ ev, e = .returned ev /\ Q ev w') :
    Calls Tryz.prog 34 #[ptr fb, .string (mkB path), .int .i64 (kind : Nat)] w fun e w' => ∃ ev, e = .returned ev /\ Q ev w' := by
  have hmf : ∀ (fn : Fn) (first cap : Array Value) (w : World), (Instr.makeFunc fn first cap).run Tryz.prog w = .ok (.func fn first cap) w := fun _ _ _ _ => rfl
  obtain ⟨w3, hw3, hB3, g0, g3⟩ := boxes_two w (ptr fb) (.int .i64 (kind : Nat)) 31 3
  have kA := hidden (apart_ok path hlen hp 12 w3)
  replace kS := hidden kS
  replace hB3 := hidden hB3
  replace hw3 := hidden hw3
  go_enter Tryz.func34, Tryz.ntmps34
  go_upto_region 1 with fail
  rw [hw3.out]
  clear hw3
  go_wp2_with fail
  refine (kA.out).mono ?_
  rintro ev w4 ⟨up, rfl, hT, hB4⟩
  have hT4 := hT
  obtain ⟨ua, uc, rfl, -⟩ := hT
  have k0 := (hB4.cell (p := ⟨w.heap.size, 0, none⟩) (lt_of_cell (a := ⟨w.heap.size, 0, none⟩) g0)).trans g0
  have k3 := (hB4.cell (p := ⟨w.heap.size + 1, 0, none⟩) (lt_of_cell (a := ⟨w.heap.size + 1, 0, none⟩) g3)).trans g3
  obtain ⟨w6, hw6, hB6, n1, n2⟩ := boxes_two w4 (.slice ua l.length uc) (.string (mkB s)) 50 9
  have m0 := (hB6.cell (p := ⟨w.heap.size, 0, none⟩) (lt_of_cell (a := ⟨w.heap.size, 0, none⟩) k0)).trans k0
  have m3 := (hB6.cell (p := ⟨w.heap.size + 1, 0, none⟩) (lt_of_cell (a := ⟨w.heap.size + 1, 0, none⟩) k3)).trans k3
  have hb6 : Below w.heap.size w w6 := hB3.out.trans ((hB4.trans (hB6.mono hB4.size)).mono hB3.out.size)
  have kS6 := hidden (kS.out w6 w.heap.size w4.heap.size (w4.heap.size + 1) (w.heap.size + 1) _ hb6 ⟨m0, n1, n2, m3⟩ (hT4.below hB6))
  replace hw6 := hidden hw6
  clear hT4 hB4 hB6 hb6 kS kA g0 g3 k0 k3 hB3
  generalize l.length = LL at *
  go_upto_region 2 with fail
  rw [hw6.out]
  clear hw6
  go_wp2_with fail
  refine (kS6.out).mono ?_
  rintro ev w7 ⟨er, rfl, hQ⟩
  replace hQ := hidden hQ
  go_wp2
  go_ret
  exact ⟨er, rfl, hQ.out⟩
end
section
variable {fb rs hb : Nat} {E : TE} {w w' : World} {K : Nat -> Nat} {D : Nat -> List Int} {T : Nat -> List Rec} {f u lim : Nat}
theorem TreeOk.addK {tn p id kind : Nat} {s : List UInt8} (ht : TreeOk tn K D T) (p1 : 1 <= p) (p2 : p <= tn) (hk : K p = 2) (h2 : id <= tn) (hid : K id = 0) (hkind : kind = 1 \/ kind = 2) (hD0 : D id = []) (hT0 : kind = 2 -> T id = []) (hs : okB s = true) (h1 : 1 <= id) (htn : tn <= 200) (hno : lookT (T p) s = none) :
    TreeOk tn (upd K id kind) (upd D p (recsL (T p ++ [⟨s, id⟩]))) (upd T p (T p ++ [⟨s, id⟩])) := by
  have hpi : p ≠ id := by rintro rfl; omega
  have h1i : (1 : Nat) ≠ id := by rintro rfl; have := ht.root; omega
  obtain ⟨hD, hG⟩ := ht.recs p p1 p2 hk
  refine ⟨by rw [upd_other _ _ h1i]; exact ht.root, fun q q1 q2 hq => ?_, fun q q1 q2 hq r hr => ?_⟩
  · by_cases hqi : q = id
    · subst hqi
      rw [upd_same] at hq
      rw [upd_other _ _ (Ne.symm hpi), upd_other _ _ (Ne.symm hpi), hD0, hT0 hq]
      exact ⟨rfl, ⟨fun r hr => (by cases hr), List.nodup_nil⟩⟩
    · rw [upd_other _ _ hqi] at hq
      by_cases hqp : q = p
      · subst hqp
        rw [upd_same, upd_same]
        exact ⟨rfl, hG.put ⟨hs, h1, by show id < _; omega⟩ (lookT_none hno)⟩
      · rw [upd_other _ _ hqp, upd_other _ _ hqp]
        exact ht.recs q q1 q2 hq
  · have old : ∀ x : Rec, x.id <= tn -> K x.id ≠ 0 -> x.id <= tn /\ upd K id kind x.id ≠ 0 := fun x h h' => ⟨h, by rw [upd_other _ _ (by rintro e; rw [e] at h'; exact h' hid)]; exact h'⟩
    by_cases hqi : q = id
    · subst hqi
      rw [upd_same] at hq
      rw [upd_other _ _ (Ne.symm hpi), hT0 hq] at hr
      cases hr
    · rw [upd_other _ _ hqi] at hq
      by_cases hqp : q = p
      · subst hqp
        rw [upd_same] at hr
        rcases List.mem_append.1 hr with hr | hr
        · have := ht.used q q1 q2 hq r hr
          exact old r this.1 this.2
        · obtain rfl := List.mem_singleton.1 hr
          exact ⟨h2, by show upd K id kind id ≠ 0; rw [upd_same]; omega⟩
      · rw [upd_other _ _ hqp] at hr
        have := ht.used q q1 q2 hq r hr
        exact old r this.1 this.2
theorem create_new (h : Fsz fb rs hb E K D T f lim w) {path s : List UInt8} {l : List (List UInt8)} {kind : Nat} (hlen : path.length <= 2000) (hp : splitB path = some (l ++ [s])) {p : Nat} (hd : dirT K T l = .ok p) (hno : lookT (T p) s = none) (hl : (T p).length < 120) (hkind : kind = 1 \/ kind = 2) {id : Nat} (h1 : 1 <= id) (h2 : id <= E.tn) (hfree : K id = 0) (hT0 : kind = 2 -> T id = []) (hlow : ∀ i, 1 <= i -> i < id -> K i ≠ 0) {gn : Nat} (hgn : growb ((32 * (T p).length : Nat) : Int) ((32 * ((T p).length + 1) : Nat) : Int) = (gn : Int)) (hmay : mayB (f : Int) (rs : Int) ((gn : Int) + growb 0 ((0 : Nat) : Int)) false = true) (hlim : lim <= 300000000) :
    Calls Tryz.prog 34 #[ptr fb, .string (mkB path), .int .i64 (kind : Nat)] w fun e w' => e = .returned .nilIface /\ (∃ f', f' + gn = f /\ Fsz fb rs hb E.rest (upd K id kind) (upd D p (recsL (T p ++ [⟨s, id⟩]))) (upd T p (T p ++ [⟨s, id⟩])) f' (lim + 1000) w') /\ E.Turns fb w w' := by
  have hpl := h.pl
  have htn1 := hpl.tn1
  obtain ⟨p1, p2, hk⟩ := dirT_in h.tree htn1 hd
  obtain ⟨hDp, hGp⟩ := h.tree.recs p p1 p2 hk
  have hD0 : D id = [] := h.s.to.noBytes h1 h2 hfree
  have hpi : p ≠ id := by rintro rfl; omega
  have hmp := may_all (split_may hp)
  have hl6 : l.length <= 6 := by have := hmp.1; rw [List.length_append] at this; omega
  have hlok : ∀ x ∈ l, okB x = true := fun x hx => hmp.2 x (List.mem_append.2 (Or.inl hx))
  have hsok : okB s = true := hmp.2 s (by simp)
  have e0z : growb 0 ((0 : Nat) : Int) = 0 := by simp [growb, blk]
  have hc : gn <= f := by
    rw [e0z] at hmay
    unfold mayB at hmay
    simp only [Bool.or_eq_true, Bool.and_eq_true, decide_eq_true_eq] at hmay
    omega
  have hrl : (D p).length = 32 * (T p).length := by rw [hDp, recsL_len hGp.each]
  have hsum : sumL D [p, id] = bkL (T p).length := by
    show (blk ((D p).length : Int)).toNat + ((blk ((D id).length : Int)).toNat + 0) = _
    rw [hrl, hD0]
    show bkL (T p).length + _ = _
    simp [blk]
  have hbound : bkL (T p).length + gn <= 31 := by
    have e0 := bkL_eq (T p).length
    have e1 := bkL_eq ((T p).length + 1)
    have e2 := bkL_le (n := (T p).length + 1) (by omega)
    have hup : blk ((32 * (T p).length : Nat) : Int) <= blk ((32 * ((T p).length + 1) : Nat) : Int) := blk_upD (by omega) (by omega) (by omega)
    unfold growb at hgn
    omega
  obtain ⟨A, U, ku, ok', -, hS'⟩ := h.s.re hpl [p, id] [p, id] (fun x hx => by simp at hx; rcases hx with rfl | rfl <;> omega) (fun x hx => by simp at hx; rcases hx with rfl | rfl <;> omega) gn hc (by rw [hsum]; show 2 + 2 + _ + _ <= 87; omega)
  have hfar := h.far
  have hkk : E.kk = E.k := hpl.kk.symm
  refine (create_via (Q := fun ev w' => ev = .nilIface /\ (∃ f', f' + gn = f /\ Fsz fb rs hb E.rest (upd K id kind) (upd D p (recsL (T p ++ [⟨s, id⟩]))) (upd T p (T p ++ [⟨s, id⟩])) f' (lim + 1000) w') /\ E.Turns fb w w') hlen hp (fun wx b0 b1 b2 b3 up hx hbx hTx => ?_)).mono (fun e w' ⟨ev, h1, h2, h3⟩ => ⟨by rw [h1, h2], h3⟩)
  have hF' : FsAt fb (E.at A U (· ∈ [p, id]) (· ∈ [p, id]) ku) rs hb wx := (h.at_.below hx).at _ _ _ _ _
  have hSx := (hS'.more hx).to
  have kC := create1_new hbx hF' hSx ok' hkk h.tree htn1 hTx (by omega) hlok hd hsok hno hl hkind id h1 h2 hfree hlow (show id ∈ [p, id] by simp) (show p ∈ [p, id] by simp) (show p ∈ [p, id] by simp) gn hgn (Nat.le_refl _) hmay
  refine (step_ok (P := fun w1 => Apart [E.mb] wx w1) (K := upd K id kind) (D := upd D p (recsL (T p ++ [⟨s, id⟩]))) (f := f - gn) (u := 0) (lim := lim) ent_create1 hF' hfar ok' hpl.far hpl.live (by show 1 <= E.most /\ E.most <= 200; rw [hpl.most]; omega) hlim (kC.mono ?_)).mono ?_
  · rintro e w1 ⟨rfl, ⟨f1, u1, r1, r2, r3⟩, hA⟩
    have hf2 : f1 = f - gn := by omega
    rw [hf2] at r1
    exact ⟨rfl, hA, hF'.keep hA (fun hm => hfar.1 (List.mem_singleton.1 hm)), r1.low (Nat.zero_le _)⟩
  · rintro e w2 ⟨rfl, w1, hA1, hF2, hS2, hA2⟩
    refine ⟨_, rfl, rfl, ⟨f - gn, by omega, ⟨⟨hF2.c0, hF2.c1, hF2.c2, hF2.c3, hF2.c4, hF2.c5, hF2.c6, hF2.c7, hF2.f7⟩, hS2.rest, hpl.at _ _ _ _ _, hfar, h.tree.addK p1 p2 hk h2 hfree hkind hD0 hT0 hsok h1 hpl.tn hno⟩⟩, ?_⟩
    exact turns_of hx hA1 hA2
end
def sMake : ByteArray := ⟨#[109, 97, 107, 101]⟩
structure MBox (b0 b1 b2 b3 fb : Nat) (up : Value) (s : List UInt8) (w : World) : Prop where
  c0 : w.cell? ⟨b0, 0, none⟩ = some (ptr fb)
  c1 : w.cell? ⟨b1, 0, none⟩ = some up
  c2 : w.cell? ⟨b2, 0, none⟩ = some (.string (mkB s))
  n : FnAt w b3 0 0
section
variable {fb rs hb : Nat} {E : TE} {w w' : World} {K : Nat -> Nat} {D : Nat -> List Int} {T : Nat -> List Rec} {f u lim : Nat}
theorem MBox.below {b0 b1 b2 b3 : Nat} {up : Value} {s : List UInt8} (h : MBox b0 b1 b2 b3 fb up s w) (hb : Below w.heap.size w w') : MBox b0 b1 b2 b3 fb up s w' :=
  have k : ∀ b v, w.cell? ⟨b, 0, none⟩ = some v -> w'.cell? ⟨b, 0, none⟩ = some v := fun b _ hc => (hb.cell (p := ⟨b, 0, none⟩) (lt_of_cell (a := ⟨b, 0, none⟩) hc)).trans hc
  ⟨k _ _ h.c0, k _ _ h.c1, k _ _ h.c2, h.n.below hb⟩
end
section
variable {fb rs hb : Nat} {E : TE} {w w' : World} {K : Nat -> Nat} {D : Nat -> List Int} {T : Nat -> List Rec} {f u lim : Nat}
theorem dropR_mem {L : List Rec} {i : Nat} (hi : i < L.length) : ∀ x ∈ dropR L i, x ∈ L := by
  intro x hx
  have hlast : L[L.length - 1]? = some (L[L.length - 1]'(by omega)) := List.getElem?_eq_getElem (by omega)
  rw [dropR_get hlast] at hx
  rcases List.mem_or_eq_of_mem_set (List.mem_of_mem_take hx) with h | h
  · exact h
  · rw [h]; exact List.getElem_mem _
end
section
variable {fb rs hb : Nat} {E : TE} {w w' : World} {K : Nat -> Nat} {D : Nat -> List Int} {T : Nat -> List Rec} {f u lim : Nat}
end
section
variable {fb rs hb : Nat} {E : TE} {w w' : World} {K : Nat -> Nat} {D : Nat -> List Int} {T : Nat -> List Rec} {f u lim : Nat}
end
theorem bkL_one (n : Nat) (hn : n <= 124) : bkL n <= bkL (n + 1) /\ bkL (n + 1) <= bkL n + 2 /\ bkL n <= 33 := by
  have e1 := bkL_eq n
  have e2 := bkL_eq (n + 1)
  unfold blk at e1 e2
  split at e1 <;> split at e2 <;> (try split at e1) <;> (try split at e2) <;> (try split at e1) <;> (try split at e2) <;> omega
theorem grow_bk (n : Nat) (hn : n <= 123) : growb ((32 * n : Nat) : Int) ((32 * (n + 1) : Nat) : Int) = ((bkL (n + 1) - bkL n : Nat) : Int) := by
  have e1 := bkL_eq n
  have e2 := bkL_eq (n + 1)
  have := bkL_one n (by omega)
  unfold growb
  omega
def inK (kd : Nat -> Nat) (k : Nat) (j : Nat) : Nat := if j = 1 then 2 else if 2 <= j /\ j <= k + 1 then kd (j - 1) else 0
structure GnR (fb hb xb N dd : Nat) (P : (Nat -> List Int) -> Nat -> Prop) (K : Nat -> Nat) (T : Nat -> List Rec) (lim : Nat) (E : TE) (w : World) : Prop where
  st : ∃ D f, P D f /\ Fsz fb 0 hb E K D T f lim w
  no : HNo fb hb E w
  x1 : w.cell? ⟨xb, 1, none⟩ = some (ptr fb)
  xn : xb ≠ E.d /\ xb ≠ E.g /\ xb ≠ E.mb /\ xb ≠ fb
  tn : E.tn = N
  k : E.k = dd
def GnS (fb hb xb N dd : Nat) (P : (Nat -> List Int) -> Nat -> Prop) (K : Nat -> Nat) (T : Nat -> List Rec) (lim : Nat) (w0 w : World) : Prop := (∃ E, GnR fb hb xb N dd P K T lim E w /\ E.w0 = w0) /\ GT w0
section
variable {fb hb xb N dd lim lim' : Nat} {P P' : (Nat -> List Int) -> Nat -> Prop} {K K' : Nat -> Nat} {T T' : Nat -> List Rec} {D D' : Nat -> List Int} {f f' : Nat} {E : TE} {w0 w w' : World}
theorem GnR.below (h : GnR fb hb xb N dd P K T lim E w) (hB : Below w.heap.size w w') : GnR fb hb xb N dd P K T lim E w' := by
  obtain ⟨⟨D, f, hp, h0⟩, h1, h2, h3, h4, h5⟩ := h
  exact ⟨⟨D, f, hp, h0.below hB⟩, h1.below hB, (hB.cell (p := ⟨xb, 1, none⟩) (lt_of_cell (a := ⟨xb, 1, none⟩) h2)).trans h2, h3, h4, h5⟩
theorem GnR.turn (h : GnR fb hb xb N dd P K T lim E w) (hT : E.Turns fb w w') (hP : P' D' f') (hz : Fsz fb 0 hb E.rest K' D' T' f' lim' w') : GnR fb hb xb N dd P' K' T' lim' E.rest w' :=
  have hA : Apart [E.d, E.g, E.mb, fb] w w' := hT
  ⟨⟨D', f', hP, hz⟩, ⟨(h.no.turns hT).no, h.no.ne⟩, (hA.cell (p := ⟨xb, 1, none⟩) (lt_of_cell (a := ⟨xb, 1, none⟩) h.x1) (by have := h.xn; simp; omega)).trans h.x1, h.xn, h.tn, h.k⟩
theorem GnS.below (h : GnS fb hb xb N dd P K T lim w0 w) (hB : Below w.heap.size w w') : GnS fb hb xb N dd P K T lim w0 w' := by
  obtain ⟨⟨E, h1, h2⟩, h3⟩ := h
  exact ⟨⟨E, h1.below hB, h2⟩, h3⟩
theorem GnS.x1 (h : GnS fb hb xb N dd P K T lim w0 w) : w.cell? ⟨xb, 1, none⟩ = some (ptr fb) := by
  obtain ⟨⟨E, h1, h2⟩, h3⟩ := h
  exact h1.x1
theorem GnS.bel (h : GnS fb hb xb N dd P K T lim w0 w) : Below w0.heap.size w0 w := by
  obtain ⟨⟨E, ⟨⟨D, f, hp, h0⟩, -⟩, rfl⟩, h3⟩ := h
  exact h0.s.to.below
theorem GnS.gt (h : GnS fb hb xb N dd P K T lim w0 w) : GT w := h.2.below h.bel
theorem GnS.ground (h : GnS fb hb xb N dd P K T lim w0 w) : Ground w := by
  obtain ⟨⟨E, ⟨⟨D, f, hp, h0⟩, -⟩, rfl⟩, h3⟩ := h
  exact h0.s.to.ground
theorem GnS.up (h : GnS fb hb xb N dd P K T lim w0 w) (hl : lim <= lim') : GnS fb hb xb N dd P K T lim' w0 w := by
  obtain ⟨⟨E, ⟨⟨D, f, hp, h0⟩, h1, h2, h3, h4, h5⟩, he⟩, hg⟩ := h
  obtain ⟨mem, wr, M, z1, z2, z3, z4, z5⟩ := h0.s
  exact ⟨⟨E, ⟨⟨D, f, hp, ⟨h0.at_, ⟨mem, wr, M, z1, z2, z3, ⟨z4.1, Int.le_trans z4.2 (by omega)⟩, z5⟩, h0.pl, h0.far, h0.tree⟩⟩, h1, h2, h3, h4, h5⟩, he⟩, hg⟩
theorem GnS.step {F : FuncId} {args : Array Value} {R : Ending -> World -> Prop} (h : GnS fb hb xb N dd P K T lim w0 w)
    (k : ∀ E D f, GnR fb hb xb N dd P K T lim E w -> P D f -> Fsz fb 0 hb E K D T f lim w -> Calls Tryz.prog F args w fun e w' => R e w' /\ (∃ D' f', P' D' f' /\ Fsz fb 0 hb E.rest K' D' T' f' lim' w') /\ E.Turns fb w w') :
    Calls Tryz.prog F args w fun e w' => R e w' /\ GnS fb hb xb N dd P' K' T' lim' w0 w' := by
  obtain ⟨⟨E, h1, h2⟩, h3⟩ := h
  obtain ⟨D, f, hp, hz⟩ := h1.st
  refine (k E D f h1 hp hz).mono ?_
  rintro e w' ⟨hR, ⟨D', f', hp', hz'⟩, hT⟩
  exact ⟨hR, ⟨⟨E.rest, h1.turn hT hp' hz', h2⟩, h3⟩⟩
end
section
variable {fb hb xb N dd lim k c : Nat} {kd : Nat -> Nat} {w0 w w' : World}
def KdsOk (kd : Nat -> Nat) (k : Nat) : Prop := ∀ j, 1 <= j -> j <= k -> kd j = 1 \/ kd j = 2
theorem KdsOk.put (h : KdsOk kd k) (hc : c = 1 \/ c = 2) : KdsOk (upd kd (k + 1) c) (k + 1) := fun j a b => by
  by_cases e : j = k + 1
  · rw [e, upd_same]; exact hc
  · rw [upd_other _ _ e]; exact h j a (by omega)
theorem KdsOk.used (h : KdsOk kd k) {i : Nat} (h1 : 1 <= i) (h2 : i <= k + 1) : inK kd k i ≠ 0 := by
  unfold inK
  by_cases e : i = 1
  · rw [if_pos e]; decide
  · rw [if_neg e, if_pos (by omega)]
    rcases h (i - 1) (by omega) (by omega) with e | e <;> rw [e] <;> decide
end
structure GrR (rs fb hb xb N dd : Nat) (P : (Nat -> List Int) -> Nat -> Prop) (K : Nat -> Nat) (T : Nat -> List Rec) (lim : Nat) (E : TE) (w : World) : Prop where
  st : ∃ D f, P D f /\ Fsz fb rs hb E K D T f lim w
  no : HNo fb hb E w
  x1 : w.cell? ⟨xb, 1, none⟩ = some (ptr fb)
  xn : xb ≠ E.d /\ xb ≠ E.g /\ xb ≠ E.mb /\ xb ≠ fb
  tn : E.tn = N
  k : E.k = dd
def GrS (rs fb hb xb N dd : Nat) (P : (Nat -> List Int) -> Nat -> Prop) (K : Nat -> Nat) (T : Nat -> List Rec) (lim : Nat) (w0 w : World) : Prop := (∃ E, GrR rs fb hb xb N dd P K T lim E w /\ E.w0 = w0) /\ GT w0
section
variable {rs fb hb xb N dd lim lim' : Nat} {P P' : (Nat -> List Int) -> Nat -> Prop} {K K' : Nat -> Nat} {T T' : Nat -> List Rec} {D D' : Nat -> List Int} {f f' : Nat} {E : TE} {w0 w w' : World}
theorem GrR.below (h : GrR rs fb hb xb N dd P K T lim E w) (hB : Below w.heap.size w w') : GrR rs fb hb xb N dd P K T lim E w' := by
  obtain ⟨⟨D, f, hp, h0⟩, h1, h2, h3, h4, h5⟩ := h
  exact ⟨⟨D, f, hp, h0.below hB⟩, h1.below hB, (hB.cell (p := ⟨xb, 1, none⟩) (lt_of_cell (a := ⟨xb, 1, none⟩) h2)).trans h2, h3, h4, h5⟩
theorem GrR.turn (h : GrR rs fb hb xb N dd P K T lim E w) (hT : E.Turns fb w w') (hP : P' D' f') (hz : Fsz fb rs hb E.rest K' D' T' f' lim' w') : GrR rs fb hb xb N dd P' K' T' lim' E.rest w' :=
  have hA : Apart [E.d, E.g, E.mb, fb] w w' := hT
  ⟨⟨D', f', hP, hz⟩, ⟨(h.no.turns hT).no, h.no.ne⟩, (hA.cell (p := ⟨xb, 1, none⟩) (lt_of_cell (a := ⟨xb, 1, none⟩) h.x1) (by have := h.xn; simp; omega)).trans h.x1, h.xn, h.tn, h.k⟩
theorem GrS.below (h : GrS rs fb hb xb N dd P K T lim w0 w) (hB : Below w.heap.size w w') : GrS rs fb hb xb N dd P K T lim w0 w' := by
  obtain ⟨⟨E, h1, h2⟩, h3⟩ := h
  exact ⟨⟨E, h1.below hB, h2⟩, h3⟩
theorem GrS.x1 (h : GrS rs fb hb xb N dd P K T lim w0 w) : w.cell? ⟨xb, 1, none⟩ = some (ptr fb) := by
  obtain ⟨⟨E, h1, h2⟩, h3⟩ := h
  exact h1.x1
theorem GrS.bel (h : GrS rs fb hb xb N dd P K T lim w0 w) : Below w0.heap.size w0 w := by
  obtain ⟨⟨E, ⟨⟨D, f, hp, h0⟩, -⟩, rfl⟩, h3⟩ := h
  exact h0.s.to.below
theorem GrS.gt (h : GrS rs fb hb xb N dd P K T lim w0 w) : GT w := h.2.below h.bel
theorem GrS.ground (h : GrS rs fb hb xb N dd P K T lim w0 w) : Ground w := by
  obtain ⟨⟨E, ⟨⟨D, f, hp, h0⟩, -⟩, rfl⟩, h3⟩ := h
  exact h0.s.to.ground
theorem GrS.up (h : GrS rs fb hb xb N dd P K T lim w0 w) (hl : lim <= lim') : GrS rs fb hb xb N dd P K T lim' w0 w := by
  obtain ⟨⟨E, ⟨⟨D, f, hp, h0⟩, h1, h2, h3, h4, h5⟩, he⟩, hg⟩ := h
  obtain ⟨mem, wr, M, z1, z2, z3, z4, z5⟩ := h0.s
  exact ⟨⟨E, ⟨⟨D, f, hp, ⟨h0.at_, ⟨mem, wr, M, z1, z2, z3, ⟨z4.1, Int.le_trans z4.2 (by omega)⟩, z5⟩, h0.pl, h0.far, h0.tree⟩⟩, h1, h2, h3, h4, h5⟩, he⟩, hg⟩
theorem gr_new {n i : Nat} (hN : New11 n i rs dd w0 E fb hb xb w) (hg : GT w0) (hP : P (fun _ => []) dd) : GrS rs fb hb xb i dd P rootK (fun _ => []) 6000 w0 w :=
  ⟨⟨E, ⟨⟨_, _, hP, hN.z⟩, hN.no, hN.x1, hN.xn, hN.tn, hN.k⟩, hN.w0⟩, hg⟩
theorem GrS.step {F : FuncId} {args : Array Value} {R : Ending -> World -> Prop} (h : GrS rs fb hb xb N dd P K T lim w0 w)
    (k : ∀ E D f, GrR rs fb hb xb N dd P K T lim E w -> P D f -> Fsz fb rs hb E K D T f lim w -> Calls Tryz.prog F args w fun e w' => R e w' /\ (∃ D' f', P' D' f' /\ Fsz fb rs hb E.rest K' D' T' f' lim' w') /\ E.Turns fb w w') :
    Calls Tryz.prog F args w fun e w' => R e w' /\ GrS rs fb hb xb N dd P' K' T' lim' w0 w' := by
  obtain ⟨⟨E, h1, h2⟩, h3⟩ := h
  obtain ⟨D, f, hp, hz⟩ := h1.st
  refine (k E D f h1 hp hz).mono ?_
  rintro e w' ⟨hR, ⟨D', f', hp', hz'⟩, hT⟩
  exact ⟨hR, ⟨⟨E.rest, h1.turn hT hp' hz', h2⟩, h3⟩⟩
end
section
variable {fb rs hb : Nat} {E : TE} {w w' : World} {K : Nat -> Nat} {D : Nat -> List Int} {T : Nat -> List Rec} {f u lim : Nat}
end
section
variable {fb rs hb : Nat} {E : TE} {w w' : World} {K : Nat -> Nat} {D : Nat -> List Int} {T : Nat -> List Rec} {f u lim tn : Nat}
theorem fMake_ok {path : List UInt8} {Q : World -> Prop} (k : Calls Tryz.prog 34 #[ptr fb, .string (mkB path), .int .i64 ((1 : Nat) : Int)] w fun e w' => e = .returned .nilIface /\ Q w') :
    Calls Tryz.prog 27 #[ptr fb, .string (mkB path)] w fun e w' => e = .returned .nilIface /\ Q w' := by
  replace k := hidden k
  have kW := hidden (fun (wx : World) => wrap_nil sMake (mkB path) wx)
  unfold sMake at kW
  go_enter Tryz.func27, Tryz.ntmps27
  go_wp2_with fail
  refine (k.out).mono ?_
  rintro ev w1 ⟨rfl, hQ⟩
  replace hQ := hidden hQ
  go_wp2_with fail
  refine (kW.out _).mono ?_
  rintro ev w2 ⟨rfl, hw2⟩
  subst w2
  go_wp2
  go_ret
  exact ⟨rfl, hQ.out⟩
theorem rec_inj : ∀ {L : List Rec}, (L.map Rec.s).Nodup -> ∀ {a b : Rec}, a ∈ L -> b ∈ L -> a.s = b.s -> a = b
  | [], _, a, b, ha, _, _ => by simp at ha
  | x :: l, h, a, b, ha, hb, e => by
    rw [List.map_cons, List.nodup_cons] at h
    rcases List.mem_cons.1 ha with ha | ha <;> rcases List.mem_cons.1 hb with hb | hb
    · rw [ha, hb]
    · exact absurd (List.mem_map.2 ⟨b, hb, by rw [<- e, ha]⟩) h.1
    · exact absurd (List.mem_map.2 ⟨a, ha, by rw [e, hb]⟩) h.1
    · exact rec_inj h.2 ha hb e
theorem idT_at {L : List Rec} (h : (L.map Rec.s).Nodup) {r : Rec} (hr : r ∈ L) : idT L r.s = r.id := by
  obtain ⟨q, h1, h2⟩ := look_has (L := L) (s := r.s) ⟨r, hr, rfl⟩
  obtain ⟨e, i, hi⟩ := lookT_some h1
  rw [h2, rec_inj h (List.mem_of_getElem? hi) hr e]
end
section
variable {fb hb xb N dd lim k : Nat} {kd : Nat -> Nat} {w0 w w' : World}
end
section
variable {K : Nat -> Nat} {D : Nat -> List Int} {T : Nat -> List Rec} {tn : Nat}
theorem kids_perm {x : Nat} (hk : K x = 2) (hL : ((T x).map Rec.s).Nodup) : (kidsT K T x).Perm ((T x).map Rec.id) := by
  unfold kidsT
  rw [if_pos hk]
  have h1 : (namesT T x).Perm ((T x).map Rec.s) := by unfold namesT; exact List.mergeSort_perm _ _
  have h2 := h1.map (idT (T x))
  rw [List.map_map] at h2
  exact h2.trans (List.Perm.of_eq (List.map_congr_left fun r hr => idT_at hL hr))
def lvT (K : Nat -> Nat) (T : Nat -> List Rec) (x : Nat) : Nat -> List Nat
  | 0 => [x]
  | j + 1 => (lvT K T x j).flatMap (kidsT K T)
structure RankT (K : Nat -> Nat) (T : Nat -> List Rec) (tn : Nat) (rk : Nat -> Nat) : Prop where
  root : rk 1 = 0
  up : ∀ q, 1 <= q -> q <= tn -> K q = 2 -> ∀ r ∈ T q, rk r.id = rk q + 1
  few : ∀ q, 1 <= q -> q <= tn -> K q ≠ 0 -> rk q <= 6
  own : ∀ q, 1 <= q -> q <= tn -> K q = 2 -> ((T q).map Rec.id).Nodup
  one : ∀ q q', 1 <= q -> q <= tn -> K q = 2 -> 1 <= q' -> q' <= tn -> K q' = 2 -> ∀ r ∈ T q, ∀ r' ∈ T q', r.id = r'.id -> q = q'
  all : ∀ x, 1 <= x -> x <= tn -> K x ≠ 0 -> x ≠ 1 -> ∃ q, 1 <= q /\ q <= tn /\ K q = 2 /\ ∃ r ∈ T q, r.id = x
variable {rk : Nat -> Nat}
theorem kids_mem (ht : TreeOk tn K D T) {q y : Nat} (q1 : 1 <= q) (q2 : q <= tn) : y ∈ kidsT K T q <-> K q = 2 /\ ∃ r ∈ T q, r.id = y := by
  by_cases hk : K q = 2
  · rw [(kids_perm hk (ht.recs q q1 q2 hk).2.nodup).mem_iff, List.mem_map]
    exact ⟨fun h => ⟨hk, h⟩, fun h => h.2⟩
  · unfold kidsT
    rw [if_neg hk]
    exact ⟨fun h => by simp at h, fun h => absurd h.1 hk⟩
theorem lv_in (ht : TreeOk tn K D T) (m : RankT K T tn rk) {x : Nat} (x1 : 1 <= x) (x2 : x <= tn) (x3 : K x ≠ 0) : ∀ j y, y ∈ lvT K T x j -> 1 <= y /\ y <= tn /\ K y ≠ 0 /\ rk y = rk x + j
  | 0, y, h => by
    obtain rfl : y = x := by simpa [lvT] using h
    exact ⟨x1, x2, x3, rfl⟩
  | j + 1, y, h => by
    obtain ⟨q, hq, hy⟩ := List.mem_flatMap.1 h
    obtain ⟨q1, q2, q3, q4⟩ := lv_in ht m x1 x2 x3 j q hq
    obtain ⟨hk, r, hr, rfl⟩ := (kids_mem ht q1 q2).1 hy
    obtain ⟨u1, u2⟩ := ht.used q q1 q2 hk r hr
    exact ⟨((ht.recs q q1 q2 hk).2.each r hr).lo, u1, u2, by rw [m.up q q1 q2 hk r hr, q4]; omega⟩
theorem lv_all (ht : TreeOk tn K D T) (m : RankT K T tn rk) : ∀ n x, 1 <= x -> x <= tn -> K x ≠ 0 -> rk x = n -> x ∈ lvT K T 1 n
  | 0, x, x1, x2, x3, hx => by
    by_cases e : x = 1
    · simp [lvT, e]
    · obtain ⟨q, q1, q2, hk, r, hr, rfl⟩ := m.all x x1 x2 x3 e
      have := m.up q q1 q2 hk r hr
      omega
  | n + 1, x, x1, x2, x3, hx => by
    have e : x ≠ 1 := fun e => by rw [e, m.root] at hx; omega
    obtain ⟨q, q1, q2, hk, r, hr, rfl⟩ := m.all x x1 x2 x3 e
    have hu := m.up q q1 q2 hk r hr
    exact List.mem_flatMap.2 ⟨q, lv_all ht m n q q1 q2 (by rw [hk]; decide) (by omega), (kids_mem ht q1 q2).2 ⟨hk, r, hr, rfl⟩⟩
theorem lv_nodup (ht : TreeOk tn K D T) (m : RankT K T tn rk) {x : Nat} (x1 : 1 <= x) (x2 : x <= tn) (x3 : K x ≠ 0) : ∀ j, (lvT K T x j).Nodup
  | 0 => by simp [lvT]
  | j + 1 => by
    refine List.pairwise_flatMap.2 ⟨fun q hq => ?_, List.Pairwise.imp_of_mem (fun {a b} ha hb hne y hy z hz e => ?_) (lv_nodup ht m x1 x2 x3 j)⟩
    · obtain ⟨q1, q2, -, -⟩ := lv_in ht m x1 x2 x3 j q hq
      by_cases hk : K q = 2
      · exact (kids_perm hk (ht.recs q q1 q2 hk).2.nodup).nodup_iff.2 (m.own q q1 q2 hk)
      · unfold kidsT
        rw [if_neg hk]
        exact List.Pairwise.nil
    · obtain ⟨a1, a2, -, -⟩ := lv_in ht m x1 x2 x3 j a ha
      obtain ⟨b1, b2, -, -⟩ := lv_in ht m x1 x2 x3 j b hb
      obtain ⟨ka, r, hr, rfl⟩ := (kids_mem ht a1 a2).1 hy
      obtain ⟨kb, r', hr', e'⟩ := (kids_mem ht b1 b2).1 hz
      exact hne (m.one a b a1 a2 ka b1 b2 kb r hr r' hr' (by rw [e', e]))
theorem lv_up {x j : Nat} (h : lvT K T x j = []) : lvT K T x (j + 1) = [] := by
  show (lvT K T x j).flatMap _ = []
  rw [h]
  rfl
theorem lv_ups {x j i : Nat} (h : lvT K T x j = []) (hi : j <= i) : lvT K T x i = [] := by
  obtain ⟨d, rfl⟩ : ∃ d, i = j + d := ⟨i - j, by omega⟩
  induction d with
  | zero => exact h
  | succ d ih => exact lv_up (ih (by omega))
theorem lv_last {x : Nat} : ∀ n, lvT K T x (n + 1) = [] -> ∃ J, J <= n /\ lvT K T x (J + 1) = [] /\ ∀ j, j <= J -> lvT K T x j ≠ []
  | 0, h => ⟨0, Nat.le_refl _, h, fun j hj => by obtain rfl : j = 0 := by omega
                                                 simp [lvT]⟩
  | n + 1, h => by
    by_cases e : lvT K T x (n + 1) = []
    · obtain ⟨J, h1, h2, h3⟩ := lv_last n e
      exact ⟨J, by omega, h2, h3⟩
    · exact ⟨n + 1, Nat.le_refl _, h, fun j hj e' => e (lv_ups e' hj)⟩
theorem lv_mem {x J y : Nat} : y ∈ ((List.range (J + 1)).map (lvT K T x)).flatten <-> ∃ j, j <= J /\ y ∈ lvT K T x j := by
  rw [List.mem_flatten]
  constructor
  · rintro ⟨l, hl, hx⟩
    obtain ⟨j, hj, rfl⟩ := List.mem_map.1 hl
    exact ⟨j, by have := List.mem_range.1 hj; omega, hx⟩
  · rintro ⟨j, hj, hx⟩
    exact ⟨_, List.mem_map.2 ⟨j, List.mem_range.2 (by omega), rfl⟩, hx⟩
theorem lvok_rank (ht : TreeOk tn K D T) (m : RankT K T tn rk) {x J : Nat} (x1 : 1 <= x) (x2 : x <= tn) (x3 : K x ≠ 0) (hnil : lvT K T x (J + 1) = []) (hne : ∀ j, j <= J -> lvT K T x j ≠ []) : LvOk K T tn x ((List.range (J + 1)).map (lvT K T x)) := by
  have hget : ∀ j, ((List.range (J + 1)).map (lvT K T x))[j]? = if j <= J then some (lvT K T x j) else none := fun j => by
    by_cases e : j <= J
    · rw [if_pos e, List.getElem?_map, List.getElem?_range (by omega)]
      rfl
    · rw [if_neg e]
      exact List.getElem?_eq_none (by simp; omega)
  refine ⟨by rw [hget, if_pos (Nat.zero_le _)]; rfl, fun j l hl => ?_, ?_, fun y hy => ?_⟩
  · rw [hget] at hl
    by_cases e : j <= J
    · rw [if_pos e] at hl
      obtain rfl := Option.some.inj hl
      refine ⟨hne j e, ?_⟩
      show lvT K T x (j + 1) = _
      rw [hget]
      by_cases e' : j + 1 <= J
      · rw [if_pos e']; rfl
      · rw [if_neg e']
        obtain rfl : j = J := by omega
        exact hnil
    · rw [if_neg e] at hl; cases hl
  · rw [<- List.flatMap_def]
    refine List.pairwise_flatMap.2 ⟨fun j _ => lv_nodup ht m x1 x2 x3 j, List.Pairwise.imp (fun {a b} hab y hy z hz e => ?_) (List.nodup_range (n := J + 1))⟩
    have h1 := (lv_in ht m x1 x2 x3 a y hy).2.2.2
    have h2 := (lv_in ht m x1 x2 x3 b z hz).2.2.2
    rw [e] at h1
    exact hab (by omega)
  · obtain ⟨j, hj, hy⟩ := lv_mem.1 hy
    have := lv_in ht m x1 x2 x3 j y hy
    exact ⟨this.1, this.2.1⟩
theorem sound_rank (ht : TreeOk tn K D T) (htn : 1 <= tn) (m : RankT K T tn rk) : ∃ lv, Sound K T tn lv := by
  have k1 : K 1 ≠ 0 := by rw [ht.root]; decide
  have h7 : lvT K T 1 (6 + 1) = [] := List.eq_nil_iff_forall_not_mem.2 fun x hx => by
    obtain ⟨x1, x2, x3, x4⟩ := lv_in ht m (Nat.le_refl _) htn k1 7 x hx
    have := m.few x x1 x2 x3
    have := m.root
    omega
  obtain ⟨J, hJ, hnil, hne⟩ := lv_last 6 h7
  refine ⟨(List.range (J + 1)).map (lvT K T 1), lvok_rank ht m (Nat.le_refl _) htn k1 hnil hne, by simp; omega, fun x x1 x2 x3 => ?_⟩
  have hx := lv_all ht m (rk x) x x1 x2 x3 rfl
  refine lv_mem.2 ⟨rk x, ?_, hx⟩
  rcases Nat.lt_or_ge J (rk x) with h | h
  · rw [lv_ups hnil h] at hx
    simp at hx
  · exact h
end
theorem ent_hold1 : ∀ (args : Array Value) (w : World), (callFunc 68 args).run Tryz.prog w = .ok (.enter 68 args) w := enters_of Tryz.func68 (by kernel_rfl) rfl
section
variable {fb rs hb : Nat} {E : TE} {w w' : World} {K : Nat -> Nat} {D : Nat -> List Int} {T : Nat -> List Rec} {f u lim : Nat}
theorem at1_one {b0 b1 b2 c0 : Nat} {fc : FuncId} (hent : ∀ (args : Array Value) (w : World), (callFunc fc args).run Tryz.prog w = .ok (.enter fc args) w) {names : Value} (hB : ABox b0 b1 b2 fb names (.func (.func fc) #[] #[ptr c0]) w) {q : Nat} (hF : FsAt fb E rs hb w) (h : S8 E K D f u lim w) (ok : E.Ok) (ht : TreeOk E.tn K D T) (htn : 1 <= E.tn) {l : List (List UInt8)} (hv : TxtsAt w names l) (hl : l.length <= 1000) (hok : ∀ s ∈ l, okB s = true) (hq0 : walkT K T 1 l = .ok q) {Q : Value -> World -> Prop}
    (kD : ∀ wx, Below w.heap.size w wx -> Calls Tryz.prog fc #[fnV (q : Nat) (K q : Nat), ptr c0] wx fun e w' => ∃ ev, e = .returned ev /\ Q ev w') :
    Calls Tryz.prog 126 #[ptr b0, ptr b1, ptr b2] w fun e w' => ∃ ev, e = .returned ev /\ Q ev w' := by
  have kW := hidden (fwalk_calls hF h ok ht htn hv hl hok)
  have d0 := hB.c0
  have d1 := hB.c1
  have d2 := hB.c2
  replace hq0 := hidden hq0
  replace kD := hidden kD
  obtain ⟨a, cap, rfl, -⟩ := hv
  clear hB hF h ok ht hok
  generalize l.length = LL at *
  go_enter Tryz.func126, Tryz.ntmps126
  go_wp2_with fail
  refine (kW.out).mono ?_
  rintro ev w1 ⟨(⟨q', hq, rfl⟩ | ⟨m', bk, nm, hq, -⟩), hB1⟩
  rotate_left
  · rw [hq0.out] at hq; cases hq
  obtain rfl : q = q' := by rw [hq0.out] at hq; exact Except.ok.inj hq
  obtain ⟨w2, hw2, hB2, hN2⟩ : ∃ w2, w1.alloc (Obj.cells #[.int .i64 (q : Nat), .int .i64 (K q : Nat)] 105) = w2 /\ Below w1.heap.size w1 w2 /\ FnAt w2 w1.heap.size (q : Nat) (K q : Nat) := ⟨_, rfl, (Below.refl _ _).alloc (Nat.le_refl _) _, fn_new _ _ _⟩
  have hb2 : Below w.heap.size w w2 := hB1.trans (hB2.mono hB1.size)
  have e2 := (hb2.cell (p := ⟨b2, 0, none⟩) (lt_of_cell (a := ⟨b2, 0, none⟩) d2)).trans d2
  have n0 := hN2.c0
  have n1 := hN2.c1
  have hlN := hN2.lt
  have kD2 := hidden (kD.out w2 hb2)
  replace hw2 := hidden hw2
  clear hB1 hB2 hN2 hb2 kW kD hq
  generalize ((K q : Nat) : Int) = KQ at *
  go_upto_region 2 with fail
  rw [hw2.out]
  clear hw2
  go_wp2_with fail
  refine (kD2.out).mono ?_
  rintro ev w3 ⟨er, rfl, hQ⟩
  replace hQ := hidden hQ
  go_wp2
  go_ret
  exact ⟨er, rfl, hQ.out⟩
end
section
variable {fb rs hb : Nat} {E : TE} {w w' : World} {K : Nat -> Nat} {D : Nat -> List Int} {T : Nat -> List Rec} {f u lim : Nat}
end
section
variable {fb rs hb : Nat} {E : TE} {w w' : World} {K : Nat -> Nat} {D : Nat -> List Int} {T : Nat -> List Rec} {f u lim : Nat}
end
theorem KeptT.keep {base : Nat} {w w' : World} {v : Value} {l : List (List UInt8)} {bs : List Nat} (h : KeptT base w v l) (ha : Apart bs w w') (hlt : ∀ k ∈ bs, k < base) : KeptT base w' v l := by
  refine ⟨h.row.1, ?_⟩
  rcases h.row.2 with h0 | ⟨g, cap, cur, hv, h1, hh, rest⟩
  · exact Or.inl h0
  · have hg : g < w.heap.size := by
      rcases Nat.lt_or_ge g w.heap.size with h | h
      · exact h
      · rw [Array.getElem?_eq_none h] at hh; cases hh
    exact Or.inr ⟨g, cap, cur, hv, h1, (ha.block g hg (fun hm => by have := hlt g hm; omega)).trans hh, rest⟩
section
variable {fb rs hb : Nat} {E : TE} {w w' : World} {K : Nat -> Nat} {D : Nat -> List Int} {T : Nat -> List Rec} {f u lim : Nat}
end
section
variable {fb rs hb : Nat} {E : TE} {w w' : World} {K : Nat -> Nat} {D : Nat -> List Int} {T : Nat -> List Rec} {f u lim : Nat}
end
section
variable {fb rs hb : Nat} {E : TE} {w w' : World} {K : Nat -> Nat} {D : Nat -> List Int} {T : Nat -> List Rec} {f u lim : Nat}
structure EnterT (K : Nat -> Nat) (T : Nat -> List Rec) (tn : Nat) (a b : List UInt8) (l l2 : List (List UInt8)) (s t : List UInt8) (p q i : Nat) (r : Rec) (lv : List (List Nat)) : Prop where
  la : a.length <= 2000
  lb : b.length <= 2000
  pa : splitB a = some (l ++ [s])
  pb : splitB b = some (l2 ++ [t])
  ne : a ≠ b
  out : withinB b a = false
  dir : dirT K T l = .ok p
  dir2 : dirT K T l2 = .ok q
  at_ : (T p)[i]? = some r
  name : r.s = s
  no : lookT (T q) t = none
  lvok : LvOk K T tn r.id lv
  fit : l2.length + 1 + lv.length <= 7
  few : (T q).length < 120
  oth : q ≠ p
  lne : l ≠ l2
end
section
variable {fb rs hb : Nat} {E : TE} {w w' : World} {K : Nat -> Nat} {D : Nat -> List Int} {T : Nat -> List Rec} {f u lim : Nat}
theorem TreeOk.enter {tn p q i : Nat} {r : Rec} {t : List UInt8} (ht : TreeOk tn K D T) (p1 : 1 <= p) (p2 : p <= tn) (hk : K p = 2) (q1 : 1 <= q) (q2 : q <= tn) (hkq : K q = 2) (hqp : q ≠ p) (hr : (T p)[i]? = some r) (hok : okB t = true) (hno : lookT (T q) t = none) :
    TreeOk tn K (upd (upd D p (recsL (dropR (T p) i))) q (recsL (T q ++ [⟨t, r.id⟩]))) (upd (upd T p (dropR (T p) i)) q (T q ++ [⟨t, r.id⟩])) := by
  obtain ⟨hD, hG⟩ := ht.recs p p1 p2 hk
  obtain ⟨hDq, hGq⟩ := ht.recs q q1 q2 hkq
  have hi := (List.getElem?_eq_some_iff.1 hr).1
  have hrm := List.mem_of_getElem? hr
  have hrg := hG.each r hrm
  refine ⟨ht.root, fun x x1 x2 hx => ?_, fun x x1 x2 hx y hy => ?_⟩
  · by_cases hxq : x = q
    · subst hxq
      rw [upd_same, upd_same]
      exact ⟨rfl, hGq.put (r := ⟨t, r.id⟩) ⟨hok, hrg.lo, hrg.hi⟩ (lookT_none hno)⟩
    · rw [upd_other _ _ hxq, upd_other _ _ hxq]
      by_cases hxp : x = p
      · subst hxp
        rw [upd_same, upd_same]
        exact ⟨rfl, hG.drop hi⟩
      · rw [upd_other _ _ hxp, upd_other _ _ hxp]
        exact ht.recs x x1 x2 hx
  · by_cases hxq : x = q
    · subst hxq
      rw [upd_same] at hy
      rcases List.mem_append.1 hy with h | h
      · exact ht.used x x1 x2 hx y h
      · rw [List.mem_singleton.1 h]
        exact ht.used p p1 p2 hk r hrm
    · rw [upd_other _ _ hxq] at hy
      by_cases hxp : x = p
      · subst hxp
        rw [upd_same] at hy
        exact ht.used x x1 x2 hx y (dropR_mem hi y hy)
      · rw [upd_other _ _ hxp] at hy
        exact ht.used x x1 x2 hx y hy
end
end Go.Proofs.YtpofmiecjkghgaaGreatDoor
