/- create's closure: a new name, an old one, no directory. -/
import Derived.Test.YtjionogjeafffaaGreatDoorGWg
import Derived.Test.YtjionogjeafffaaGreatDoorGXi
import Derived.Test.YtjionogjeafffaaGreatDoorGXf
namespace Go.Proofs.YtjionogjeafffaaGreatDoor
open Go.RowKit Go.Extern.Stop Go.Stop Go.Extern Go.Maps Go.Sort Go.Shelf
set_option maxRecDepth 100000

/-- What create's closure has captured. -/
structure KBox (b0 b1 b2 b3 fb : Nat) (up : Value) (s : List UInt8) (kind : Nat) (w : World) : Prop where
  c0 : w.cell? ⟨b0, 0, none⟩ = some (ptr fb)
  c1 : w.cell? ⟨b1, 0, none⟩ = some up
  c2 : w.cell? ⟨b2, 0, none⟩ = some (.string (mkB s))
  c3 : w.cell? ⟨b3, 0, none⟩ = some (.int .i64 (kind : Nat))
theorem KBox.below {b0 b1 b2 b3 fb : Nat} {up : Value} {s : List UInt8} {kind : Nat} {w w' : World} (h : KBox b0 b1 b2 b3 fb up s kind w) (hb : Below w.heap.size w w') : KBox b0 b1 b2 b3 fb up s kind w' :=
  have k : ∀ b v, w.cell? ⟨b, 0, none⟩ = some v → w'.cell? ⟨b, 0, none⟩ = some v := fun b _ hc => (hb.cell (p := ⟨b, 0, none⟩) (lt_of_cell (a := ⟨b, 0, none⟩) hc)).trans hc
  ⟨k _ _ h.c0, k _ _ h.c1, k _ _ h.c2, k _ _ h.c3⟩
section
variable {fb rs hb : Nat} {E : TE} {w w' : World} {K : Nat → Nat} {D : Nat → List Int} {T : Nat → List Rec} {f u lim : Nat}
set_option maxHeartbeats 2000000 in
theorem create1_new {b0 b1 b2 b3 : Nat} {v : Value} {s : List UInt8} {kind : Nat} (hB : KBox b0 b1 b2 b3 fb v s kind w) (hF : FsAt fb E rs hb w) (h : S8 E K D f u lim w) (ok : E.Ok) (hkk : E.kk = E.k) (ht : TreeOk E.tn K D T) (htn : 1 ≤ E.tn) {l : List (List UInt8)} (hv : TxtsAt w v l) (hll : l.length ≤ 1000) (hok : ∀ s ∈ l, okB s = true) {p : Nat} (hp : dirT K T l = .ok p) (hs : okB s = true) (hno : lookT (T p) s = none) (hl : (T p).length < 120)
    (hkind : kind = 1 ∨ kind = 2) (id : Nat) (h1 : 1 ≤ id) (h2 : id ≤ E.tn) (hfree : K id = 0) (hlow : ∀ i, 1 ≤ i → i < id → K i ≠ 0) (hR : E.R id) (hRp : E.R p) (hWp : E.W p) (gn : Nat) (hgn : growb ((32 * (T p).length : Nat) : Int) ((32 * ((T p).length + 1) : Nat) : Int) = (gn : Int)) (hgu : gn ≤ u) (hmay : mayB (f : Int) (rs : Int) ((gn : Int) + growb 0 ((0 : Nat) : Int)) false = true) :
    Calls Tryz.prog 76 #[ptr b0, ptr b1, ptr b2, ptr b3] w fun e w' => e = .returned .nilIface ∧ (∃ f' u', S8 E (upd K id kind) (upd D p (recsL (T p ++ [⟨s, id⟩]))) f' u' lim w' ∧ f' + gn = f ∧ u ≤ u' + gn) ∧ Apart [E.mb] w w' := by
  have kDa := hidden (dirAt_calls hF h ok ht htn hv hll hok)
  have kCh := hidden (fun (wx : World) (db : Nat) (p1 : 1 ≤ p) (p2 : p ≤ E.tn) (hk : K p = 2) (hx : Below w.heap.size w wx) (hd : DirAt E db p wx) => child_none (fb := fb) (h.more hx) ok p1 p2 hk (ht.recs p p1 p2 hk).1 (ht.recs p p1 p2 hk).2 hd s hs (lookT_none hno))
  have kAd := hidden (fun (wx : World) (db : Nat) (p1 : 1 ≤ p) (p2 : p ≤ E.tn) (hk : K p = 2) (hx : Below w.heap.size w wx) (hd : DirAt E db p wx) => add_ok (hF.below hx) (h.more hx) ok hkk p1 p2 hk (ht.recs p p1 p2 hk).1 (ht.recs p p1 p2 hk).2 hd s hs (lookT_none hno) hl kind hkind id h1 h2 hfree hlow hR hRp hWp 0 false gn hgn hgu hmay)
  have c0 := hB.c0
  have c1 := hB.c1
  have hBk := hidden hB
  obtain ⟨a, cap, rfl, -⟩ := hv
  replace hp := hidden hp
  clear hF h ok ht hok hgn hmay hfree hlow hgu hno hB
  generalize l.length = LL at *
  go_enter Tryz.func76, Tryz.ntmps76
  go_wp2_with fail
  refine (kDa.out).mono ?_
  rintro ev w1 ⟨(⟨q, db, hq, rfl, hd1, hdb, q1, q2, q3⟩ | ⟨m, bk, nm, hq, -⟩), hB1⟩
  rotate_left
  · rw [hp.out] at hq; cases hq
  obtain rfl : p = q := by rw [hp.out] at hq; exact Except.ok.inj hq
  have kC1 := hidden (kCh.out w1 db q1 q2 q3 hB1 hd1)
  have hA1 := hidden (And.intro hB1 hd1)
  clear c0 c1
  have d0 := (hBk.out.below hB1).c0
  have d2 := (hBk.out.below hB1).c2
  clear kDa kCh hB1 hd1 hq
  go_wp2_with fail
  refine (kC1.out).mono ?_
  rintro ev w3 ⟨bk, rfl, hc, hB3⟩
  have kI := is_chain 11 11 w3 _ _ hc
  have hb3 : Below w.heap.size w w3 := hA1.out.1.trans (hB3.mono hA1.out.1.size)
  have hd3 : DirAt E db p w3 := hA1.out.2.below hB3
  have kA3 := hidden (kAd.out w3 db q1 q2 q3 hb3 hd3)
  obtain ⟨e0, e1, e2, e3⟩ := hBk.out.below hb3
  replace kI := hidden kI
  replace hb3 := hidden hb3
  clear hc hB3 kC1 kAd hd3 hA1 d0 d2
  go_wp2_with fail
  refine (kI.out).mono ?_
  rintro ev w4 ⟨rfl, hw4⟩
  subst w4
  dsimp only [Int.reduceBEq]
  go_wp2_with fail
  refine (kA3.out).mono ?_
  rintro ev w5 ⟨rfl, hS5, hA5⟩
  have hE := hidden (And.intro hS5 ((Apart.of_below (bs := [E.mb]) hb3.out).trans hA5))
  clear hS5 hA5 kA3 e0 e1 e2 e3
  go_wp2
  go_ret
  exact ⟨rfl, hE.out⟩
set_option maxHeartbeats 2000000 in
theorem create1_old {b0 b1 b2 b3 : Nat} {v : Value} {s : List UInt8} {kind : Nat} (hB : KBox b0 b1 b2 b3 fb v s kind w) (hF : FsAt fb E rs hb w) (h : S8 E K D f u lim w) (ok : E.Ok) (ht : TreeOk E.tn K D T) (htn : 1 ≤ E.tn) {l : List (List UInt8)} (hv : TxtsAt w v l) (hll : l.length ≤ 1000) (hok : ∀ s ∈ l, okB s = true) {p : Nat} (hp : dirT K T l = .ok p) {r : Rec} (hr : lookT (T p) s = some r) :
    Calls Tryz.prog 76 #[ptr b0, ptr b1, ptr b2, ptr b3] w fun e w' => e = .returned (num 12) ∧ Below w.heap.size w w' := by
  have kDa := hidden (dirAt_calls hF h ok ht htn hv hll hok)
  obtain ⟨hrs, i, hi⟩ := lookT_some hr
  subst hrs
  have hrm := List.mem_of_getElem? hi
  have kCh := hidden (fun (wx : World) (db : Nat) (p1 : 1 ≤ p) (p2 : p ≤ E.tn) (hk : K p = 2) (hx : Below w.heap.size w wx) (hd : DirAt E db p wx) => child_at (hF.below hx) (h.more hx) ok p1 p2 hk (ht.recs p p1 p2 hk).1 (ht.recs p p1 p2 hk).2 hd hi (ht.used p p1 p2 hk r hrm).1 (ht.used p p1 p2 hk r hrm).2)
  have c0 := hB.c0
  have c1 := hB.c1
  have hBk := hidden hB
  obtain ⟨a, cap, rfl, -⟩ := hv
  replace hp := hidden hp
  clear hF h ok ht hok hr hB
  generalize l.length = LL at *
  generalize ((K r.id : Nat) : Int) = KR at *
  go_enter Tryz.func76, Tryz.ntmps76
  go_wp2_with fail
  refine (kDa.out).mono ?_
  rintro ev w1 ⟨(⟨q, db, hq, rfl, hd1, hdb, q1, q2, q3⟩ | ⟨m, bk, nm, hq, -⟩), hB1⟩
  rotate_left
  · rw [hp.out] at hq; cases hq
  obtain rfl : p = q := by rw [hp.out] at hq; exact Except.ok.inj hq
  have kC1 := hidden (kCh.out w1 db q1 q2 q3 hB1 hd1)
  clear c0 c1
  have d0 := (hBk.out.below hB1).c0
  have d2 := (hBk.out.below hB1).c2
  replace hB1 := hidden hB1
  clear kDa kCh hd1 hq
  go_wp2_with fail
  refine (kC1.out).mono ?_
  rintro ev w3 ⟨rfl, hB3⟩
  have hb3 := hidden (hB1.out.trans (hB3.mono hB1.out.size))
  clear hB3 kC1 d0 d2
  go_wp2
  go_ret
  exact ⟨rfl, hb3.out⟩
set_option maxHeartbeats 1000000 in
theorem create1_err {b0 b1 b2 b3 : Nat} {v : Value} {s : List UInt8} {kind : Nat} (hB : KBox b0 b1 b2 b3 fb v s kind w) (hF : FsAt fb E rs hb w) (h : S8 E K D f u lim w) (ok : E.Ok) (ht : TreeOk E.tn K D T) (htn : 1 ≤ E.tn) {l : List (List UInt8)} (hv : TxtsAt w v l) (hll : l.length ≤ 1000) (hok : ∀ s ∈ l, okB s = true) {m : Int} (hp : dirT K T l = .error m) :
    Calls Tryz.prog 76 #[ptr b0, ptr b1, ptr b2, ptr b3] w fun e w' => ∃ ll ev, e = .returned ev ∧ Chain w' ll (num m) ev ∧ Below w.heap.size w w' := by
  have kDa := hidden (dirAt_calls hF h ok ht htn hv hll hok)
  have c0 := hB.c0
  have c1 := hB.c1
  obtain ⟨a, cap, rfl, -⟩ := hv
  replace hp := hidden hp
  clear hF h ok ht hok hB
  generalize l.length = LL at *
  go_enter Tryz.func76, Tryz.ntmps76
  go_wp2_with fail
  refine (kDa.out).mono ?_
  rintro ev w1 ⟨(⟨q, db, hq, -⟩ | ⟨m', bk, nm, hq, -, rfl, hc⟩), hB1⟩
  · rw [hp.out] at hq; cases hq
  obtain rfl : m = m' := by rw [hp.out] at hq; exact Except.error.inj hq
  have hE := hidden (And.intro hc hB1)
  clear hc hB1 kDa hq
  go_wp2
  go_ret
  exact ⟨_, _, rfl, hE.out⟩
end
end Go.Proofs.YtjionogjeafffaaGreatDoor
/- create, by its step; Make and Mkdir. -/
namespace Go.Proofs.YtjionogjeafffaaGreatDoor
open Go.RowKit Go.Extern.Stop Go.Stop Go.Extern Go.Maps Go.Sort Go.Shelf
set_option maxRecDepth 100000

theorem ent_create1 : ∀ (args : Array Value) (w : World), (callFunc 76 args).run Tryz.prog w = .ok (.enter 76 args) w := enters_of Tryz.func76 (by kernel_rfl) rfl
section
variable {fb rs hb : Nat} {E : TE} {w w' : World} {K : Nat → Nat} {D : Nat → List Int} {T : Nat → List Rec} {f u lim : Nat}
theorem boxes_two (w : World) (p q : Value) (tp tq : TypeId) : ∃ w2, (w.alloc (Obj.cells #[p] tp)).alloc (Obj.cells #[q] tq) = w2 ∧ Below w.heap.size w w2 ∧ w2.cell? ⟨w.heap.size, 0, none⟩ = some p ∧ w2.cell? ⟨w.heap.size + 1, 0, none⟩ = some q := by
  generalize e1 : w.alloc (Obj.cells #[p] tp) = W1
  have a1 : W1.cell? ⟨w.heap.size, 0, none⟩ = some p := by rw [← e1]; simp
  have s1 : W1.heap.size = w.heap.size + 1 := by rw [← e1]; simp
  have b1 : Below w.heap.size w W1 := by rw [← e1]; exact (Below.refl _ _).alloc (Nat.le_refl _) _
  have hBx : Below W1.heap.size W1 (W1.alloc (Obj.cells #[q] tq)) := (Below.refl _ _).alloc (Nat.le_refl _) _
  exact ⟨_, rfl, b1.trans (hBx.mono b1.size), (hBx.cell (p := ⟨w.heap.size, 0, none⟩) (lt_of_cell a1)).trans a1, by rw [← s1]; simp⟩
set_option maxHeartbeats 2000000 in
theorem create_via {path s : List UInt8} {l : List (List UInt8)} {kind : Nat} {Q : Value → World → Prop} (hlen : path.length ≤ 2000) (hp : splitB path = some (l ++ [s]))
    (kS : ∀ (wx : World) (b0 b1 b2 b3 : Nat) (up : Value), Below w.heap.size w wx → KBox b0 b1 b2 b3 fb up s kind wx → TxtsAt wx up l → Calls Tryz.prog 57 #[ptr fb, .func (.func 76) #[] #[ptr b0, ptr b1, ptr b2, ptr b3]] wx fun e w' => ∃ ev, e = .returned ev ∧ Q ev w') :
    Calls Tryz.prog 39 #[ptr fb, .string (mkB path), .int .i64 (kind : Nat)] w fun e w' => ∃ ev, e = .returned ev ∧ Q ev w' := by
  have hmf : ∀ (fn : Fn) (first cap : Array Value) (w : World), (Instr.makeFunc fn first cap).run Tryz.prog w = .ok (.func fn first cap) w := fun _ _ _ _ => rfl
  obtain ⟨w3, hw3, hB3, g0, g3⟩ := boxes_two w (ptr fb) (.int .i64 (kind : Nat)) 25 3
  have kA := hidden (apart_ok path hlen hp 12 w3)
  replace kS := hidden kS
  replace hB3 := hidden hB3
  replace hw3 := hidden hw3
  go_enter Tryz.func39, Tryz.ntmps39
  go_upto_region 1 with fail
  rw [hw3.out]
  clear hw3
  go_wp2_with fail
  refine (kA.out).mono ?_
  rintro ev w4 ⟨up, rfl, hT, hB4⟩
  have hT4 := hT
  obtain ⟨ua, uc, rfl, -⟩ := hT
  have k0 := (hB4.cell (p := ⟨w.heap.size, 0, none⟩) (lt_of_cell (a := ⟨w.heap.size, 0, none⟩) g0)).trans g0
  have k3 := (hB4.cell (p := ⟨w.heap.size + 1, 0, none⟩) (lt_of_cell (a := ⟨w.heap.size + 1, 0, none⟩) g3)).trans g3
  obtain ⟨w6, hw6, hB6, n1, n2⟩ := boxes_two w4 (.slice ua l.length uc) (.string (mkB s)) 54 9
  have m0 := (hB6.cell (p := ⟨w.heap.size, 0, none⟩) (lt_of_cell (a := ⟨w.heap.size, 0, none⟩) k0)).trans k0
  have m3 := (hB6.cell (p := ⟨w.heap.size + 1, 0, none⟩) (lt_of_cell (a := ⟨w.heap.size + 1, 0, none⟩) k3)).trans k3
  have hb6 : Below w.heap.size w w6 := hB3.out.trans ((hB4.trans (hB6.mono hB4.size)).mono hB3.out.size)
  have kS6 := hidden (kS.out w6 w.heap.size w4.heap.size (w4.heap.size + 1) (w.heap.size + 1) _ hb6 ⟨m0, n1, n2, m3⟩ (hT4.below hB6))
  replace hw6 := hidden hw6
  clear hT4 hB4 hB6 hb6 kS kA g0 g3 k0 k3 hB3
  generalize l.length = LL at *
  go_upto_region 2 with fail
  rw [hw6.out]
  clear hw6
  go_wp2_with fail
  refine (kS6.out).mono ?_
  rintro ev w7 ⟨er, rfl, hQ⟩
  replace hQ := hidden hQ
  go_wp2
  go_ret
  exact ⟨er, rfl, hQ.out⟩
theorem create_root {path : List UInt8} {kind : Nat} (hlen : path.length ≤ 2000) (hp : splitB path = some []) :
    Calls Tryz.prog 39 #[ptr fb, .string (mkB path), .int .i64 (kind : Nat)] w fun e w' => e = .returned (num 12) ∧ Below w.heap.size w w' := by
  obtain ⟨w3, hw3, hB3, g0, g3⟩ := boxes_two w (ptr fb) (.int .i64 (kind : Nat)) 25 3
  have kA := hidden (apart_root path hlen hp 12 w3)
  replace hB3 := hidden hB3
  replace hw3 := hidden hw3
  go_enter Tryz.func39, Tryz.ntmps39
  go_upto_region 1 with fail
  rw [hw3.out]
  clear hw3
  go_wp2_with fail
  refine (kA.out).mono ?_
  rintro ev w4 ⟨rfl, hB4⟩
  obtain ⟨w6, hw6, hB6, n1, n2⟩ := boxes_two w4 (.slice none 0 0) (.string ⟨#[]⟩) 54 9
  have hE := hidden (hB3.out.trans ((hB4.trans (hB6.mono hB4.size)).mono hB3.out.size))
  replace hw6 := hidden hw6
  clear hB4 hB6 n1 n2 kA g0 g3 hB3
  go_upto_region 2 with fail
  rw [hw6.out]
  clear hw6
  go_wp2
  go_ret
  exact ⟨rfl, hE.out⟩
/-- A step of create that is refused. -/
theorem create_fail (h : Fsz fb rs hb E K D T f lim w) {path s : List UInt8} {l : List (List UInt8)} {kind : Nat} (hlen : path.length ≤ 2000) (hp : splitB path = some (l ++ [s])) {m : Int} (hm : (m == 50) = false)
    (kT : ∀ (wx : World) (b0 b1 b2 b3 : Nat) (up : Value), Fsz fb rs hb E.rest K D T f lim wx → KBox b0 b1 b2 b3 fb up s kind wx → TxtsAt wx up l → Calls Tryz.prog 76 #[ptr b0, ptr b1, ptr b2, ptr b3] wx fun e w' => ∃ ll ev, e = .returned ev ∧ Chain w' ll (num m) ev ∧ Below wx.heap.size wx w') :
    Calls Tryz.prog 39 #[ptr fb, .string (mkB path), .int .i64 (kind : Nat)] w fun e w' => ∃ ev, e = .returned ev ∧ Refused fb rs hb E K D T f lim m w ev w' := by
  refine create_via (Q := fun ev w' => Refused fb rs hb E K D T f lim m w ev w') hlen hp (fun wx b0 b1 b2 b3 up hx hbx hTx => ?_)
  have hr := h.rest.below hx
  refine (step_err (E := E.rest) (K := K) (D := D) (f := f) (u := 0) (lim := lim) (P := fun w1 _ => Below wx.heap.size wx w1) hm ent_create1 hr.at_ hr.far h.pl.rest_ok ((kT wx b0 b1 b2 b3 up hr hbx hTx).mono ?_)).mono ?_
  · rintro e w1 ⟨ll, ev, rfl, hc, hB⟩
    exact ⟨ll, ev, rfl, hc, hB, hr.at_.below hB, hr.s.more hB⟩
  · rintro e w2 ⟨ll, ev, w1, rfl, hc, hB, hF2, hS2, hA⟩
    exact ⟨ev, rfl, ⟨ll, hc⟩, ⟨hF2, hS2, h.pl.at _ _ _ _ _, h.far, h.tree⟩, turns_err hx hB hA⟩
theorem create_noDir (h : Fsz fb rs hb E K D T f lim w) {path s : List UInt8} {l : List (List UInt8)} {kind : Nat} (hlen : path.length ≤ 2000) (hp : splitB path = some (l ++ [s])) {m : Int} (hm : (m == 50) = false) (hd : dirT K T l = .error m) :
    Calls Tryz.prog 39 #[ptr fb, .string (mkB path), .int .i64 (kind : Nat)] w fun e w' => ∃ ev, e = .returned ev ∧ Refused fb rs hb E K D T f lim m w ev w' := by
  have hmp := may_all (split_may hp)
  have hl6 : l.length ≤ 6 := by have := hmp.1; rw [List.length_append] at this; omega
  exact create_fail h hlen hp hm (fun wx b0 b1 b2 b3 up hr hbx hT => create1_err hbx hr.at_ hr.s.to h.pl.rest_ok hr.tree h.pl.tn1 hT (by omega) (fun x hx => hmp.2 x (List.mem_append.2 (Or.inl hx))) hd)
theorem create_old (h : Fsz fb rs hb E K D T f lim w) {path s : List UInt8} {l : List (List UInt8)} {kind : Nat} (hlen : path.length ≤ 2000) (hp : splitB path = some (l ++ [s])) {p : Nat} (hd : dirT K T l = .ok p) {r : Rec} (hr0 : lookT (T p) s = some r) :
    Calls Tryz.prog 39 #[ptr fb, .string (mkB path), .int .i64 (kind : Nat)] w fun e w' => ∃ ev, e = .returned ev ∧ Refused fb rs hb E K D T f lim 12 w ev w' := by
  have hmp := may_all (split_may hp)
  have hl6 : l.length ≤ 6 := by have := hmp.1; rw [List.length_append] at this; omega
  refine create_fail h hlen hp rfl (fun wx b0 b1 b2 b3 up hr hbx hT => ?_)
  refine (create1_old hbx hr.at_ hr.s.to h.pl.rest_ok hr.tree h.pl.tn1 hT (by omega) (fun x hx => hmp.2 x (List.mem_append.2 (Or.inl hx))) hd hr0).mono ?_
  rintro e w' ⟨rfl, hB⟩
  exact ⟨[], _, rfl, rfl, hB⟩
end
end Go.Proofs.YtjionogjeafffaaGreatDoor
/- create of a new name; Make and Mkdir, as they are called. -/
namespace Go.Proofs.YtjionogjeafffaaGreatDoor
open Go.RowKit Go.Extern.Stop Go.Stop Go.Extern Go.Maps Go.Sort Go.Shelf
set_option maxRecDepth 100000

section
variable {fb rs hb : Nat} {E : TE} {w w' : World} {K : Nat → Nat} {D : Nat → List Int} {T : Nat → List Rec} {f u lim : Nat}
theorem TreeOk.addK {tn p id kind : Nat} {s : List UInt8} (ht : TreeOk tn K D T) (p1 : 1 ≤ p) (p2 : p ≤ tn) (hk : K p = 2) (h2 : id ≤ tn) (hid : K id = 0) (hkind : kind = 1 ∨ kind = 2) (hD0 : D id = []) (hT0 : kind = 2 → T id = []) (hs : okB s = true) (h1 : 1 ≤ id) (htn : tn ≤ 200) (hno : lookT (T p) s = none) :
    TreeOk tn (upd K id kind) (upd D p (recsL (T p ++ [⟨s, id⟩]))) (upd T p (T p ++ [⟨s, id⟩])) := by
  have hpi : p ≠ id := by rintro rfl; omega
  have h1i : (1 : Nat) ≠ id := by rintro rfl; have := ht.root; omega
  obtain ⟨hD, hG⟩ := ht.recs p p1 p2 hk
  refine ⟨by rw [upd_other _ _ h1i]; exact ht.root, fun q q1 q2 hq => ?_, fun q q1 q2 hq r hr => ?_⟩
  · by_cases hqi : q = id
    · subst hqi
      rw [upd_same] at hq
      rw [upd_other _ _ (Ne.symm hpi), upd_other _ _ (Ne.symm hpi), hD0, hT0 hq]
      exact ⟨rfl, ⟨fun r hr => (by cases hr), List.nodup_nil⟩⟩
    · rw [upd_other _ _ hqi] at hq
      by_cases hqp : q = p
      · subst hqp
        rw [upd_same, upd_same]
        exact ⟨rfl, hG.put ⟨hs, h1, by show id < _; omega⟩ (lookT_none hno)⟩
      · rw [upd_other _ _ hqp, upd_other _ _ hqp]
        exact ht.recs q q1 q2 hq
  · have old : ∀ x : Rec, x.id ≤ tn → K x.id ≠ 0 → x.id ≤ tn ∧ upd K id kind x.id ≠ 0 := fun x h h' => ⟨h, by rw [upd_other _ _ (by rintro e; rw [e] at h'; exact h' hid)]; exact h'⟩
    by_cases hqi : q = id
    · subst hqi
      rw [upd_same] at hq
      rw [upd_other _ _ (Ne.symm hpi), hT0 hq] at hr
      cases hr
    · rw [upd_other _ _ hqi] at hq
      by_cases hqp : q = p
      · subst hqp
        rw [upd_same] at hr
        rcases List.mem_append.1 hr with hr | hr
        · have := ht.used q q1 q2 hq r hr
          exact old r this.1 this.2
        · obtain rfl := List.mem_singleton.1 hr
          exact ⟨h2, by show upd K id kind id ≠ 0; rw [upd_same]; omega⟩
      · rw [upd_other _ _ hqp] at hr
        have := ht.used q q1 q2 hq r hr
        exact old r this.1 this.2
set_option maxHeartbeats 2000000 in
theorem create_new (h : Fsz fb rs hb E K D T f lim w) {path s : List UInt8} {l : List (List UInt8)} {kind : Nat} (hlen : path.length ≤ 2000) (hp : splitB path = some (l ++ [s])) {p : Nat} (hd : dirT K T l = .ok p) (hno : lookT (T p) s = none) (hl : (T p).length < 120) (hkind : kind = 1 ∨ kind = 2) {id : Nat} (h1 : 1 ≤ id) (h2 : id ≤ E.tn) (hfree : K id = 0) (hT0 : kind = 2 → T id = []) (hlow : ∀ i, 1 ≤ i → i < id → K i ≠ 0) {gn : Nat} (hgn : growb ((32 * (T p).length : Nat) : Int) ((32 * ((T p).length + 1) : Nat) : Int) = (gn : Int)) (hmay : mayB (f : Int) (rs : Int) ((gn : Int) + growb 0 ((0 : Nat) : Int)) false = true) (hlim : lim ≤ 300000000) :
    Calls Tryz.prog 39 #[ptr fb, .string (mkB path), .int .i64 (kind : Nat)] w fun e w' => e = .returned .nilIface ∧ (∃ f', f' + gn = f ∧ Fsz fb rs hb E.rest (upd K id kind) (upd D p (recsL (T p ++ [⟨s, id⟩]))) (upd T p (T p ++ [⟨s, id⟩])) f' (lim + 1000) w') ∧ E.Turns fb w w' := by
  have hpl := h.pl
  have htn1 := hpl.tn1
  obtain ⟨p1, p2, hk⟩ := dirT_in h.tree htn1 hd
  obtain ⟨hDp, hGp⟩ := h.tree.recs p p1 p2 hk
  have hD0 : D id = [] := h.s.to.noBytes h1 h2 hfree
  have hpi : p ≠ id := by rintro rfl; omega
  have hmp := may_all (split_may hp)
  have hl6 : l.length ≤ 6 := by have := hmp.1; rw [List.length_append] at this; omega
  have hlok : ∀ x ∈ l, okB x = true := fun x hx => hmp.2 x (List.mem_append.2 (Or.inl hx))
  have hsok : okB s = true := hmp.2 s (by simp)
  have e0z : growb 0 ((0 : Nat) : Int) = 0 := by simp [growb, blk]
  have hc : gn ≤ f := by
    rw [e0z] at hmay
    unfold mayB at hmay
    simp only [Bool.or_eq_true, Bool.and_eq_true, decide_eq_true_eq] at hmay
    omega
  have hrl : (D p).length = 32 * (T p).length := by rw [hDp, recsL_len hGp.each]
  have hsum : sumL D [p, id] = bkL (T p).length := by
    show (blk ((D p).length : Int)).toNat + ((blk ((D id).length : Int)).toNat + 0) = _
    rw [hrl, hD0]
    show bkL (T p).length + _ = _
    simp [blk]
  have hbound : bkL (T p).length + gn ≤ 31 := by
    have e0 := bkL_eq (T p).length
    have e1 := bkL_eq ((T p).length + 1)
    have e2 := bkL_le (n := (T p).length + 1) (by omega)
    have hup : blk ((32 * (T p).length : Nat) : Int) ≤ blk ((32 * ((T p).length + 1) : Nat) : Int) := blk_upD (by omega) (by omega) (by omega)
    unfold growb at hgn
    omega
  obtain ⟨A, U, ku, ok', -, hS'⟩ := h.s.re hpl [p, id] [p, id] (fun x hx => by simp at hx; rcases hx with rfl | rfl <;> omega) (fun x hx => by simp at hx; rcases hx with rfl | rfl <;> omega) gn hc (by rw [hsum]; show 2 + 2 + _ + _ ≤ 87; omega)
  have hfar := h.far
  have hkk : E.kk = E.k := hpl.kk.symm
  refine (create_via (Q := fun ev w' => ev = .nilIface ∧ (∃ f', f' + gn = f ∧ Fsz fb rs hb E.rest (upd K id kind) (upd D p (recsL (T p ++ [⟨s, id⟩]))) (upd T p (T p ++ [⟨s, id⟩])) f' (lim + 1000) w') ∧ E.Turns fb w w') hlen hp (fun wx b0 b1 b2 b3 up hx hbx hTx => ?_)).mono (fun e w' ⟨ev, h1, h2, h3⟩ => ⟨by rw [h1, h2], h3⟩)
  have hF' : FsAt fb (E.at A U (· ∈ [p, id]) (· ∈ [p, id]) ku) rs hb wx := (h.at_.below hx).at _ _ _ _ _
  have hSx := (hS'.more hx).to
  have kC := create1_new hbx hF' hSx ok' hkk h.tree htn1 hTx (by omega) hlok hd hsok hno hl hkind id h1 h2 hfree hlow (show id ∈ [p, id] by simp) (show p ∈ [p, id] by simp) (show p ∈ [p, id] by simp) gn hgn (Nat.le_refl _) hmay
  refine (step_ok (P := fun w1 => Apart [E.mb] wx w1) (K := upd K id kind) (D := upd D p (recsL (T p ++ [⟨s, id⟩]))) (f := f - gn) (u := 0) (lim := lim) ent_create1 hF' hfar ok' hpl.far hpl.live (by show 1 ≤ E.most ∧ E.most ≤ 200; rw [hpl.most]; omega) hlim (kC.mono ?_)).mono ?_
  · rintro e w1 ⟨rfl, ⟨f1, u1, r1, r2, r3⟩, hA⟩
    have hf2 : f1 = f - gn := by omega
    rw [hf2] at r1
    exact ⟨rfl, hA, hF'.keep hA (fun hm => hfar.1 (List.mem_singleton.1 hm)), r1.low (Nat.zero_le _)⟩
  · rintro e w2 ⟨rfl, w1, hA1, hF2, hS2, hA2⟩
    refine ⟨_, rfl, rfl, ⟨f - gn, by omega, ⟨⟨hF2.c0, hF2.c1, hF2.c2, hF2.c3, hF2.c4, hF2.c5, hF2.c6, hF2.c7, hF2.f7⟩, hS2.rest, hpl.at _ _ _ _ _, hfar, h.tree.addK p1 p2 hk h2 hfree hkind hD0 hT0 hsok h1 hpl.tn hno⟩⟩, ?_⟩
    exact turns_of hx hA1 hA2
end
def sMake : ByteArray := ⟨#[109, 97, 107, 101]⟩
def sMkdir : ByteArray := ⟨#[109, 107, 100, 105, 114]⟩
set_option maxHeartbeats 1000000 in
theorem fMkdir_ok {fb : Nat} {w : World} {path : List UInt8} {Q : World → Prop} (k : Calls Tryz.prog 39 #[ptr fb, .string (mkB path), .int .i64 ((2 : Nat) : Int)] w fun e w' => e = .returned .nilIface ∧ Q w') :
    Calls Tryz.prog 21 #[ptr fb, .string (mkB path)] w fun e w' => e = .returned .nilIface ∧ Q w' := by
  replace k := hidden k
  have kW := hidden (fun (wx : World) => wrap_nil sMkdir (mkB path) wx)
  unfold sMkdir at kW
  go_enter Tryz.func21, Tryz.ntmps21
  go_wp2_with fail
  refine (k.out).mono ?_
  rintro ev w1 ⟨rfl, hQ⟩
  replace hQ := hidden hQ
  go_wp2_with fail
  refine (kW.out _).mono ?_
  rintro ev w2 ⟨rfl, hw2⟩
  subst w2
  go_wp2
  go_ret
  exact ⟨rfl, hQ.out⟩
set_option maxHeartbeats 1000000 in
theorem fMkdir_err {fb rs hb : Nat} {E : TE} {w : World} {K : Nat → Nat} {D : Nat → List Int} {T : Nat → List Rec} {f lim : Nat} {path : List UInt8} {m : Int} (k : Calls Tryz.prog 39 #[ptr fb, .string (mkB path), .int .i64 ((2 : Nat) : Int)] w fun e w' => ∃ ev, e = .returned ev ∧ Refused fb rs hb E K D T f lim m w ev w') :
    Calls Tryz.prog 21 #[ptr fb, .string (mkB path)] w fun e w' => ∃ ev, e = .returned ev ∧ Told11 fb rs hb E K D T f lim sMkdir (mkB path) m w ev w' := by
  replace k := hidden k
  have kW := hidden (fun (u : TypeId) (v : Value) (wx : World) => wrap_some sMkdir (mkB path) u v wx)
  have hsp : sMkdir = ⟨#[109, 107, 100, 105, 114]⟩ := rfl
  rw [hsp] at kW
  replace hsp := hidden hsp
  go_enter Tryz.func21, Tryz.ntmps21
  go_wp2_with fail
  refine (k.out).mono ?_
  rintro ev w1 ⟨er, rfl, ⟨ll, hc⟩, h2, h3⟩
  obtain ⟨ut, uv, rfl⟩ := Chain.held hc (Or.inr ⟨_, _, rfl⟩)
  have hE := hidden (Refused.wrapped (op := sMkdir) (nm := mkB path) hc h2 h3)
  rw [hsp.out] at hE
  clear hc h2 h3
  go_wp2_with fail
  refine (kW.out _ _ _).mono ?_
  rintro ev w2 ⟨rfl, hw2⟩
  subst w2
  go_wp2
  go_ret
  rw [hsp.out]
  exact ⟨_, rfl, hE.out⟩
set_option maxHeartbeats 1000000 in
theorem fMake_err {fb rs hb : Nat} {E : TE} {w : World} {K : Nat → Nat} {D : Nat → List Int} {T : Nat → List Rec} {f lim : Nat} {path : List UInt8} {m : Int} (k : Calls Tryz.prog 39 #[ptr fb, .string (mkB path), .int .i64 ((1 : Nat) : Int)] w fun e w' => ∃ ev, e = .returned ev ∧ Refused fb rs hb E K D T f lim m w ev w') :
    Calls Tryz.prog 25 #[ptr fb, .string (mkB path)] w fun e w' => ∃ ev, e = .returned ev ∧ Told11 fb rs hb E K D T f lim sMake (mkB path) m w ev w' := by
  replace k := hidden k
  have kW := hidden (fun (u : TypeId) (v : Value) (wx : World) => wrap_some sMake (mkB path) u v wx)
  have hsp : sMake = ⟨#[109, 97, 107, 101]⟩ := rfl
  rw [hsp] at kW
  replace hsp := hidden hsp
  go_enter Tryz.func25, Tryz.ntmps25
  go_wp2_with fail
  refine (k.out).mono ?_
  rintro ev w1 ⟨er, rfl, ⟨ll, hc⟩, h2, h3⟩
  obtain ⟨ut, uv, rfl⟩ := Chain.held hc (Or.inr ⟨_, _, rfl⟩)
  have hE := hidden (Refused.wrapped (op := sMake) (nm := mkB path) hc h2 h3)
  rw [hsp.out] at hE
  clear hc h2 h3
  go_wp2_with fail
  refine (kW.out _ _ _).mono ?_
  rintro ev w2 ⟨rfl, hw2⟩
  subst w2
  go_wp2
  go_ret
  rw [hsp.out]
  exact ⟨_, rfl, hE.out⟩
end Go.Proofs.YtjionogjeafffaaGreatDoor
/- List, Hold, Stat refused. -/
namespace Go.Proofs.YtjionogjeafffaaGreatDoor
open Go.RowKit Go.Extern.Stop Go.Stop Go.Extern Go.Maps Go.Sort Go.Shelf
set_option maxRecDepth 100000

theorem ent_list1 : ∀ (args : Array Value) (w : World), (callFunc 80 args).run Tryz.prog w = .ok (.enter 80 args) w := enters_of Tryz.func80 (by kernel_rfl) rfl
theorem ent_hold1 : ∀ (args : Array Value) (w : World), (callFunc 83 args).run Tryz.prog w = .ok (.enter 83 args) w := enters_of Tryz.func83 (by kernel_rfl) rfl
section
variable {fb rs hb : Nat} {E : TE} {w w' : World} {K : Nat → Nat} {D : Nat → List Int} {T : Nat → List Rec} {f u lim : Nat}
set_option maxHeartbeats 2000000 in
theorem list1_file {c0 c1 q : Nat} (g0 : w.cell? ⟨c0, 0, none⟩ = some (ptr fb)) (hF : FsAt fb E rs hb w) (h : S8 E K D f u lim w) (ok : E.Ok) (h1 : 1 ≤ q) (h2 : q ≤ E.tn) (hk : K q ≠ 2) :
    Calls Tryz.prog 80 #[fnV (q : Nat) (K q : Nat), ptr c0, ptr c1] w fun e w' => ∃ ll ev, e = .returned ev ∧ Chain w' ll (num 14) ev ∧ Below w.heap.size w w' := by
  obtain ⟨w1, hw1, hB1, hN1⟩ : ∃ w1, w.alloc (.cells #[.int .i64 (q : Nat), .int .i64 (K q : Nat)] 122) = w1 ∧ Below w.heap.size w w1 ∧ FnAt w1 w.heap.size (q : Nat) (K q : Nat) := ⟨_, rfl, (Below.refl _ _).alloc (Nat.le_refl _) _, fn_new _ _ _⟩
  have kO := hidden (fun (wx : World) (hx : Below w1.heap.size w1 wx) => of_kind ok (h.more (hB1.trans (hx.mono hB1.size))) h1 h2 hk)
  have hF1 := hF.below hB1
  have c2 := hF1.c2
  have hlt := hF1.lt
  have l0 := lt_of_cell (a := ⟨c0, 0, none⟩) g0
  have e0 := (hB1.cell (p := ⟨c0, 0, none⟩) l0).trans g0
  have l1 := lt_of_cell (a := ⟨c0, 0, none⟩) e0
  have n0 := hN1.c0
  have ln := hN1.lt
  replace hB1 := hidden hB1
  replace hw1 := hidden hw1
  clear hF h ok hF1 hN1
  generalize ((K q : Nat) : Int) = KQ at *
  go_enter Tryz.func80, Tryz.ntmps80
  go_upto_region 1 with fail
  rw [hw1.out]
  clear hw1
  go_region_with (go_at_call 81; refine (kO.out _ (below_drew1 w1)).mono ?_; rintro ev w4 ⟨bk, rfl, hc, hB4⟩)
  all_goals
    have hE := hidden (And.intro hc (hB1.out.trans (((below_drew1 w1).trans hB4).mono hB1.out.size)))
    clear hc hB4
    go_wp2
    go_ret
    exact ⟨_, _, rfl, hE.out⟩
theorem boxesL (w : World) (fb : Nat) : ∃ w2, (w.alloc (Obj.cells #[ptr fb] 25)).alloc (Obj.cells #[.slice none 0 0] 54) = w2 ∧ Below w.heap.size w w2 ∧ w2.cell? ⟨w.heap.size, 0, none⟩ = some (ptr fb) ∧ w2.cell? ⟨w.heap.size + 1, 0, none⟩ = some (.slice none 0 0) := boxes_two w _ _ _ _
/-- A step of at, under list, that is refused. -/
theorem list_fail (h : Fsz fb rs hb E K D T f lim w) {path : List UInt8} {l : List (List UInt8)} (hlen : path.length ≤ 2000) (hp : splitB path = some l) {q : Nat} (hq : walkT K T 1 l = .ok q) (hk : K q ≠ 2) :
    Calls Tryz.prog 40 #[ptr fb, .string (mkB path)] w fun e w' => ∃ ev, e = .returned (.tuple #[.slice none 0 0, ev]) ∧ Refused fb rs hb E K D T f lim 14 w ev w' := by
  have hmf : ∀ (fn : Fn) (first cap : Array Value) (w : World), (Instr.makeFunc fn first cap).run Tryz.prog w = .ok (.func fn first cap) w := fun _ _ _ _ => rfl
  have hmp := may_all (split_may hp)
  have hmfar := h.mfar
  obtain ⟨q1, q2, -⟩ := walkT_in h.tree l 1 q (Nat.le_refl _) h.pl.tn1 (by rw [h.tree.root]; decide) hq
  obtain ⟨wx, hw2, hx, g0, g1⟩ := boxesL w fb
  have hc2 := lt_of_cell (a := ⟨w.heap.size + 1, 0, none⟩) g1
  have kA := hidden (at_via (w := wx) (fb := fb) (fc := 80) (caps := #[ptr w.heap.size, ptr (w.heap.size + 1)]) (Q := fun ev w' => w'.cell? ⟨w.heap.size + 1, 0, none⟩ = some (.slice none 0 0) ∧ Refused fb rs hb E K D T f lim 14 w ev w') hlen hp (fun wy b0 b1 b2 names hy hbx hT => by
    have hxy : Below w.heap.size w wy := hx.trans (hy.mono hx.size)
    have hr := h.rest.below hxy
    have k0 := (hy.cell (p := ⟨w.heap.size, 0, none⟩) (lt_of_cell (a := ⟨w.heap.size, 0, none⟩) g0)).trans g0
    have kC := at1_ok (E := E.rest) (K := K) (D := D) (T := T) (q := q) ent_list1 hbx hr.at_ hr.s.to h.pl.rest_ok hr.tree h.pl.tn1 hT (by omega) hmp.2 hq (Q := fun ev w' => ∃ ll, Chain w' ll (num 14) ev ∧ Below wy.heap.size wy w') (fun wz hz => by
      refine (list1_file (E := E.rest) (K := K) (D := D) (f := f) (u := 0) (lim := lim) ((hz.cell (p := ⟨w.heap.size, 0, none⟩) (lt_of_cell (a := ⟨w.heap.size, 0, none⟩) k0)).trans k0) (hr.at_.below hz) (hr.s.to.more hz) h.pl.rest_ok q1 q2 hk).mono ?_
      rintro e w' ⟨ll, ev, rfl, hc, hB⟩
      exact ⟨ev, rfl, ll, hc, hz.trans (hB.mono hz.size)⟩)
    refine (step_err (E := E.rest) (K := K) (D := D) (f := f) (u := 0) (lim := lim) (P := fun w1 _ => Below wy.heap.size wy w1) (m := 14) rfl ent_at1 hr.at_ hr.far h.pl.rest_ok (kC.mono ?_)).mono ?_
    · rintro e w1 ⟨ev, rfl, ll, hc, hB⟩
      exact ⟨ll, ev, rfl, hc, hB, hr.at_.below hB, hr.s.more hB⟩
    · rintro e w2 ⟨ll, ev, w1, rfl, hc, hB, hF2, hS2, hA⟩
      have hA' : Apart [E.mb, fb] w1 w2 := hA
      have hb1 : Below wx.heap.size wx w1 := hy.trans (hB.mono hy.size)
      refine ⟨ev, rfl, ?_, ⟨ll, hc⟩, ⟨hF2, hS2, h.pl.at _ _ _ _ _, h.far, h.tree⟩, turns_err hxy hB hA⟩
      have k1 := (hb1.cell (p := ⟨w.heap.size + 1, 0, none⟩) hc2).trans g1
      refine (hA'.cell (p := ⟨w.heap.size + 1, 0, none⟩) (lt_of_cell (a := ⟨w.heap.size + 1, 0, none⟩) k1) (fun hm' => ?_)).trans k1
      simp only [List.mem_cons, List.not_mem_nil, or_false] at hm'
      omega))
  replace hw2 := hidden hw2
  clear h g1 hx hmp
  go_enter Tryz.func40, Tryz.ntmps40
  go_upto_region 2 with fail
  rw [hw2.out]
  clear hw2
  go_wp2_with fail
  refine (kA.out).mono ?_
  rintro ev w3 ⟨er, rfl, hc, hQ⟩
  have hl3 := lt_of_cell (a := ⟨w.heap.size + 1, 0, none⟩) hc
  replace hQ := hidden hQ
  go_wp2
  go_ret2
  exact ⟨er, rfl, hQ.out⟩
set_option maxHeartbeats 1000000 in
theorem hold1_dir {c0 q : Nat} :
    Calls Tryz.prog 83 #[fnV (q : Nat) 2, ptr c0] w fun e w' => e = .returned (num 13) ∧ Below w.heap.size w w' := by
  have hB : Below w.heap.size w (w.alloc (.cells #[.int .i64 (q : Nat), .int .i64 2] 122)) := (Below.refl _ _).alloc (Nat.le_refl _) _
  replace hB := hidden hB
  go_enter Tryz.func83, Tryz.ntmps83
  go_wp2
  go_ret
  exact ⟨rfl, hB.out⟩
set_option maxHeartbeats 2000000 in
/-- Something stands there; what is done with it has captured one thing. -/
theorem at1_one {b0 b1 b2 c0 : Nat} {fc : FuncId} (hent : ∀ (args : Array Value) (w : World), (callFunc fc args).run Tryz.prog w = .ok (.enter fc args) w) {names : Value} (hB : ABox b0 b1 b2 fb names (.func (.func fc) #[] #[ptr c0]) w) {q : Nat} (hF : FsAt fb E rs hb w) (h : S8 E K D f u lim w) (ok : E.Ok) (ht : TreeOk E.tn K D T) (htn : 1 ≤ E.tn) {l : List (List UInt8)} (hv : TxtsAt w names l) (hl : l.length ≤ 1000) (hok : ∀ s ∈ l, okB s = true) (hq0 : walkT K T 1 l = .ok q) {Q : Value → World → Prop}
    (kD : ∀ wx, Below w.heap.size w wx → Calls Tryz.prog fc #[fnV (q : Nat) (K q : Nat), ptr c0] wx fun e w' => ∃ ev, e = .returned ev ∧ Q ev w') :
    Calls Tryz.prog 116 #[ptr b0, ptr b1, ptr b2] w fun e w' => ∃ ev, e = .returned ev ∧ Q ev w' := by
  have kW := hidden (fwalk_calls hF h ok ht htn hv hl hok)
  have d0 := hB.c0
  have d1 := hB.c1
  have d2 := hB.c2
  replace hq0 := hidden hq0
  replace kD := hidden kD
  obtain ⟨a, cap, rfl, -⟩ := hv
  clear hB hF h ok ht hok
  generalize l.length = LL at *
  go_enter Tryz.func116, Tryz.ntmps116
  go_wp2_with fail
  refine (kW.out).mono ?_
  rintro ev w1 ⟨(⟨q', hq, rfl⟩ | ⟨m', bk, nm, hq, -⟩), hB1⟩
  rotate_left
  · rw [hq0.out] at hq; cases hq
  obtain rfl : q = q' := by rw [hq0.out] at hq; exact Except.ok.inj hq
  obtain ⟨w2, hw2, hB2, hN2⟩ : ∃ w2, w1.alloc (Obj.cells #[.int .i64 (q : Nat), .int .i64 (K q : Nat)] 122) = w2 ∧ Below w1.heap.size w1 w2 ∧ FnAt w2 w1.heap.size (q : Nat) (K q : Nat) := ⟨_, rfl, (Below.refl _ _).alloc (Nat.le_refl _) _, fn_new _ _ _⟩
  have hb2 : Below w.heap.size w w2 := hB1.trans (hB2.mono hB1.size)
  have e2 := (hb2.cell (p := ⟨b2, 0, none⟩) (lt_of_cell (a := ⟨b2, 0, none⟩) d2)).trans d2
  have n0 := hN2.c0
  have n1 := hN2.c1
  have hlN := hN2.lt
  have kD2 := hidden (kD.out w2 hb2)
  replace hw2 := hidden hw2
  clear hB1 hB2 hN2 hb2 kW kD hq
  generalize ((K q : Nat) : Int) = KQ at *
  go_upto_region 2 with fail
  rw [hw2.out]
  clear hw2
  go_wp2_with fail
  refine (kD2.out).mono ?_
  rintro ev w3 ⟨er, rfl, hQ⟩
  replace hQ := hidden hQ
  go_wp2
  go_ret
  exact ⟨er, rfl, hQ.out⟩
theorem hold_dir (h : Fsz fb rs hb E K D T f lim w) {path : List UInt8} {l : List (List UInt8)} (hlen : path.length ≤ 2000) (hp : splitB path = some l) {q : Nat} (hq : walkT K T 1 l = .ok q) (hk : K q = 2) :
    Calls Tryz.prog 41 #[ptr fb, .string (mkB path)] w fun e w' => ∃ ev, e = .returned (.tuple #[.int .i64 0, ev]) ∧ Refused fb rs hb E K D T f lim 13 w ev w' := by
  have hmf : ∀ (fn : Fn) (first cap : Array Value) (w : World), (Instr.makeFunc fn first cap).run Tryz.prog w = .ok (.func fn first cap) w := fun _ _ _ _ => rfl
  have hmp := may_all (split_may hp)
  obtain ⟨wx, hw2, hx⟩ : ∃ wx, w.alloc (Obj.cells #[.int .i64 0] 3) = wx ∧ Below w.heap.size w wx := ⟨_, rfl, (Below.refl _ _).alloc (Nat.le_refl _) _⟩
  have kA := hidden (at_via (w := wx) (fb := fb) (fc := 83) (caps := #[ptr w.heap.size]) (Q := fun ev w' => Refused fb rs hb E K D T f lim 13 w ev w') hlen hp (fun wy b0 b1 b2 names hy hbx hT => by
    have hxy : Below w.heap.size w wy := hx.trans (hy.mono hx.size)
    have hr := h.rest.below hxy
    have kC := at1_one (E := E.rest) (K := K) (D := D) (T := T) (q := q) ent_hold1 hbx hr.at_ hr.s.to h.pl.rest_ok hr.tree h.pl.tn1 hT (by omega) hmp.2 hq (Q := fun ev w' => ev = num 13 ∧ Below wy.heap.size wy w') (fun wz hz => by
      rw [hk]
      refine (hold1_dir (w := wz) (q := q)).mono ?_
      rintro e w' ⟨rfl, hB⟩
      exact ⟨_, rfl, rfl, hz.trans (hB.mono hz.size)⟩)
    refine (step_err (E := E.rest) (K := K) (D := D) (f := f) (u := 0) (lim := lim) (P := fun w1 _ => Below wy.heap.size wy w1) (m := 13) rfl ent_at1 hr.at_ hr.far h.pl.rest_ok (kC.mono ?_)).mono ?_
    · rintro e w1 ⟨ev, rfl, rfl, hB⟩
      exact ⟨[], _, rfl, rfl, hB, hr.at_.below hB, hr.s.more hB⟩
    · rintro e w2 ⟨ll, ev, w1, rfl, hc, hB, hF2, hS2, hA⟩
      exact ⟨ev, rfl, ⟨ll, hc⟩, ⟨hF2, hS2, h.pl.at _ _ _ _ _, h.far, h.tree⟩, turns_err hxy hB hA⟩))
  replace hw2 := hidden hw2
  clear h hx hmp
  go_enter Tryz.func41, Tryz.ntmps41
  go_upto_region 2 with fail
  rw [hw2.out]
  clear hw2
  go_wp2_with fail
  refine (kA.out).mono ?_
  rintro ev w3 ⟨er, rfl, ⟨ll, hc⟩, hQ⟩
  obtain ⟨ut, uv, rfl⟩ := Chain.held hc (Or.inr ⟨_, _, rfl⟩)
  have hE := hidden (And.intro hc hQ)
  clear hc hQ
  go_wp2
  go_ret2
  exact ⟨_, rfl, ⟨ll, hE.out.1⟩, hE.out.2⟩
end
end Go.Proofs.YtjionogjeafffaaGreatDoor
/- What is refused of the root, without a step; Remove and Rename, as they are called; Stat of what is not there. -/
namespace Go.Proofs.YtjionogjeafffaaGreatDoor
open Go.RowKit Go.Extern.Stop Go.Stop Go.Extern Go.Maps Go.Sort Go.Shelf
set_option maxRecDepth 100000

section
variable {fb rs hb : Nat} {E : TE} {w w' : World} {K : Nat → Nat} {D : Nat → List Int} {T : Nat → List Rec} {f u lim : Nat}
theorem refused_none (h : Fsz fb rs hb E K D T f lim w) (hB : Below w.heap.size w w') (m : Int) : Refused fb rs hb E K D T f lim m w (num m) w' := ⟨⟨[], rfl⟩, h.rest.below hB, Apart.of_below hB⟩
set_option maxHeartbeats 1000000 in
theorem remove_root (h : Fsz fb rs hb E K D T f lim w) {path : List UInt8} (hlen : path.length ≤ 2000) (hp : splitB path = some []) :
    Calls Tryz.prog 43 #[ptr fb, .string (mkB path)] w fun e w' => ∃ ev, e = .returned ev ∧ Refused fb rs hb E K D T f lim 1 w ev w' := by
  obtain ⟨w3, hw3, hB3⟩ : ∃ w3, w.alloc (Obj.cells #[ptr fb] 25) = w3 ∧ Below w.heap.size w w3 := ⟨_, rfl, (Below.refl _ _).alloc (Nat.le_refl _) _⟩
  have kA := hidden (apart_root path hlen hp 1 w3)
  have hfin := hidden (fun (wx : World) (hx : Below w.heap.size w wx) => refused_none h hx 1)
  replace hB3 := hidden hB3
  replace hw3 := hidden hw3
  clear h
  go_enter Tryz.func43, Tryz.ntmps43
  go_upto_region 1 with fail
  rw [hw3.out]
  clear hw3
  go_wp2_with fail
  refine (kA.out).mono ?_
  rintro ev w4 ⟨rfl, hB4⟩
  obtain ⟨w6, hw6, hB6, n1, n2⟩ := boxes_two w4 (.slice none 0 0) (.string ⟨#[]⟩) 54 9
  have hE := hidden (hfin.out w6 (hB3.out.trans ((hB4.trans (hB6.mono hB4.size)).mono hB3.out.size)))
  replace hw6 := hidden hw6
  clear hB4 hB6 n1 n2 kA hB3 hfin
  go_upto_region 2 with fail
  rw [hw6.out]
  clear hw6
  go_wp2
  go_ret
  exact ⟨_, rfl, hE.out⟩
set_option maxHeartbeats 1000000 in
theorem put_root (h : Fsz fb rs hb E K D T f lim w) {path : List UInt8} (hlen : path.length ≤ 2000) (hp : splitB path = some []) :
    Calls Tryz.prog 34 #[ptr fb, .string (mkB path), .slice none 0 0, .bool false] w fun e w' => ∃ ev, e = .returned ev ∧ Refused fb rs hb E K D T f lim 13 w ev w' := by
  obtain ⟨w3, hw3, hB3⟩ : ∃ w3, ((w.alloc (Obj.cells #[ptr fb] 25)).alloc (Obj.cells #[.slice none 0 0] 42)).alloc (Obj.cells #[.bool false] 4) = w3 ∧ Below w.heap.size w w3 := ⟨_, rfl, (((Below.refl _ _).alloc (Nat.le_refl _) _).alloc (by simp) _).alloc (by simp; omega) _⟩
  have kA := hidden (apart_root path hlen hp 13 w3)
  have hfin := hidden (fun (wx : World) (hx : Below w.heap.size w wx) => refused_none h hx 13)
  replace hB3 := hidden hB3
  replace hw3 := hidden hw3
  clear h
  go_enter Tryz.func34, Tryz.ntmps34
  go_upto_region 1 with fail
  rw [hw3.out]
  clear hw3
  go_wp2_with fail
  refine (kA.out).mono ?_
  rintro ev w4 ⟨rfl, hB4⟩
  obtain ⟨w6, hw6, hB6, n1, n2⟩ := boxes_two w4 (.slice none 0 0) (.string ⟨#[]⟩) 54 9
  have hE := hidden (hfin.out w6 (hB3.out.trans ((hB4.trans (hB6.mono hB4.size)).mono hB3.out.size)))
  replace hw6 := hidden hw6
  clear hB4 hB6 n1 n2 kA hB3 hfin
  go_upto_region 2 with fail
  rw [hw6.out]
  clear hw6
  go_wp2
  go_ret
  exact ⟨_, rfl, hE.out⟩
set_option maxHeartbeats 2000000 in
theorem rename_root (h : Fsz fb rs hb E K D T f lim w) {a b : List UInt8} {lb : List (List UInt8)} (hla : a.length ≤ 2000) (hlb : b.length ≤ 2000) (hpa : splitB a = some []) (hpb : splitB b = some lb) :
    Calls Tryz.prog 35 #[ptr fb, .string (mkB a), .string (mkB b)] w fun e w' => ∃ ev, e = .returned ev ∧ Refused fb rs hb E K D T f lim 1 w ev w' := by
  obtain ⟨w1, hw1, hB1, g0, g1, g2⟩ := boxesR w fb a b
  have l1 := lt_of_cell (a := ⟨w.heap.size + 1, 0, none⟩) g1
  have l2 := lt_of_cell (a := ⟨w.heap.size + 1 + 1, 0, none⟩) g2
  have kA := split_calls a w1 hla
  unfold ToldS at kA
  rw [hpa] at kA
  replace kA := hidden kA
  have kB := fun wx => split_calls b wx hlb
  unfold ToldS at kB
  rw [hpb] at kB
  replace kB := hidden kB
  have hfin := hidden (fun (wx : World) (hx : Below w.heap.size w wx) => refused_none h hx 1)
  have hb1 := hidden hB1
  replace hw1 := hidden hw1
  clear hB1 h g0
  go_enter Tryz.func35, Tryz.ntmps35
  go_upto_region 1 with fail
  rw [hw1.out]
  clear hw1
  go_wp2_with fail
  refine (kA.out).mono ?_
  rintro ev w2 ⟨v2, rfl, hT2, hB2⟩
  obtain ⟨a2, c2, rfl, -⟩ := (show TxtsAt w2 v2 ([] : List (List UInt8)) from hT2)
  have k2 := (hB2.cell (p := ⟨w.heap.size + 1 + 1, 0, none⟩) l2).trans g2
  have m2 := lt_of_cell (a := ⟨w.heap.size + 1 + 1, 0, none⟩) k2
  have hb2 := hidden (hb1.out.trans (hB2.mono hb1.out.size))
  clear hT2 hB2 kA g1 g2 l1 l2
  dsimp only [Option.isSome, List.length_nil]
  go_wp2_with fail
  refine (kB.out _).mono ?_
  rintro ev w3 ⟨v3, rfl, hT3, hB3⟩
  obtain ⟨a3, c3, rfl, -⟩ := (show TxtsAt w3 v3 lb from hT3)
  have hE := hidden (hfin.out w3 (hb2.out.trans (hB3.mono hb2.out.size)))
  clear hT3 hB3 kB k2 m2 hb1 hb2 hfin
  dsimp only [Option.isSome]
  generalize lb.length = LB at *
  go_wp2
  go_ret
  exact ⟨_, rfl, hE.out⟩
end
def sRemove : ByteArray := ⟨#[114, 101, 109, 111, 118, 101]⟩
def sList : ByteArray := ⟨#[108, 105, 115, 116]⟩
def sHold : ByteArray := ⟨#[104, 111, 108, 100]⟩
section
variable {fb rs hb : Nat} {E : TE} {w w' : World} {K : Nat → Nat} {D : Nat → List Int} {T : Nat → List Rec} {f u lim : Nat}
set_option maxHeartbeats 1000000 in
theorem fList_err {path : List UInt8} {m : Int} (k : Calls Tryz.prog 40 #[ptr fb, .string (mkB path)] w fun e w' => ∃ ev, e = .returned (.tuple #[.slice none 0 0, ev]) ∧ Refused fb rs hb E K D T f lim m w ev w') :
    Calls Tryz.prog 22 #[ptr fb, .string (mkB path)] w fun e w' => ∃ ev, e = .returned (.tuple #[.slice none 0 0, ev]) ∧ Told11 fb rs hb E K D T f lim sList (mkB path) m w ev w' := by
  replace k := hidden k
  have kW := hidden (fun (u : TypeId) (v : Value) (wx : World) => wrap_some sList (mkB path) u v wx)
  have hsp : sList = ⟨#[108, 105, 115, 116]⟩ := rfl
  rw [hsp] at kW
  replace hsp := hidden hsp
  go_enter Tryz.func22, Tryz.ntmps22
  go_wp2_with fail
  refine (k.out).mono ?_
  rintro ev w1 ⟨er, rfl, ⟨ll, hc⟩, h2, h3⟩
  obtain ⟨ut, uv, rfl⟩ := Chain.held hc (Or.inr ⟨_, _, rfl⟩)
  have hE := hidden (Refused.wrapped (op := sList) (nm := mkB path) hc h2 h3)
  rw [hsp.out] at hE
  clear hc h2 h3
  go_wp2_with fail
  refine (kW.out _ _ _).mono ?_
  rintro ev w2 ⟨rfl, hw2⟩
  subst w2
  go_wp2
  go_ret2
  rw [hsp.out]
  exact ⟨_, rfl, hE.out⟩
set_option maxHeartbeats 1000000 in
theorem fHold_err {path : List UInt8} {m : Int} (k : Calls Tryz.prog 41 #[ptr fb, .string (mkB path)] w fun e w' => ∃ ev, e = .returned (.tuple #[.int .i64 0, ev]) ∧ Refused fb rs hb E K D T f lim m w ev w') :
    Calls Tryz.prog 23 #[ptr fb, .string (mkB path)] w fun e w' => ∃ ev, e = .returned (.tuple #[.int .i64 0, ev]) ∧ Told11 fb rs hb E K D T f lim sHold (mkB path) m w ev w' := by
  replace k := hidden k
  have kW := hidden (fun (u : TypeId) (v : Value) (wx : World) => wrap_some sHold (mkB path) u v wx)
  have hsp : sHold = ⟨#[104, 111, 108, 100]⟩ := rfl
  rw [hsp] at kW
  replace hsp := hidden hsp
  go_enter Tryz.func23, Tryz.ntmps23
  go_wp2_with fail
  refine (k.out).mono ?_
  rintro ev w1 ⟨er, rfl, ⟨ll, hc⟩, h2, h3⟩
  obtain ⟨ut, uv, rfl⟩ := Chain.held hc (Or.inr ⟨_, _, rfl⟩)
  have hE := hidden (Refused.wrapped (op := sHold) (nm := mkB path) hc h2 h3)
  rw [hsp.out] at hE
  clear hc h2 h3
  go_wp2_with fail
  refine (kW.out _ _ _).mono ?_
  rintro ev w2 ⟨rfl, hw2⟩
  subst w2
  go_wp2
  go_ret2
  rw [hsp.out]
  exact ⟨_, rfl, hE.out⟩
set_option maxHeartbeats 1000000 in
theorem fRemove_err {path : List UInt8} {m : Int} (k : Calls Tryz.prog 43 #[ptr fb, .string (mkB path)] w fun e w' => ∃ ev, e = .returned ev ∧ Refused fb rs hb E K D T f lim m w ev w') :
    Calls Tryz.prog 26 #[ptr fb, .string (mkB path)] w fun e w' => ∃ ev, e = .returned ev ∧ Told11 fb rs hb E K D T f lim sRemove (mkB path) m w ev w' := by
  replace k := hidden k
  have kW := hidden (fun (u : TypeId) (v : Value) (wx : World) => wrap_some sRemove (mkB path) u v wx)
  have hsp : sRemove = ⟨#[114, 101, 109, 111, 118, 101]⟩ := rfl
  rw [hsp] at kW
  replace hsp := hidden hsp
  go_enter Tryz.func26, Tryz.ntmps26
  go_wp2_with fail
  refine (k.out).mono ?_
  rintro ev w1 ⟨er, rfl, ⟨ll, hc⟩, h2, h3⟩
  obtain ⟨ut, uv, rfl⟩ := Chain.held hc (Or.inr ⟨_, _, rfl⟩)
  have hE := hidden (Refused.wrapped (op := sRemove) (nm := mkB path) hc h2 h3)
  rw [hsp.out] at hE
  clear hc h2 h3
  go_wp2_with fail
  refine (kW.out _ _ _).mono ?_
  rintro ev w2 ⟨rfl, hw2⟩
  subst w2
  go_wp2
  go_ret
  rw [hsp.out]
  exact ⟨_, rfl, hE.out⟩
set_option maxHeartbeats 1000000 in
theorem fRename_err {path b : List UInt8} {m : Int} (k : Calls Tryz.prog 35 #[ptr fb, .string (mkB path), .string (mkB b)] w fun e w' => ∃ ev, e = .returned ev ∧ Refused fb rs hb E K D T f lim m w ev w') :
    Calls Tryz.prog 16 #[ptr fb, .string (mkB path), .string (mkB b)] w fun e w' => ∃ ev, e = .returned ev ∧ Told11 fb rs hb E K D T f lim sRename (mkB path) m w ev w' := by
  replace k := hidden k
  have kW := hidden (fun (u : TypeId) (v : Value) (wx : World) => wrap_some sRename (mkB path) u v wx)
  have hsp : sRename = ⟨#[114, 101, 110, 97, 109, 101]⟩ := rfl
  rw [hsp] at kW
  replace hsp := hidden hsp
  go_enter Tryz.func16, Tryz.ntmps16
  go_wp2_with fail
  refine (k.out).mono ?_
  rintro ev w1 ⟨er, rfl, ⟨ll, hc⟩, h2, h3⟩
  obtain ⟨ut, uv, rfl⟩ := Chain.held hc (Or.inr ⟨_, _, rfl⟩)
  have hE := hidden (Refused.wrapped (op := sRename) (nm := mkB path) hc h2 h3)
  rw [hsp.out] at hE
  clear hc h2 h3
  go_wp2_with fail
  refine (kW.out _ _ _).mono ?_
  rintro ev w2 ⟨rfl, hw2⟩
  subst w2
  go_wp2
  go_ret
  rw [hsp.out]
  exact ⟨_, rfl, hE.out⟩
end
end Go.Proofs.YtjionogjeafffaaGreatDoor
/- Stat of what is not there. -/
namespace Go.Proofs.YtjionogjeafffaaGreatDoor
open Go.RowKit Go.Extern.Stop Go.Stop Go.Extern Go.Maps Go.Sort Go.Shelf
set_option maxRecDepth 100000

section
variable {fb rs hb : Nat} {E : TE} {w w' : World} {K : Nat → Nat} {D : Nat → List Int} {T : Nat → List Rec} {f u lim : Nat}
/-- What is behind a store into cells of one's own that hold no text. -/
theorem Refused.stored {m : Int} {ev : Value} {w3 : World} {b : Nat} {q : Bool} (h : Refused fb rs hb E K D T f lim m w ev w') (hfb : fb < w.heap.size) (hah : E.Ahead w.heap.size) (hA : Apart [b] w' w3) (hge : w.heap.size ≤ b) (hc : w'.cell? ⟨b, 0, none⟩ = some (.bool q)) : Refused fb rs hb E K D T f lim m w ev w3 := by
  obtain ⟨⟨ll, h1⟩, h2, h3⟩ := h
  have hB : Below w.heap.size w' w3 := hA.below (by simpa using hge) h3.size
  exact ⟨⟨ll, Chain.apart hA (by simp [hc]) _ _ _ h1⟩, ⟨h2.at_.keep (apart_behind hB) (not_behind hfb), h2.s.over hah hB, h2.pl, h2.far, h2.tree⟩, h3.over (Nat.le_refl _) hB⟩
theorem Told11.stored {m : Int} {op nm : ByteArray} {ev : Value} {w3 : World} {b : Nat} {q : Bool} (h : Told11 fb rs hb E K D T f lim op nm m w ev w') (hfb : fb < w.heap.size) (hah : E.Ahead w.heap.size) (hA : Apart [b] w' w3) (hge : w.heap.size ≤ b) (hc : w'.cell? ⟨b, 0, none⟩ = some (.bool q)) : Told11 fb rs hb E K D T f lim op nm m w ev w3 := by
  obtain ⟨⟨ll, bb, he, h1⟩, h2, h3⟩ := h
  have hB : Below w.heap.size w' w3 := hA.below (by simpa using hge) h3.size
  exact ⟨⟨ll, bb, he, Chain.apart hA (by simp [hc]) _ _ _ h1⟩, ⟨h2.at_.keep (apart_behind hB) (not_behind hfb), h2.s.over hah hB, h2.pl, h2.far, h2.tree⟩, h3.over (Nat.le_refl _) hB⟩
set_option maxHeartbeats 2000000 in
theorem stat_no (h : Fsz fb rs hb E K D T f lim w) {path : List UInt8} {l : List (List UInt8)} (hlen : path.length ≤ 2000) (hp : splitB path = some l) {m : Int} (hm : (m == 50) = false) (hq : walkT K T 1 l = .error m) :
    Calls Tryz.prog 42 #[ptr fb, .string (mkB path)] w fun e w' => ∃ ev, e = .returned (.tuple #[inV false 0 0, ev]) ∧ Refused fb rs hb E K D T f lim m w ev w' := by
  have hmf : ∀ (fn : Fn) (first cap : Array Value) (w : World), (Instr.makeFunc fn first cap).run Tryz.prog w = .ok (.func fn first cap) w := fun _ _ _ _ => rfl
  have hmp := may_all (split_may hp)
  have hmfar := h.mfar
  obtain ⟨w2, hw2, hB2, g0, g1, g2⟩ := boxesIn w fb
  have kS := hidden (at_via (w := w2) (fb := fb) (fc := 84) (caps := #[ptr w.heap.size, ptr (w.heap.size + 1 + 1)]) (Q := fun ev w' => InAt w' (w.heap.size + 1 + 1) false 0 0 ∧ InAt w' (w.heap.size + 1) false 0 0 ∧ Refused fb rs hb E K D T f lim m w ev w') hlen hp (fun wy b0 b1 b2 names hy hbx hT => by
    have hxy : Below w.heap.size w wy := hB2.trans (hy.mono hB2.size)
    have hr := h.rest.below hxy
    have k1 := g2.below hy
    have k2 := g1.below hy
    refine (step_err (E := E.rest) (K := K) (D := D) (f := f) (u := 0) (lim := lim) (P := fun w1 _ => Below wy.heap.size wy w1) hm ent_at1 hr.at_ hr.far h.pl.rest_ok ((at1_no hbx hr.at_ hr.s.to h.pl.rest_ok hr.tree h.pl.tn1 hT (by omega) hmp.2 hq).mono ?_)).mono ?_
    · rintro e w1 ⟨ll, ev, rfl, hc, hB⟩
      exact ⟨ll, ev, rfl, hc, hB, hr.at_.below hB, hr.s.more hB⟩
    · rintro e w3 ⟨ll, ev, w1, rfl, hc, hB, hF2, hS2, hA⟩
      have hA' : Apart [E.mb, fb] w1 w3 := hA
      refine ⟨ev, rfl, (k1.below hB).keep hA' (by simp; omega), (k2.below hB).keep hA' (by simp; omega), ⟨ll, hc⟩, ⟨hF2, hS2, h.pl.at _ _ _ _ _, h.far, h.tree⟩, turns_err hxy hB hA⟩))
  have hfbl := hidden h.at_.lt
  have hah' := hidden h.s.to.lts
  clear h g1 g2 hmp hmfar
  replace hw2 := hidden hw2
  go_enter Tryz.func42, Tryz.ntmps42
  go_upto_region 2 with fail
  rw [hw2.out]
  clear hw2
  go_wp2_with fail
  refine (kS.out).mono ?_
  rintro ev w4 ⟨er, rfl, hI4, hI5, hQ⟩
  have r0 := hI4.c0
  have r1 := hI4.c1
  have r2 := hI4.c2
  have s0 := hI5.c0
  have s1 := hI5.c1
  have s2 := hI5.c2
  have z0 := hI5.f0
  have z1 := hI5.f1
  have z2 := hI5.f2
  have lR := hI4.lt
  have lQ := hI5.lt
  have hA : Apart [w.heap.size + 1] w4 (((w4.setCell ⟨w.heap.size + 1, 0, none⟩ (.bool false)).setCell ⟨w.heap.size + 1, 1, none⟩ (.int .i64 0)).setCell ⟨w.heap.size + 1, 2, none⟩ (.int .i64 0)) := (((Apart.refl _ w4).setCell (p := ⟨w.heap.size + 1, 0, none⟩) (by simp) _).setCell (p := ⟨w.heap.size + 1, 1, none⟩) (by simp) _).setCell (p := ⟨w.heap.size + 1, 2, none⟩) (by simp) _
  have hE := hidden (And.intro (((hI5.s0 false).s1 0).s2 0) (hQ.stored hfbl.out hah'.out hA (by omega) s0))
  clear hI4 hI5 hQ hA kS g0
  go_wp2
  (try simp only [Exit.inBlock, Exit.then])
  obtain ⟨e1, e2⟩ := hE.out
  exact bodyPost_ret (ret_in rfl rfl e1) rfl ⟨er, rfl, e2⟩
set_option maxHeartbeats 2000000 in
theorem fStat_err (h : Fsz fb rs hb E K D T f lim w) {path : List UInt8} {l : List (List UInt8)} (hlen : path.length ≤ 2000) (hp : splitB path = some l) {m : Int} (hm : (m == 50) = false) (hq : walkT K T 1 l = .error m) :
    Calls Tryz.prog 24 #[ptr fb, .string (mkB path)] w fun e w' => ∃ ev, e = .returned (.tuple #[inV false 0 0, ev]) ∧ Told11 fb rs hb E K D T f lim sStat (mkB path) m w ev w' := by
  obtain ⟨w1, hw1, hB1, hN1⟩ : ∃ w1, w.alloc (Obj.cells #[.bool false, .int .i64 0, .int .i64 0] 60) = w1 ∧ Below w.heap.size w w1 ∧ InAt w1 w.heap.size false 0 0 := ⟨_, rfl, (Below.refl _ _).alloc (Nat.le_refl _) _, in_new _ _ _ _⟩
  have k := hidden (stat_no (h.below hB1) hlen hp hm hq)
  have kW := hidden (fun (u : TypeId) (v : Value) (wx : World) => wrap_some sStat (mkB path) u v wx)
  have hsp : sStat = ⟨#[115, 116, 97, 116]⟩ := rfl
  rw [hsp] at kW
  replace hsp := hidden hsp
  have hah := hidden h.s.to.lts
  have hfbl := hidden h.at_.lt
  have hno' := hidden (show w.heap.size ∉ [E.d, E.g, E.mb, fb] from by
    have h1 := h.s.to.lts
    have h2 := h.at_.lt
    unfold TE.Ahead at h1
    simp only [List.mem_cons, List.not_mem_nil, or_false]
    omega)
  have hBN := hidden (And.intro hB1 hN1)
  replace hw1 := hidden hw1
  clear h hB1 hN1
  go_enter Tryz.func24, Tryz.ntmps24
  go_upto_region 1 with fail
  rw [hw1.out]
  clear hw1
  go_wp2_with fail
  refine (k.out).mono ?_
  rintro ev w2 ⟨er, rfl, ⟨ll, hc⟩, hz2, hT2⟩
  obtain ⟨ut, uv, rfl⟩ := Chain.held hc (Or.inr ⟨_, _, rfl⟩)
  have hT2' : Apart [E.d, E.g, E.mb, fb] w1 w2 := hT2
  obtain ⟨w3, hw3, hB3, hN3⟩ : ∃ w3, w2.alloc (Obj.cells #[.bool false, .int .i64 0, .int .i64 0] 60) = w3 ∧ Below w2.heap.size w2 w3 ∧ InAt w3 w2.heap.size false 0 0 := ⟨_, rfl, (Below.refl _ _).alloc (Nat.le_refl _) _, in_new _ _ _ _⟩
  have hR3 := (hBN.out.2.keep hT2' hno'.out).below hB3
  have n0 := hN3.c0
  have n1 := hN3.c1
  have n2 := hN3.c2
  have ln := hN3.lt
  have hsz : w.heap.size ≤ w3.heap.size := Nat.le_trans hBN.out.1.size (Nat.le_trans hT2'.size hB3.size)
  have hT3 : E.Turns fb w w3 := ((Apart.of_below hBN.out.1).trans hT2').trans (Apart.of_below hB3)
  have href : Refused fb rs hb E K D T f lim m w (.iface ut uv) w3.drew := ⟨⟨ll, Chain.below (hB3.trans ((below_drew1 w3).mono hB3.size)) _ _ _ hc⟩, (hz2.below hB3).below (below_drew1 w3), hT3.trans (Apart.of_below (below_drew1 w3))⟩
  have hlw : w.heap.size < w3.drew.heap.size := hR3.lt
  obtain ⟨W4, hW4, hB4, hTo⟩ : ∃ W4, w3.drew.alloc (fcells sStat (mkB path) (.iface ut uv)) = W4 ∧ Below w3.drew.heap.size w3.drew W4 ∧ Told11 fb rs hb E K D T f lim sStat (mkB path) m w (flt w3.drew.heap.size) W4 := ⟨_, rfl, (Below.refl _ _).alloc (Nat.le_refl _) _, Refused.wrapped (op := sStat) (nm := mkB path) href.1.choose_spec href.2.1 href.2.2⟩
  have hR4 := (hR3.below (below_drew1 w3)).below hB4
  have r0 := hR4.c0
  have r1 := hR4.c1
  have r2 := hR4.c2
  have z0 := hR4.f0
  have z1 := hR4.f1
  have z2 := hR4.f2
  have lR := hR4.lt
  have e0 := ((hN3.below (below_drew1 w3)).below hB4).c0
  have e1 := ((hN3.below (below_drew1 w3)).below hB4).c1
  have e2 := ((hN3.below (below_drew1 w3)).below hB4).c2
  have hN3h := hidden hN3
  have hR3h := hidden hR3
  have hR4h := hidden hR4
  have hToh := hidden hTo
  replace hw3 := hidden hw3
  rw [hsp.out] at hW4
  replace hW4 := hidden hW4
  clear hz2 hT2 hT2' hB3 hN3 hR3 hT3 hBN k hno' hc href hB4 hTo hR4
  generalize hX3 : w2.heap.size = x3 at *
  go_upto_region 2 with fail
  rw [hw3.out]
  clear hw3
  go_region_with (go_at_call 30; refine (kW.out _ _ _).mono ?_; rintro ev w4 ⟨rfl, hw4⟩; subst w4; rw [hW4.out])
  all_goals
    go_wp2
    (try simp only [Exit.inBlock, Exit.then])
    have hst := ((hR4h.out.s0 false).s1 0).s2 0
    have hA : Apart [w.heap.size] W4 (((W4.setCell ⟨w.heap.size, 0, none⟩ (.bool false)).setCell ⟨w.heap.size, 1, none⟩ (.int .i64 0)).setCell ⟨w.heap.size, 2, none⟩ (.int .i64 0)) := (((Apart.refl _ W4).setCell (p := ⟨w.heap.size, 0, none⟩) (by simp) _).setCell (p := ⟨w.heap.size, 1, none⟩) (by simp) _).setCell (p := ⟨w.heap.size, 2, none⟩) (by simp) _
    exact bodyPost_ret (ret_in rfl rfl hst) rfl ⟨flt w3.drew.heap.size, rfl, hToh.out.stored hfbl.out hah.out hA (Nat.le_refl _) r0⟩
end
end Go.Proofs.YtjionogjeafffaaGreatDoor
