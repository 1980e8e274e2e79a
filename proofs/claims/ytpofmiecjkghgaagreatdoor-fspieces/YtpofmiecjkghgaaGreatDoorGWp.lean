/- create's closure: a new name, an old one, no directory. -/
import Derived.Test.YtpofmiecjkghgaaGreatDoorGWg
namespace Go.Proofs.YtpofmiecjkghgaaGreatDoor
open Go.RowKit Go.Extern.Stop Go.Stop Go.Extern Go.Maps Go.Sort Go.Shelf
set_option maxRecDepth 100000
structure KBox (b0 b1 b2 b3 fb : Nat) (up : Value) (s : List UInt8) (kind : Nat) (w : World) : Prop where
  c0 : w.cell? ⟨b0, 0, none⟩ = some (ptr fb)
  c1 : w.cell? ⟨b1, 0, none⟩ = some up
  c2 : w.cell? ⟨b2, 0, none⟩ = some (.string (mkB s))
  c3 : w.cell? ⟨b3, 0, none⟩ = some (.int .i64 (kind : Nat))
theorem KBox.below {b0 b1 b2 b3 fb : Nat} {up : Value} {s : List UInt8} {kind : Nat} {w w' : World} (h : KBox b0 b1 b2 b3 fb up s kind w) (hb : Below w.heap.size w w') : KBox b0 b1 b2 b3 fb up s kind w' :=
  have k : ∀ b v, w.cell? ⟨b, 0, none⟩ = some v -> w'.cell? ⟨b, 0, none⟩ = some v := fun b _ hc => (hb.cell (p := ⟨b, 0, none⟩) (lt_of_cell (a := ⟨b, 0, none⟩) hc)).trans hc
  ⟨k _ _ h.c0, k _ _ h.c1, k _ _ h.c2, k _ _ h.c3⟩
section
variable {fb rs hb : Nat} {E : TE} {w w' : World} {K : Nat -> Nat} {D : Nat -> List Int} {T : Nat -> List Rec} {f u lim : Nat}
set_option maxHeartbeats 2000000 in
theorem create1_new {b0 b1 b2 b3 : Nat} {v : Value} {s : List UInt8} {kind : Nat} (hB : KBox b0 b1 b2 b3 fb v s kind w) (hF : FsAt fb E rs hb w) (h : S8 E K D f u lim w) (ok : E.Ok) (hkk : E.kk = E.k) (ht : TreeOk E.tn K D T) (htn : 1 <= E.tn) {l : List (List UInt8)} (hv : TxtsAt w v l) (hll : l.length <= 1000) (hok : ∀ s ∈ l, okB s = true) {p : Nat} (hp : dirT K T l = .ok p) (hs : okB s = true) (hno : lookT (T p) s = none) (hl : (T p).length < 120)
    (hkind : kind = 1 \/ kind = 2) (id : Nat) (h1 : 1 <= id) (h2 : id <= E.tn) (hfree : K id = 0) (hlow : ∀ i, 1 <= i -> i < id -> K i ≠ 0) (hR : E.R id) (hRp : E.R p) (hWp : E.W p) (gn : Nat) (hgn : growb ((32 * (T p).length : Nat) : Int) ((32 * ((T p).length + 1) : Nat) : Int) = (gn : Int)) (hgu : gn <= u) (hmay : mayB (f : Int) (rs : Int) ((gn : Int) + growb 0 ((0 : Nat) : Int)) false = true) :
    Calls Tryz.prog 59 #[ptr b0, ptr b1, ptr b2, ptr b3] w fun e w' => e = .returned .nilIface /\ (∃ f' u', S8 E (upd K id kind) (upd D p (recsL (T p ++ [⟨s, id⟩]))) f' u' lim w' /\ f' + gn = f /\ u <= u' + gn) /\ Apart [E.mb] w w' := by
  have kDa := hidden (dirAt_calls hF h ok ht htn hv hll hok)
  have kCh := hidden (fun (wx : World) (db : Nat) (p1 : 1 <= p) (p2 : p <= E.tn) (hk : K p = 2) (hx : Below w.heap.size w wx) (hd : DirAt E db p wx) => child_none (fb := fb) (h.more hx) ok p1 p2 hk (ht.recs p p1 p2 hk).1 (ht.recs p p1 p2 hk).2 hd s hs (lookT_none hno))
  have kAd := hidden (fun (wx : World) (db : Nat) (p1 : 1 <= p) (p2 : p <= E.tn) (hk : K p = 2) (hx : Below w.heap.size w wx) (hd : DirAt E db p wx) => add_ok (hF.below hx) (h.more hx) ok hkk p1 p2 hk (ht.recs p p1 p2 hk).1 (ht.recs p p1 p2 hk).2 hd s hs (lookT_none hno) hl kind hkind id h1 h2 hfree hlow hR hRp hWp 0 false gn hgn hgu hmay)
  have c0 := hB.c0
  have c1 := hB.c1
  have hBk := hidden hB
  obtain ⟨a, cap, rfl, -⟩ := hv
  replace hp := hidden hp
  clear hF h ok ht hok hgn hmay hfree hlow hgu hno hB
  generalize l.length = LL at *
  go_enter Tryz.func59, Tryz.ntmps59
  go_wp2_with fail
  refine (kDa.out).mono ?_
  rintro ev w1 ⟨(⟨q, db, hq, rfl, hd1, hdb, q1, q2, q3⟩ | ⟨m, bk, nm, hq, -⟩), hB1⟩
  rotate_left
  · rw [hp.out] at hq; cases hq
  obtain rfl : p = q := by rw [hp.out] at hq; exact Except.ok.inj hq
  have kC1 := hidden (kCh.out w1 db q1 q2 q3 hB1 hd1)
  have hA1 := hidden (And.intro hB1 hd1)
  clear c0 c1
  have d0 := (hBk.out.below hB1).c0
  have d2 := (hBk.out.below hB1).c2
  clear kDa kCh hB1 hd1 hq
  go_wp2_with fail
  refine (kC1.out).mono ?_
  rintro ev w3 ⟨bk, rfl, hc, hB3⟩
  have kI := is_chain 11 11 w3 _ _ hc
  have hb3 : Below w.heap.size w w3 := hA1.out.1.trans (hB3.mono hA1.out.1.size)
  have hd3 : DirAt E db p w3 := hA1.out.2.below hB3
  have kA3 := hidden (kAd.out w3 db q1 q2 q3 hb3 hd3)
  obtain ⟨e0, e1, e2, e3⟩ := hBk.out.below hb3
  replace kI := hidden kI
  replace hb3 := hidden hb3
  clear hc hB3 kC1 kAd hd3 hA1 d0 d2
  go_wp2_with fail
  refine (kI.out).mono ?_
  rintro ev w4 ⟨rfl, hw4⟩
  subst w4
  dsimp only [Int.reduceBEq]
  go_wp2_with fail
  refine (kA3.out).mono ?_
  rintro ev w5 ⟨rfl, hS5, hA5⟩
  have hE := hidden (And.intro hS5 ((Apart.of_below (bs := [E.mb]) hb3.out).trans hA5))
  clear hS5 hA5 kA3 e0 e1 e2 e3
  go_wp2
  go_ret
  exact ⟨rfl, hE.out⟩
set_option maxHeartbeats 2000000 in
theorem create1_old {b0 b1 b2 b3 : Nat} {v : Value} {s : List UInt8} {kind : Nat} (hB : KBox b0 b1 b2 b3 fb v s kind w) (hF : FsAt fb E rs hb w) (h : S8 E K D f u lim w) (ok : E.Ok) (ht : TreeOk E.tn K D T) (htn : 1 <= E.tn) {l : List (List UInt8)} (hv : TxtsAt w v l) (hll : l.length <= 1000) (hok : ∀ s ∈ l, okB s = true) {p : Nat} (hp : dirT K T l = .ok p) {r : Rec} (hr : lookT (T p) s = some r) :
    Calls Tryz.prog 59 #[ptr b0, ptr b1, ptr b2, ptr b3] w fun e w' => e = .returned (num 12) /\ Below w.heap.size w w' := by
  have kDa := hidden (dirAt_calls hF h ok ht htn hv hll hok)
  obtain ⟨hrs, i, hi⟩ := lookT_some hr
  subst hrs
  have hrm := List.mem_of_getElem? hi
  have kCh := hidden (fun (wx : World) (db : Nat) (p1 : 1 <= p) (p2 : p <= E.tn) (hk : K p = 2) (hx : Below w.heap.size w wx) (hd : DirAt E db p wx) => child_at (hF.below hx) (h.more hx) ok p1 p2 hk (ht.recs p p1 p2 hk).1 (ht.recs p p1 p2 hk).2 hd hi (ht.used p p1 p2 hk r hrm).1 (ht.used p p1 p2 hk r hrm).2)
  have c0 := hB.c0
  have c1 := hB.c1
  have hBk := hidden hB
  obtain ⟨a, cap, rfl, -⟩ := hv
  replace hp := hidden hp
  clear hF h ok ht hok hr hB
  generalize l.length = LL at *
  generalize ((K r.id : Nat) : Int) = KR at *
  go_enter Tryz.func59, Tryz.ntmps59
  go_wp2_with fail
  refine (kDa.out).mono ?_
  rintro ev w1 ⟨(⟨q, db, hq, rfl, hd1, hdb, q1, q2, q3⟩ | ⟨m, bk, nm, hq, -⟩), hB1⟩
  rotate_left
  · rw [hp.out] at hq; cases hq
  obtain rfl : p = q := by rw [hp.out] at hq; exact Except.ok.inj hq
  have kC1 := hidden (kCh.out w1 db q1 q2 q3 hB1 hd1)
  clear c0 c1
  have d0 := (hBk.out.below hB1).c0
  have d2 := (hBk.out.below hB1).c2
  replace hB1 := hidden hB1
  clear kDa kCh hd1 hq
  go_wp2_with fail
  refine (kC1.out).mono ?_
  rintro ev w3 ⟨rfl, hB3⟩
  have hb3 := hidden (hB1.out.trans (hB3.mono hB1.out.size))
  clear hB3 kC1 d0 d2
  go_wp2
  go_ret
  exact ⟨rfl, hb3.out⟩
set_option maxHeartbeats 1000000 in
theorem create1_err {b0 b1 b2 b3 : Nat} {v : Value} {s : List UInt8} {kind : Nat} (hB : KBox b0 b1 b2 b3 fb v s kind w) (hF : FsAt fb E rs hb w) (h : S8 E K D f u lim w) (ok : E.Ok) (ht : TreeOk E.tn K D T) (htn : 1 <= E.tn) {l : List (List UInt8)} (hv : TxtsAt w v l) (hll : l.length <= 1000) (hok : ∀ s ∈ l, okB s = true) {m : Int} (hp : dirT K T l = .error m) :
    Calls Tryz.prog 59 #[ptr b0, ptr b1, ptr b2, ptr b3] w fun e w' => ∃ ll ev, e = .returned ev /\ Chain w' ll (num m) ev /\ Below w.heap.size w w' := by
  have kDa := hidden (dirAt_calls hF h ok ht htn hv hll hok)
  have c0 := hB.c0
  have c1 := hB.c1
  obtain ⟨a, cap, rfl, -⟩ := hv
  replace hp := hidden hp
  clear hF h ok ht hok hB
  generalize l.length = LL at *
  go_enter Tryz.func59, Tryz.ntmps59
  go_wp2_with fail
  refine (kDa.out).mono ?_
  rintro ev w1 ⟨(⟨q, db, hq, -⟩ | ⟨m', bk, nm, hq, -, rfl, hc⟩), hB1⟩
  · rw [hp.out] at hq; cases hq
  obtain rfl : m = m' := by rw [hp.out] at hq; exact Except.error.inj hq
  have hE := hidden (And.intro hc hB1)
  clear hc hB1 kDa hq
  go_wp2
  go_ret
  exact ⟨_, _, rfl, hE.out⟩
end
def sRemove : ByteArray := ⟨#[114, 101, 109, 111, 118, 101]⟩
theorem ent_create1 : ∀ (args : Array Value) (w : World), (callFunc 59 args).run Tryz.prog w = .ok (.enter 59 args) w := enters_of Tryz.func59 (by kernel_rfl) rfl
section
variable {fb rs hb : Nat} {E : TE} {w w' : World} {K : Nat -> Nat} {D : Nat -> List Int} {T : Nat -> List Rec} {f u lim : Nat}
theorem boxes_two (w : World) (p q : Value) (tp tq : TypeId) : ∃ w2, (w.alloc (Obj.cells #[p] tp)).alloc (Obj.cells #[q] tq) = w2 /\ Below w.heap.size w w2 /\ w2.cell? ⟨w.heap.size, 0, none⟩ = some p /\ w2.cell? ⟨w.heap.size + 1, 0, none⟩ = some q := by
  generalize e1 : w.alloc (Obj.cells #[p] tp) = W1
  have a1 : W1.cell? ⟨w.heap.size, 0, none⟩ = some p := by rw [<- e1]; simp
  have s1 : W1.heap.size = w.heap.size + 1 := by rw [<- e1]; simp
  have b1 : Below w.heap.size w W1 := by rw [<- e1]; exact (Below.refl _ _).alloc (Nat.le_refl _) _
  have hBx : Below W1.heap.size W1 (W1.alloc (Obj.cells #[q] tq)) := (Below.refl _ _).alloc (Nat.le_refl _) _
  exact ⟨_, rfl, b1.trans (hBx.mono b1.size), (hBx.cell (p := ⟨w.heap.size, 0, none⟩) (lt_of_cell a1)).trans a1, by rw [<- s1]; simp⟩
set_option maxHeartbeats 2000000 in
theorem create_via {path s : List UInt8} {l : List (List UInt8)} {kind : Nat} {Q : Value -> World -> Prop} (hlen : path.length <= 2000) (hp : splitB path = some (l ++ [s]))
    (kS : ∀ (wx : World) (b0 b1 b2 b3 : Nat) (up : Value), Below w.heap.size w wx -> KBox b0 b1 b2 b3 fb up s kind wx -> TxtsAt wx up l -> Calls Tryz.prog 54 #[ptr fb, .func (.func 59) #[] #[ptr b0, ptr b1, ptr b2, ptr b3]] wx fun e w' => ∃ ev, e = .returned ev /\ Q ev w') :
    Calls Tryz.prog 34 #[ptr fb, .string (mkB path), .int .i64 (kind : Nat)] w fun e w' => ∃ ev, e = .returned ev /\ Q ev w' := by
  have hmf : ∀ (fn : Fn) (first cap : Array Value) (w : World), (Instr.makeFunc fn first cap).run Tryz.prog w = .ok (.func fn first cap) w := fun _ _ _ _ => rfl
  obtain ⟨w3, hw3, hB3, g0, g3⟩ := boxes_two w (ptr fb) (.int .i64 (kind : Nat)) 31 3
  have kA := hidden (apart_ok path hlen hp 12 w3)
  replace kS := hidden kS
  replace hB3 := hidden hB3
  replace hw3 := hidden hw3
  go_enter Tryz.func34, Tryz.ntmps34
  go_upto_region 1 with fail
  rw [hw3.out]
  clear hw3
  go_wp2_with fail
  refine (kA.out).mono ?_
  rintro ev w4 ⟨up, rfl, hT, hB4⟩
  have hT4 := hT
  obtain ⟨ua, uc, rfl, -⟩ := hT
  have k0 := (hB4.cell (p := ⟨w.heap.size, 0, none⟩) (lt_of_cell (a := ⟨w.heap.size, 0, none⟩) g0)).trans g0
  have k3 := (hB4.cell (p := ⟨w.heap.size + 1, 0, none⟩) (lt_of_cell (a := ⟨w.heap.size + 1, 0, none⟩) g3)).trans g3
  obtain ⟨w6, hw6, hB6, n1, n2⟩ := boxes_two w4 (.slice ua l.length uc) (.string (mkB s)) 50 9
  have m0 := (hB6.cell (p := ⟨w.heap.size, 0, none⟩) (lt_of_cell (a := ⟨w.heap.size, 0, none⟩) k0)).trans k0
  have m3 := (hB6.cell (p := ⟨w.heap.size + 1, 0, none⟩) (lt_of_cell (a := ⟨w.heap.size + 1, 0, none⟩) k3)).trans k3
  have hb6 : Below w.heap.size w w6 := hB3.out.trans ((hB4.trans (hB6.mono hB4.size)).mono hB3.out.size)
  have kS6 := hidden (kS.out w6 w.heap.size w4.heap.size (w4.heap.size + 1) (w.heap.size + 1) _ hb6 ⟨m0, n1, n2, m3⟩ (hT4.below hB6))
  replace hw6 := hidden hw6
  clear hT4 hB4 hB6 hb6 kS kA g0 g3 k0 k3 hB3
  generalize l.length = LL at *
  go_upto_region 2 with fail
  rw [hw6.out]
  clear hw6
  go_wp2_with fail
  refine (kS6.out).mono ?_
  rintro ev w7 ⟨er, rfl, hQ⟩
  replace hQ := hidden hQ
  go_wp2
  go_ret
  exact ⟨er, rfl, hQ.out⟩
theorem create_root {path : List UInt8} {kind : Nat} (hlen : path.length <= 2000) (hp : splitB path = some []) :
    Calls Tryz.prog 34 #[ptr fb, .string (mkB path), .int .i64 (kind : Nat)] w fun e w' => e = .returned (num 12) /\ Below w.heap.size w w' := by
  obtain ⟨w3, hw3, hB3, g0, g3⟩ := boxes_two w (ptr fb) (.int .i64 (kind : Nat)) 31 3
  have kA := hidden (apart_root path hlen hp 12 w3)
  replace hB3 := hidden hB3
  replace hw3 := hidden hw3
  go_enter Tryz.func34, Tryz.ntmps34
  go_upto_region 1 with fail
  rw [hw3.out]
  clear hw3
  go_wp2_with fail
  refine (kA.out).mono ?_
  rintro ev w4 ⟨rfl, hB4⟩
  obtain ⟨w6, hw6, hB6, n1, n2⟩ := boxes_two w4 (.slice none 0 0) (.string ⟨#[]⟩) 50 9
  have hE := hidden (hB3.out.trans ((hB4.trans (hB6.mono hB4.size)).mono hB3.out.size))
  replace hw6 := hidden hw6
  clear hB4 hB6 n1 n2 kA g0 g3 hB3
  go_upto_region 2 with fail
  rw [hw6.out]
  clear hw6
  go_wp2
  go_ret
  exact ⟨rfl, hE.out⟩
theorem create_fail (h : Fsz fb rs hb E K D T f lim w) {path s : List UInt8} {l : List (List UInt8)} {kind : Nat} (hlen : path.length <= 2000) (hp : splitB path = some (l ++ [s])) {m : Int} (hm : (m == 50) = false)
    (kT : ∀ (wx : World) (b0 b1 b2 b3 : Nat) (up : Value), Fsz fb rs hb E.rest K D T f lim wx -> KBox b0 b1 b2 b3 fb up s kind wx -> TxtsAt wx up l -> Calls Tryz.prog 59 #[ptr b0, ptr b1, ptr b2, ptr b3] wx fun e w' => ∃ ll ev, e = .returned ev /\ Chain w' ll (num m) ev /\ Below wx.heap.size wx w') :
    Calls Tryz.prog 34 #[ptr fb, .string (mkB path), .int .i64 (kind : Nat)] w fun e w' => ∃ ev, e = .returned ev /\ Refused fb rs hb E K D T f lim m w ev w' := by
  refine create_via (Q := fun ev w' => Refused fb rs hb E K D T f lim m w ev w') hlen hp (fun wx b0 b1 b2 b3 up hx hbx hTx => ?_)
  have hr := h.rest.below hx
  refine (step_err (E := E.rest) (K := K) (D := D) (f := f) (u := 0) (lim := lim) (P := fun w1 _ => Below wx.heap.size wx w1) hm ent_create1 hr.at_ hr.far h.pl.rest_ok ((kT wx b0 b1 b2 b3 up hr hbx hTx).mono ?_)).mono ?_
  · rintro e w1 ⟨ll, ev, rfl, hc, hB⟩
    exact ⟨ll, ev, rfl, hc, hB, hr.at_.below hB, hr.s.more hB⟩
  · rintro e w2 ⟨ll, ev, w1, rfl, hc, hB, hF2, hS2, hA⟩
    exact ⟨ev, rfl, ⟨ll, hc⟩, ⟨hF2, hS2, h.pl.at _ _ _ _ _, h.far, h.tree⟩, turns_err hx hB hA⟩
theorem create_noDir (h : Fsz fb rs hb E K D T f lim w) {path s : List UInt8} {l : List (List UInt8)} {kind : Nat} (hlen : path.length <= 2000) (hp : splitB path = some (l ++ [s])) {m : Int} (hm : (m == 50) = false) (hd : dirT K T l = .error m) :
    Calls Tryz.prog 34 #[ptr fb, .string (mkB path), .int .i64 (kind : Nat)] w fun e w' => ∃ ev, e = .returned ev /\ Refused fb rs hb E K D T f lim m w ev w' := by
  have hmp := may_all (split_may hp)
  have hl6 : l.length <= 6 := by have := hmp.1; rw [List.length_append] at this; omega
  exact create_fail h hlen hp hm (fun wx b0 b1 b2 b3 up hr hbx hT => create1_err hbx hr.at_ hr.s.to h.pl.rest_ok hr.tree h.pl.tn1 hT (by omega) (fun x hx => hmp.2 x (List.mem_append.2 (Or.inl hx))) hd)
theorem create_old (h : Fsz fb rs hb E K D T f lim w) {path s : List UInt8} {l : List (List UInt8)} {kind : Nat} (hlen : path.length <= 2000) (hp : splitB path = some (l ++ [s])) {p : Nat} (hd : dirT K T l = .ok p) {r : Rec} (hr0 : lookT (T p) s = some r) :
    Calls Tryz.prog 34 #[ptr fb, .string (mkB path), .int .i64 (kind : Nat)] w fun e w' => ∃ ev, e = .returned ev /\ Refused fb rs hb E K D T f lim 12 w ev w' := by
  have hmp := may_all (split_may hp)
  have hl6 : l.length <= 6 := by have := hmp.1; rw [List.length_append] at this; omega
  refine create_fail h hlen hp rfl (fun wx b0 b1 b2 b3 up hr hbx hT => ?_)
  refine (create1_old hbx hr.at_ hr.s.to h.pl.rest_ok hr.tree h.pl.tn1 hT (by omega) (fun x hx => hmp.2 x (List.mem_append.2 (Or.inl hx))) hd hr0).mono ?_
  rintro e w' ⟨rfl, hB⟩
  exact ⟨[], _, rfl, rfl, hB⟩
end
section
variable {fb rs hb : Nat} {E : TE} {w w' : World} {K : Nat -> Nat} {D : Nat -> List Int} {T : Nat -> List Rec} {f u lim : Nat}
theorem TreeOk.addK {tn p id kind : Nat} {s : List UInt8} (ht : TreeOk tn K D T) (p1 : 1 <= p) (p2 : p <= tn) (hk : K p = 2) (h2 : id <= tn) (hid : K id = 0) (hkind : kind = 1 \/ kind = 2) (hD0 : D id = []) (hT0 : kind = 2 -> T id = []) (hs : okB s = true) (h1 : 1 <= id) (htn : tn <= 200) (hno : lookT (T p) s = none) :
    TreeOk tn (upd K id kind) (upd D p (recsL (T p ++ [⟨s, id⟩]))) (upd T p (T p ++ [⟨s, id⟩])) := by
  have hpi : p ≠ id := by rintro rfl; omega
  have h1i : (1 : Nat) ≠ id := by rintro rfl; have := ht.root; omega
  obtain ⟨hD, hG⟩ := ht.recs p p1 p2 hk
  refine ⟨by rw [upd_other _ _ h1i]; exact ht.root, fun q q1 q2 hq => ?_, fun q q1 q2 hq r hr => ?_⟩
  · by_cases hqi : q = id
    · subst hqi
      rw [upd_same] at hq
      rw [upd_other _ _ (Ne.symm hpi), upd_other _ _ (Ne.symm hpi), hD0, hT0 hq]
      exact ⟨rfl, ⟨fun r hr => (by cases hr), List.nodup_nil⟩⟩
    · rw [upd_other _ _ hqi] at hq
      by_cases hqp : q = p
      · subst hqp
        rw [upd_same, upd_same]
        exact ⟨rfl, hG.put ⟨hs, h1, by show id < _; omega⟩ (lookT_none hno)⟩
      · rw [upd_other _ _ hqp, upd_other _ _ hqp]
        exact ht.recs q q1 q2 hq
  · have old : ∀ x : Rec, x.id <= tn -> K x.id ≠ 0 -> x.id <= tn /\ upd K id kind x.id ≠ 0 := fun x h h' => ⟨h, by rw [upd_other _ _ (by rintro e; rw [e] at h'; exact h' hid)]; exact h'⟩
    by_cases hqi : q = id
    · subst hqi
      rw [upd_same] at hq
      rw [upd_other _ _ (Ne.symm hpi), hT0 hq] at hr
      cases hr
    · rw [upd_other _ _ hqi] at hq
      by_cases hqp : q = p
      · subst hqp
        rw [upd_same] at hr
        rcases List.mem_append.1 hr with hr | hr
        · have := ht.used q q1 q2 hq r hr
          exact old r this.1 this.2
        · obtain rfl := List.mem_singleton.1 hr
          exact ⟨h2, by show upd K id kind id ≠ 0; rw [upd_same]; omega⟩
      · rw [upd_other _ _ hqp] at hr
        have := ht.used q q1 q2 hq r hr
        exact old r this.1 this.2
set_option maxHeartbeats 2000000 in
theorem create_new (h : Fsz fb rs hb E K D T f lim w) {path s : List UInt8} {l : List (List UInt8)} {kind : Nat} (hlen : path.length <= 2000) (hp : splitB path = some (l ++ [s])) {p : Nat} (hd : dirT K T l = .ok p) (hno : lookT (T p) s = none) (hl : (T p).length < 120) (hkind : kind = 1 \/ kind = 2) {id : Nat} (h1 : 1 <= id) (h2 : id <= E.tn) (hfree : K id = 0) (hT0 : kind = 2 -> T id = []) (hlow : ∀ i, 1 <= i -> i < id -> K i ≠ 0) {gn : Nat} (hgn : growb ((32 * (T p).length : Nat) : Int) ((32 * ((T p).length + 1) : Nat) : Int) = (gn : Int)) (hmay : mayB (f : Int) (rs : Int) ((gn : Int) + growb 0 ((0 : Nat) : Int)) false = true) (hlim : lim <= 300000000) :
    Calls Tryz.prog 34 #[ptr fb, .string (mkB path), .int .i64 (kind : Nat)] w fun e w' => e = .returned .nilIface /\ (∃ f', f' + gn = f /\ Fsz fb rs hb E.rest (upd K id kind) (upd D p (recsL (T p ++ [⟨s, id⟩]))) (upd T p (T p ++ [⟨s, id⟩])) f' (lim + 1000) w') /\ E.Turns fb w w' := by
  have hpl := h.pl
  have htn1 := hpl.tn1
  obtain ⟨p1, p2, hk⟩ := dirT_in h.tree htn1 hd
  obtain ⟨hDp, hGp⟩ := h.tree.recs p p1 p2 hk
  have hD0 : D id = [] := h.s.to.noBytes h1 h2 hfree
  have hpi : p ≠ id := by rintro rfl; omega
  have hmp := may_all (split_may hp)
  have hl6 : l.length <= 6 := by have := hmp.1; rw [List.length_append] at this; omega
  have hlok : ∀ x ∈ l, okB x = true := fun x hx => hmp.2 x (List.mem_append.2 (Or.inl hx))
  have hsok : okB s = true := hmp.2 s (by simp)
  have e0z : growb 0 ((0 : Nat) : Int) = 0 := by simp [growb, blk]
  have hc : gn <= f := by
    rw [e0z] at hmay
    unfold mayB at hmay
    simp only [Bool.or_eq_true, Bool.and_eq_true, decide_eq_true_eq] at hmay
    omega
  have hrl : (D p).length = 32 * (T p).length := by rw [hDp, recsL_len hGp.each]
  have hsum : sumL D [p, id] = bkL (T p).length := by
    show (blk ((D p).length : Int)).toNat + ((blk ((D id).length : Int)).toNat + 0) = _
    rw [hrl, hD0]
    show bkL (T p).length + _ = _
    simp [blk]
  have hbound : bkL (T p).length + gn <= 31 := by
    have e0 := bkL_eq (T p).length
    have e1 := bkL_eq ((T p).length + 1)
    have e2 := bkL_le (n := (T p).length + 1) (by omega)
    have hup : blk ((32 * (T p).length : Nat) : Int) <= blk ((32 * ((T p).length + 1) : Nat) : Int) := blk_upD (by omega) (by omega) (by omega)
    unfold growb at hgn
    omega
  obtain ⟨A, U, ku, ok', -, hS'⟩ := h.s.re hpl [p, id] [p, id] (fun x hx => by simp at hx; rcases hx with rfl | rfl <;> omega) (fun x hx => by simp at hx; rcases hx with rfl | rfl <;> omega) gn hc (by rw [hsum]; show 2 + 2 + _ + _ <= 87; omega)
  have hfar := h.far
  have hkk : E.kk = E.k := hpl.kk.symm
  refine (create_via (Q := fun ev w' => ev = .nilIface /\ (∃ f', f' + gn = f /\ Fsz fb rs hb E.rest (upd K id kind) (upd D p (recsL (T p ++ [⟨s, id⟩]))) (upd T p (T p ++ [⟨s, id⟩])) f' (lim + 1000) w') /\ E.Turns fb w w') hlen hp (fun wx b0 b1 b2 b3 up hx hbx hTx => ?_)).mono (fun e w' ⟨ev, h1, h2, h3⟩ => ⟨by rw [h1, h2], h3⟩)
  have hF' : FsAt fb (E.at A U (· ∈ [p, id]) (· ∈ [p, id]) ku) rs hb wx := (h.at_.below hx).at _ _ _ _ _
  have hSx := (hS'.more hx).to
  have kC := create1_new hbx hF' hSx ok' hkk h.tree htn1 hTx (by omega) hlok hd hsok hno hl hkind id h1 h2 hfree hlow (show id ∈ [p, id] by simp) (show p ∈ [p, id] by simp) (show p ∈ [p, id] by simp) gn hgn (Nat.le_refl _) hmay
  refine (step_ok (P := fun w1 => Apart [E.mb] wx w1) (K := upd K id kind) (D := upd D p (recsL (T p ++ [⟨s, id⟩]))) (f := f - gn) (u := 0) (lim := lim) ent_create1 hF' hfar ok' hpl.far hpl.live (by show 1 <= E.most /\ E.most <= 200; rw [hpl.most]; omega) hlim (kC.mono ?_)).mono ?_
  · rintro e w1 ⟨rfl, ⟨f1, u1, r1, r2, r3⟩, hA⟩
    have hf2 : f1 = f - gn := by omega
    rw [hf2] at r1
    exact ⟨rfl, hA, hF'.keep hA (fun hm => hfar.1 (List.mem_singleton.1 hm)), r1.low (Nat.zero_le _)⟩
  · rintro e w2 ⟨rfl, w1, hA1, hF2, hS2, hA2⟩
    refine ⟨_, rfl, rfl, ⟨f - gn, by omega, ⟨⟨hF2.c0, hF2.c1, hF2.c2, hF2.c3, hF2.c4, hF2.c5, hF2.c6, hF2.c7, hF2.f7⟩, hS2.rest, hpl.at _ _ _ _ _, hfar, h.tree.addK p1 p2 hk h2 hfree hkind hD0 hT0 hsok h1 hpl.tn hno⟩⟩, ?_⟩
    exact turns_of hx hA1 hA2
end
def sMake : ByteArray := ⟨#[109, 97, 107, 101]⟩
def sMkdir : ByteArray := ⟨#[109, 107, 100, 105, 114]⟩
set_option maxHeartbeats 1000000 in
theorem fMkdir_ok {fb : Nat} {w : World} {path : List UInt8} {Q : World -> Prop} (k : Calls Tryz.prog 34 #[ptr fb, .string (mkB path), .int .i64 ((2 : Nat) : Int)] w fun e w' => e = .returned .nilIface /\ Q w') :
    Calls Tryz.prog 9 #[ptr fb, .string (mkB path)] w fun e w' => e = .returned .nilIface /\ Q w' := by
  replace k := hidden k
  have kW := hidden (fun (wx : World) => wrap_nil sMkdir (mkB path) wx)
  unfold sMkdir at kW
  go_enter Tryz.func9, Tryz.ntmps9
  go_wp2_with fail
  refine (k.out).mono ?_
  rintro ev w1 ⟨rfl, hQ⟩
  replace hQ := hidden hQ
  go_wp2_with fail
  refine (kW.out _).mono ?_
  rintro ev w2 ⟨rfl, hw2⟩
  subst w2
  go_wp2
  go_ret
  exact ⟨rfl, hQ.out⟩
set_option maxHeartbeats 1000000 in
theorem fMkdir_err {fb rs hb : Nat} {E : TE} {w : World} {K : Nat -> Nat} {D : Nat -> List Int} {T : Nat -> List Rec} {f lim : Nat} {path : List UInt8} {m : Int} (k : Calls Tryz.prog 34 #[ptr fb, .string (mkB path), .int .i64 ((2 : Nat) : Int)] w fun e w' => ∃ ev, e = .returned ev /\ Refused fb rs hb E K D T f lim m w ev w') :
    Calls Tryz.prog 9 #[ptr fb, .string (mkB path)] w fun e w' => ∃ ev, e = .returned ev /\ Told11 fb rs hb E K D T f lim sMkdir (mkB path) m w ev w' := by
  replace k := hidden k
  have kW := hidden (fun (u : TypeId) (v : Value) (wx : World) => wrap_some sMkdir (mkB path) u v wx)
  have hsp : sMkdir = ⟨#[109, 107, 100, 105, 114]⟩ := rfl
  rw [hsp] at kW
  replace hsp := hidden hsp
  go_enter Tryz.func9, Tryz.ntmps9
  go_wp2_with fail
  refine (k.out).mono ?_
  rintro ev w1 ⟨er, rfl, ⟨ll, hc⟩, h2, h3⟩
  obtain ⟨ut, uv, rfl⟩ := Chain.held hc (Or.inr ⟨_, _, rfl⟩)
  have hE := hidden (Refused.wrapped (op := sMkdir) (nm := mkB path) hc h2 h3)
  rw [hsp.out] at hE
  clear hc h2 h3
  go_wp2_with fail
  refine (kW.out _ _ _).mono ?_
  rintro ev w2 ⟨rfl, hw2⟩
  subst w2
  go_wp2
  go_ret
  rw [hsp.out]
  exact ⟨_, rfl, hE.out⟩
set_option maxHeartbeats 1000000 in
theorem fMake_err {fb rs hb : Nat} {E : TE} {w : World} {K : Nat -> Nat} {D : Nat -> List Int} {T : Nat -> List Rec} {f lim : Nat} {path : List UInt8} {m : Int} (k : Calls Tryz.prog 34 #[ptr fb, .string (mkB path), .int .i64 ((1 : Nat) : Int)] w fun e w' => ∃ ev, e = .returned ev /\ Refused fb rs hb E K D T f lim m w ev w') :
    Calls Tryz.prog 27 #[ptr fb, .string (mkB path)] w fun e w' => ∃ ev, e = .returned ev /\ Told11 fb rs hb E K D T f lim sMake (mkB path) m w ev w' := by
  replace k := hidden k
  have kW := hidden (fun (u : TypeId) (v : Value) (wx : World) => wrap_some sMake (mkB path) u v wx)
  have hsp : sMake = ⟨#[109, 97, 107, 101]⟩ := rfl
  rw [hsp] at kW
  replace hsp := hidden hsp
  go_enter Tryz.func27, Tryz.ntmps27
  go_wp2_with fail
  refine (k.out).mono ?_
  rintro ev w1 ⟨er, rfl, ⟨ll, hc⟩, h2, h3⟩
  obtain ⟨ut, uv, rfl⟩ := Chain.held hc (Or.inr ⟨_, _, rfl⟩)
  have hE := hidden (Refused.wrapped (op := sMake) (nm := mkB path) hc h2 h3)
  rw [hsp.out] at hE
  clear hc h2 h3
  go_wp2_with fail
  refine (kW.out _ _ _).mono ?_
  rintro ev w2 ⟨rfl, hw2⟩
  subst w2
  go_wp2
  go_ret
  rw [hsp.out]
  exact ⟨_, rfl, hE.out⟩
end Go.Proofs.YtpofmiecjkghgaaGreatDoor
