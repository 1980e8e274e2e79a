/- remove: a file that nobody holds: empty, the closure. -/
import Derived.Test.YtpofmiecjkghgaaGreatDoorGWm
import Derived.Test.YtpofmiecjkghgaaGreatDoorGWa
import Derived.Test.YtpofmiecjkghgaaGreatDoorGWg
import Derived.Test.YtpofmiecjkghgaaGreatDoorGXf
import Derived.Test.YtpofmiecjkghgaaGreatDoorGWp
import Derived.Test.YtpofmiecjkghgaaGreatDoorGXi
namespace Go.Proofs.YtpofmiecjkghgaaGreatDoor
open Go.RowKit Go.Extern.Stop Go.Stop Go.Extern Go.Maps Go.Sort Go.Shelf
set_option maxRecDepth 100000
structure MBox (b0 b1 b2 b3 fb : Nat) (up : Value) (s : List UInt8) (w : World) : Prop where
  c0 : w.cell? ⟨b0, 0, none⟩ = some (ptr fb)
  c1 : w.cell? ⟨b1, 0, none⟩ = some up
  c2 : w.cell? ⟨b2, 0, none⟩ = some (.string (mkB s))
  n : FnAt w b3 0 0
section
variable {fb rs hb : Nat} {E : TE} {w w' : World} {K : Nat -> Nat} {D : Nat -> List Int} {T : Nat -> List Rec} {f u lim : Nat}
theorem empty_file (x : Int) :
    Calls Tryz.prog 70 #[ptr fb, fnV x 1] w fun e w' => e = .returned .nilIface /\ Below w.heap.size w w' := by
  have hB : Below w.heap.size w (w.alloc (.cells #[.int .i64 x, .int .i64 1] 105)) := (Below.refl _ _).alloc (Nat.le_refl _) _
  replace hB := hidden hB
  go_enter Tryz.func70, Tryz.ntmps70
  go_wp2
  go_ret
  exact ⟨rfl, hB.out⟩
theorem MBox.below {b0 b1 b2 b3 : Nat} {up : Value} {s : List UInt8} (h : MBox b0 b1 b2 b3 fb up s w) (hb : Below w.heap.size w w') : MBox b0 b1 b2 b3 fb up s w' :=
  have k : ∀ b v, w.cell? ⟨b, 0, none⟩ = some v -> w'.cell? ⟨b, 0, none⟩ = some v := fun b _ hc => (hb.cell (p := ⟨b, 0, none⟩) (lt_of_cell (a := ⟨b, 0, none⟩) hc)).trans hc
  ⟨k _ _ h.c0, k _ _ h.c1, k _ _ h.c2, h.n.below hb⟩
set_option maxHeartbeats 4000000 in
theorem remove1_file {wo : World} {b0 b1 b2 b3 : Nat} {v : Value} {s : List UInt8} (hB : MBox b0 b1 b2 b3 fb v s w) (hF : FsAt fb E rs hb w) (hfar : FsAt.Far fb E) (hno : HNo fb hb E w) (h : S8 E K D f u lim w) (ok : E.Ok) (ht : TreeOk E.tn K D T) (htn : 1 <= E.tn) {l : List (List UInt8)} (hv : TxtsAt w v l) (hll : l.length <= 1000) (hok : ∀ s ∈ l, okB s = true) {p i : Nat} {r : Rec} (hp : dirT K T l = .ok p) (hi : (T p)[i]? = some r) (hrs : r.s = s) (hkr : K r.id = 1) (hR : E.R p) (hW : E.W p) (hRy : E.R r.id) (hWy : E.W r.id \/ E.ku = 0) {n : Nat} (hn : blk ((D r.id).length : Int) = (n : Int))
    (hx : Below wo.heap.size wo w) (hah : E.Ahead wo.heap.size) (hfbB : fb < wo.heap.size) (hhbB : hb < wo.heap.size) (hb3 : wo.heap.size <= b3) :
    Calls Tryz.prog 69 #[ptr b0, ptr b1, ptr b2, ptr b3] w fun e w' => e = .returned .nilIface /\ FnAt w' b3 (r.id : Nat) 1 /\ w'.cell? ⟨b0, 0, none⟩ = some (ptr fb) /\ (∃ f', f' + bkL (dropR (T p) i).length = f + bkL (T p).length + n /\ S8 E (upd K r.id 0) (upd (upd D p (recsL (dropR (T p) i))) r.id []) f' u lim w') /\ FsAt fb E rs hb w' /\ HNo fb hb E w' /\ Apart [E.mb] wo w' := by
  obtain ⟨p1, p2, hkp⟩ := dirT_in ht htn hp
  obtain ⟨hD, hG⟩ := ht.recs p p1 p2 hkp
  have hrm := List.mem_of_getElem? hi
  obtain ⟨hrt, hrk⟩ := ht.used p p1 p2 hkp r hrm
  have hyp : r.id ≠ p := by intro e; rw [e, hkp] at hkr; cases hkr
  subst hrs
  have hbs := hB.n.lt
  have h03 : b0 ≠ b3 := fun e => by have c := hB.c0; rw [e, hB.n.c0] at c; cases c
  have h23 : b2 ≠ b3 := fun e => by have c := hB.c2; rw [e, hB.n.c0] at c; cases c
  have hmb3 : b3 ≠ E.mb := by unfold TE.Ahead at hah; omega
  have hmb0 : b0 ≠ E.mb := fun e => by have c := hB.c0; rw [e, h.mapNo 0] at c; cases c
  have hfm : fb ≠ E.mb := hfar.1
  have hhm : hb ≠ E.mb := hno.ne.2.2.1
  have kDa := hidden (dirAt_calls hF h ok ht htn hv hll hok)
  have kCh : ∀ (wx : World) (db : Nat), Below w.heap.size w wx -> DirAt E db p wx -> Calls Tryz.prog 61 #[ptr fb, ptr db, .string (mkB r.s)] wx fun e w' => e = .returned (.tuple #[fnV (r.id : Nat) 1, .nilIface]) /\ Below wx.heap.size wx w' := fun wx db hx hd => by
    have k := child_at (hF.below hx) (h.more hx) ok p1 p2 hkp hD hG hd hi hrt hrk
    rw [hkr] at k
    exact k
  replace kCh := hidden kCh
  have kE := hidden (fun (wx : World) => empty_file (fb := fb) (w := wx) ((r.id : Nat) : Int))
  have kDr := hidden (fun (wx : World) (db : Nat) (hFx : FsAt fb E rs hb wx) (hnx : HNo fb hb E wx) (hSx : S8 E K D f u lim wx) (hd : DirAt E db p wx) => drop_ok hFx hfar hnx hSx ok p1 p2 hkp hD hG hd hi hrt (by rw [hkr]; decide) hyp hR hW hRy hWy hn 1)
  have hKeep := hidden (fun (w3 w4 : World) (hx3 : Below w.heap.size w w3) (hA : Apart [b3] w3 w4) => show FsAt fb E rs hb w4 /\ HNo fb hb E w4 /\ S8 E K D f u lim w4 from ⟨(hF.below hx3).keep hA (by simp; omega), (hno.below hx3).keep hA (by simp; omega), (h.more hx3).over hah (hA.below (by simpa using hb3) (Nat.le_trans hx.size hx3.size))⟩)
  have hBk := hidden hB
  have hxk := hidden hx
  have c0 := hB.c0
  have c1 := hB.c1
  obtain ⟨a, cap, rfl, -⟩ := hv
  replace hp := hidden hp
  clear hF h ok ht hok hB hfar hno hx hah hD hG hi hrm hrk hR hW hRy hWy hn
  generalize l.length = LL at *
  generalize hRI : ((r.id : Nat) : Int) = RI at *
  go_enter Tryz.func69, Tryz.ntmps69
  go_wp2_with fail
  refine (kDa.out).mono ?_
  rintro ev w1 ⟨(⟨q, db, hq, rfl, hd1, hdb, q1, q2, q3⟩ | ⟨m, bk, nm, hq, -⟩), hB1⟩
  rotate_left
  · rw [hp.out] at hq; cases hq
  obtain rfl : p = q := by rw [hp.out] at hq; exact Except.ok.inj hq
  have kC1 := hidden (kCh.out w1 db hB1 hd1)
  clear c0 c1
  have d0 := (hBk.out.below hB1).c0
  have d2 := (hBk.out.below hB1).c2
  have hdb3 : db ≠ b3 := by omega
  replace hd1 := hidden hd1
  replace hB1 := hidden hB1
  clear kDa kCh hq
  go_wp2_with fail
  refine (kC1.out).mono ?_
  rintro ev w3 ⟨rfl, hB3⟩
  have hB13 : Below w.heap.size w w3 := hB1.out.trans (hB3.mono hB1.out.size)
  have hM3 := hBk.out.below hB13
  have hN3 := hM3.n
  have n0 := hN3.c0
  have n1 := hN3.c1
  have g0 := hN3.f0
  have g1 := hN3.f1
  have l3 := hN3.lt
  obtain ⟨w4, hw4, hA4, hN4⟩ : ∃ w4, (w3.setCell ⟨b3, 0, none⟩ (.int .i64 RI)).setCell ⟨b3, 1, none⟩ (.int .i64 1) = w4 /\ Apart [b3] w3 w4 /\ FnAt w4 b3 RI 1 := ⟨_, rfl, fn_apart _ _ _ _, fn_stored hN3⟩
  have hK4 := hKeep.out w3 w4 hB13 hA4
  have hd4 := (hd1.out.below hB3).keep hA4 (by simpa using hdb3)
  have m0 := (hA4.cell (p := ⟨b0, 0, none⟩) (lt_of_cell (a := ⟨b0, 0, none⟩) hM3.c0) (by simpa using h03)).trans hM3.c0
  have m2 := (hA4.cell (p := ⟨b2, 0, none⟩) (lt_of_cell (a := ⟨b2, 0, none⟩) hM3.c2) (by simpa using h23)).trans hM3.c2
  have hAo : Apart [E.mb] wo w4 := (Apart.of_below (bs := [E.mb]) (hxk.out.trans (hB13.mono hxk.out.size))).trans' hA4 (by simpa using hb3)
  have k0 := hN4.c0
  have k1 := hN4.c1
  have l4 := hN4.lt
  replace hw4 := hidden hw4
  have kE4 := hidden (kE.out w4)
  have hZ := hidden (And.intro hK4 (And.intro hd4 (And.intro hAo (And.intro hN4 (And.intro m0 m2)))))
  clear hB3 hB13 hM3 hN3 hA4 hN4 hK4 hd4 hAo kC1 d0 d2 hd1 hB1 hBk hKeep kE hxk
  go_upto_region 7 with fail
  rw [hw4.out]
  clear hw4 n0 n1 g0 g1 l3
  go_wp2_with fail
  refine (kE4.out).mono ?_
  rintro ev w5 ⟨rfl, hB5⟩
  obtain ⟨⟨hF4, hH4, hS4⟩, hd4, hAo, hN4, m0', m2'⟩ := hZ.out
  have hN5 := hN4.below hB5
  have o0 := hN5.c0
  have o1 := hN5.c1
  have l5 := hN5.lt
  have r0 := (hB5.cell (p := ⟨b0, 0, none⟩) (lt_of_cell (a := ⟨b0, 0, none⟩) m0')).trans m0'
  have r2 := (hB5.cell (p := ⟨b2, 0, none⟩) (lt_of_cell (a := ⟨b2, 0, none⟩) m2')).trans m2'
  have kD5 := hidden (kDr.out w5 db (hF4.below hB5) (hH4.below hB5) (hS4.more hB5) (hd4.below hB5))
  have hY := hidden (And.intro (hF4.below hB5) (And.intro (hH4.below hB5) (And.intro (hAo.trans (Apart.of_below (bs := [E.mb]) hB5)) (And.intro hN5 r0))))
  clear hF4 hH4 hS4 hd4 hAo hN4 m0' m2' hN5 hB5 hZ kDr kE4 m0 m2 k0 k1 l4
  go_wp2_with fail
  refine (kD5.out).mono ?_
  rintro ev w6 ⟨rfl, ⟨f', g1', g2'⟩, hA6⟩
  obtain ⟨hF5, hH5, hA5, hN5, r0'⟩ := hY.out
  have hA6' : Apart [E.mb] w5 w6 := hA6
  have hE := hidden (show FnAt w6 b3 RI 1 /\ w6.cell? ⟨b0, 0, none⟩ = some (ptr fb) /\ (∃ f', f' + bkL (dropR (T p) i).length = f + bkL (T p).length + n /\ S8 E (upd K r.id 0) (upd (upd D p (recsL (dropR (T p) i))) r.id []) f' u lim w6) /\ FsAt fb E rs hb w6 /\ HNo fb hb E w6 /\ Apart [E.mb] wo w6 from
    ⟨hN5.keep hA6' (by simpa using hmb3), (hA6'.cell (p := ⟨b0, 0, none⟩) (lt_of_cell (a := ⟨b0, 0, none⟩) r0') (by simpa using hmb0)).trans r0', ⟨f', g1', g2'⟩, hF5.keep hA6' (by simpa using hfm), hH5.keep hA6' (by simpa using hhm), hA5.trans hA6'⟩)
  clear hF5 hH5 hA5 hN5 r0' hA6 hA6' g2' hY kD5 o0 o1 l5 r0 r2
  go_wp2
  go_ret
  exact ⟨rfl, hE.out⟩
end
theorem ent_remove1 : ∀ (args : Array Value) (w : World), (callFunc 69 args).run Tryz.prog w = .ok (.enter 69 args) w := enters_of Tryz.func69 (by kernel_rfl) rfl
section
variable {fb rs hb : Nat} {E : TE} {w w' : World} {K : Nat -> Nat} {D : Nat -> List Int} {T : Nat -> List Rec} {f u lim : Nat}
theorem boxM (w : World) (fb : Nat) : ∃ w2, w.alloc (Obj.cells #[ptr fb] 31) = w2 /\ Below w.heap.size w w2 /\ w2.cell? ⟨w.heap.size, 0, none⟩ = some (ptr fb) := ⟨_, rfl, (Below.refl _ _).alloc (Nat.le_refl _) _, by simp⟩
set_option maxHeartbeats 4000000 in
theorem remove_via {path s : List UInt8} {l : List (List UInt8)} (hlen : path.length <= 2000) (hp : splitB path = some (l ++ [s])) {Q : World -> Prop} (hQ : ∀ w1 w2, Q w1 -> Below w1.heap.size w1 w2 -> Q w2)
    (kS : ∀ (wx : World) (b0 b1 b2 b3 : Nat) (up : Value), Below w.heap.size w wx -> w.heap.size <= b0 -> w.heap.size <= b3 -> MBox b0 b1 b2 b3 fb up s wx -> TxtsAt wx up l -> Calls Tryz.prog 54 #[ptr fb, .func (.func 69) #[] #[ptr b0, ptr b1, ptr b2, ptr b3]] wx fun e w' => e = .returned .nilIface /\ w'.cell? ⟨b0, 0, none⟩ = some (ptr fb) /\ ∃ x k, i64 x /\ FnAt w' b3 x k /\ FsAt fb E rs hb w' /\ HNo fb hb E w' /\ Q w') :
    Calls Tryz.prog 37 #[ptr fb, .string (mkB path)] w fun e w' => e = .returned .nilIface /\ Q w' := by
  have hmf : ∀ (fn : Fn) (first cap : Array Value) (w : World), (Instr.makeFunc fn first cap).run Tryz.prog w = .ok (.func fn first cap) w := fun _ _ _ _ => rfl
  obtain ⟨w3, hw3, hB3, g0⟩ := boxM w fb
  have kA := hidden (apart_ok path hlen hp 1 w3)
  replace kS := hidden kS
  replace hQ := hidden hQ
  replace hB3 := hidden hB3
  replace hw3 := hidden hw3
  go_enter Tryz.func37, Tryz.ntmps37
  go_upto_region 1 with fail
  rw [hw3.out]
  clear hw3
  go_wp2_with fail
  refine (kA.out).mono ?_
  rintro ev w4 ⟨up, rfl, hT, hB4⟩
  have hT4 := hT
  obtain ⟨ua, uc, rfl, -⟩ := hT
  have k0 := (hB4.cell (p := ⟨w.heap.size, 0, none⟩) (lt_of_cell (a := ⟨w.heap.size, 0, none⟩) g0)).trans g0
  obtain ⟨w6, hw6, hB6, n1, n2⟩ := boxes_two w4 (.slice ua l.length uc) (.string (mkB s)) 50 9
  have m0 := (hB6.cell (p := ⟨w.heap.size, 0, none⟩) (lt_of_cell (a := ⟨w.heap.size, 0, none⟩) k0)).trans k0
  have hb6 : Below w.heap.size w w6 := hB3.out.trans ((hB4.trans (hB6.mono hB4.size)).mono hB3.out.size)
  obtain ⟨w7, hw7, hB7, hN7⟩ : ∃ w7, w6.alloc (Obj.cells #[.int .i64 0, .int .i64 0] 105) = w7 /\ Below w6.heap.size w6 w7 /\ FnAt w7 w6.heap.size 0 0 := ⟨_, rfl, (Below.refl _ _).alloc (Nat.le_refl _) _, fn_new _ _ _⟩
  have o0 := (hB7.cell (p := ⟨w.heap.size, 0, none⟩) (lt_of_cell (a := ⟨w.heap.size, 0, none⟩) m0)).trans m0
  have o1 := (hB7.cell (p := ⟨w4.heap.size, 0, none⟩) (lt_of_cell (a := ⟨w4.heap.size, 0, none⟩) n1)).trans n1
  have o2 := (hB7.cell (p := ⟨w4.heap.size + 1, 0, none⟩) (lt_of_cell (a := ⟨w4.heap.size + 1, 0, none⟩) n2)).trans n2
  have hl0 := lt_of_cell (a := ⟨w.heap.size, 0, none⟩) o0
  have kS7 := hidden (kS.out w7 w.heap.size w4.heap.size (w4.heap.size + 1) w6.heap.size _ (hb6.trans (hB7.mono hb6.size)) (Nat.le_refl _) hb6.size ⟨o0, o1, o2, hN7⟩ ((hT4.below hB6).below hB7))
  replace hw6 := hidden hw6
  replace hw7 := hidden hw7
  clear hT4 hB4 hB6 hb6 hB7 hN7 kS kA g0 k0 m0 o1 o2 n1 n2 hB3
  generalize l.length = LL at *
  generalize hb1e : w4.heap.size = b1 at *
  generalize hb3e : w6.heap.size = b3 at *
  go_upto_region 4 with fail
  rw [hw6.out]
  go_upto_region 5 with fail
  rw [hw7.out]
  clear hw6 hw7
  go_wp2_with fail
  refine (kS7.out).mono ?_
  rintro ev w8 ⟨rfl, q0, x, k, hx, hN8, hF8, hH8, hQ8⟩
  have kL := hidden (lose_no hF8 hH8 x k hx)
  have x0 := hN8.c0
  have x1 := hN8.c1
  have l5 := hN8.lt
  have l6 := lt_of_cell (a := ⟨w.heap.size, 0, none⟩) q0
  replace hQ8 := hidden hQ8
  clear hN8 hF8 hH8 kS7 hx o0 hl0
  go_wp2_with fail
  refine (kL.out).mono ?_
  rintro ev w9 ⟨rfl, hB9⟩
  have hE := hidden (hQ.out _ _ hQ8.out hB9)
  clear hB9 kL
  go_wp2
  go_ret
  exact ⟨rfl, hE.out⟩
theorem dropR_mem {L : List Rec} {i : Nat} (hi : i < L.length) : ∀ x ∈ dropR L i, x ∈ L := by
  intro x hx
  have hlast : L[L.length - 1]? = some (L[L.length - 1]'(by omega)) := List.getElem?_eq_getElem (by omega)
  rw [dropR_get hlast] at hx
  rcases List.mem_or_eq_of_mem_set (List.mem_of_mem_take hx) with h | h
  · exact h
  · rw [h]; exact List.getElem_mem _
theorem TreeOk.dropK {tn p i id : Nat} (ht : TreeOk tn K D T) (p1 : 1 <= p) (p2 : p <= tn) (hk : K p = 2) (hi : i < (T p).length) (h1 : id ≠ 1) (hip : id ≠ p) (hu : ∀ q, 1 <= q -> q <= tn -> K q = 2 -> q ≠ id -> ∀ x ∈ upd T p (dropR (T p) i) q, x.id ≠ id) :
    TreeOk tn (upd K id 0) (upd (upd D p (recsL (dropR (T p) i))) id []) (upd T p (dropR (T p) i)) := by
  have hKq : ∀ q, upd K id 0 q = 2 -> q ≠ id /\ K q = 2 := fun q hq => by
    by_cases e : q = id
    · rw [e, upd_same] at hq; cases hq
    · rw [upd_other _ _ e] at hq; exact ⟨e, hq⟩
  refine ⟨by rw [upd_other _ _ (Ne.symm h1)]; exact ht.root, fun q q1 q2 hq => ?_, fun q q1 q2 hq x hx => ?_⟩
  · obtain ⟨hne, hq⟩ := hKq q hq
    rw [upd_other _ _ hne]
    by_cases hqp : q = p
    · subst hqp
      rw [upd_same, upd_same]
      exact ⟨rfl, (ht.recs q q1 q2 hq).2.drop hi⟩
    · rw [upd_other _ _ hqp, upd_other _ _ hqp]
      exact ht.recs q q1 q2 hq
  · obtain ⟨hne, hq⟩ := hKq q hq
    have hxi := hu q q1 q2 hq hne x hx
    rw [upd_other _ _ hxi]
    by_cases hqp : q = p
    · subst hqp
      rw [upd_same] at hx
      exact ht.used q q1 q2 hq x (dropR_mem hi x hx)
    · rw [upd_other _ _ hqp] at hx
      exact ht.used q q1 q2 hq x hx
set_option maxHeartbeats 4000000 in
theorem remove_file (h : Fsz fb rs hb E K D T f lim w) (hno : HNo fb hb E w) {path s : List UInt8} {l : List (List UInt8)} (hlen : path.length <= 2000) (hp : splitB path = some (l ++ [s])) {p i : Nat} {r : Rec} (hd : dirT K T l = .ok p) (hi : (T p)[i]? = some r) (hrs : r.s = s) (hkr : K r.id = 1) {n : Nat} (hn : blk ((D r.id).length : Int) = (n : Int))
    (hlenp : (T p).length <= 120) (hu : ∀ q, 1 <= q -> q <= E.tn -> K q = 2 -> q ≠ r.id -> ∀ x ∈ upd T p (dropR (T p) i) q, x.id ≠ r.id) (hlim : lim <= 300000000) :
    Calls Tryz.prog 37 #[ptr fb, .string (mkB path)] w fun e w' => e = .returned .nilIface /\ (∃ f', f' + bkL (dropR (T p) i).length = f + bkL (T p).length + n /\ Fsz fb rs hb E.rest (upd K r.id 0) (upd (upd D p (recsL (dropR (T p) i))) r.id []) (upd T p (dropR (T p) i)) f' (lim + 1000) w') /\ E.Turns fb w w' := by
  have hpl := h.pl
  have htn1 := hpl.tn1
  obtain ⟨p1, p2, hk⟩ := dirT_in h.tree htn1 hd
  obtain ⟨hDp, hGp⟩ := h.tree.recs p p1 p2 hk
  have hrm := List.mem_of_getElem? hi
  have hil := (List.getElem?_eq_some_iff.1 hi).1
  obtain ⟨hrt, -⟩ := h.tree.used p p1 p2 hk r hrm
  have hr1 : 1 <= r.id := (hGp.each r hrm).lo
  have hip : r.id ≠ p := by intro e; rw [e, hk] at hkr; cases hkr
  have hi1 : r.id ≠ 1 := by intro e; rw [e, h.tree.root] at hkr; cases hkr
  have hmp := may_all (split_may hp)
  have hl6 : l.length <= 6 := by have := hmp.1; rw [List.length_append] at this; omega
  have hlok : ∀ x ∈ l, okB x = true := fun x hx => hmp.2 x (List.mem_append.2 (Or.inl hx))
  have hsum : sumL D [p, r.id] = bkL (T p).length + n := by
    show (blk ((D p).length : Int)).toNat + ((blk ((D r.id).length : Int)).toNat + 0) = _
    rw [hDp, recsL_len hGp.each, hn]
    rfl
  have hbk : bkL (T p).length <= 40 := by
    have e := bkL_eq (T p).length
    unfold blk at e
    split at e <;> (try split at e) <;> (try split at e) <;> omega
  have hn40 : n <= 40 := by have := blk_range ((D r.id).length : Int); omega
  obtain ⟨A, U, ku, ok', -, hS'⟩ := h.s.re hpl [p, r.id] [p, r.id] (fun x hx => by simp at hx; rcases hx with rfl | rfl <;> omega) (fun x hx => by simp at hx; rcases hx with rfl | rfl <;> omega) 0 (Nat.zero_le _) (by rw [hsum]; show 2 + 2 + _ + 0 <= 87; omega)
  have hfar := h.far
  have hah := h.s.to.lts
  have hfbl := h.at_.lt
  have hlow : ∀ k ∈ [E.d, E.g, E.mb], k < w.heap.size := fun k hk => by
    unfold TE.Ahead at hah
    simp only [List.mem_cons, List.not_mem_nil, or_false] at hk
    omega
  refine remove_via (E := E.rest) (rs := rs) (hb := hb) (Q := fun w' => (∃ f', f' + bkL (dropR (T p) i).length = f + bkL (T p).length + n /\ Fsz fb rs hb E.rest (upd K r.id 0) (upd (upd D p (recsL (dropR (T p) i))) r.id []) (upd T p (dropR (T p) i)) f' (lim + 1000) w') /\ E.Turns fb w w') hlen hp (fun w1 w2 hq hB => ⟨by obtain ⟨f', g1, g2⟩ := hq.1; exact ⟨f', g1, g2.below hB⟩, hq.2.trans (Apart.of_below hB)⟩) (fun wx b0 b1 b2 b3 up hx hb0 hb3 hbx hTx => ?_)
  have hF' : FsAt fb (E.at A U (· ∈ [p, r.id]) (· ∈ [p, r.id]) ku) rs hb wx := (h.at_.below hx).at _ _ _ _ _
  have hSx := (hS'.more hx).to
  have hHx : HNo fb hb (E.at A U (· ∈ [p, r.id]) (· ∈ [p, r.id]) ku) wx := ⟨(hno.below hx).no, hno.ne⟩
  have hi64 : i64 ((r.id : Nat) : Int) := by have := ok'.tn; have : r.id <= (E.at A U (· ∈ [p, r.id]) (· ∈ [p, r.id]) ku).tn := hrt; unfold i64; omega
  have kM := remove1_file (wo := w) hbx hF' hfar hHx hSx ok' h.tree htn1 hTx (by omega) hlok hd hi hrs hkr (show p ∈ [p, r.id] by simp) (show p ∈ [p, r.id] by simp) (show r.id ∈ [p, r.id] by simp) (Or.inl (show r.id ∈ [p, r.id] by simp)) hn hx hah hfbl hno.lt hb3
  obtain ⟨F, hFe⟩ : ∃ F, F = f + bkL (T p).length + n - bkL (dropR (T p) i).length := ⟨_, rfl⟩
  refine (step_ok (P := fun w1 => (Apart [E.mb] w w1 /\ w1.cell? ⟨b0, 0, none⟩ = some (ptr fb) /\ F + bkL (dropR (T p) i).length = f + bkL (T p).length + n) /\ FnAt w1 b3 (r.id : Nat) 1) (K := upd K r.id 0) (D := upd (upd D p (recsL (dropR (T p) i))) r.id []) (f := F) (u := 0) (lim := lim) ent_remove1 hF' hfar ok' hpl.far hpl.live (by show 1 <= E.most /\ E.most <= 200; rw [hpl.most]; omega) hlim (kM.mono ?_)).mono ?_
  · rintro e w1 ⟨rfl, hN1, d0, ⟨f', g1, g2⟩, hF1, hH1, hA1⟩
    have hfF : f' = F := by omega
    rw [hfF] at g1 g2
    exact ⟨rfl, ⟨⟨hA1, d0, g1⟩, hN1⟩, hF1, g2⟩
  · rintro e w2 ⟨rfl, w1, ⟨⟨hA1, d0, hFf⟩, hN1⟩, hF2, hS2, hA2⟩
    have hA2' : Apart [E.d, E.g, E.mb] w1 w2 := hA2
    have hturn : E.Turns fb w w2 := turns_of (Below.refl _ _) hA1 hA2'
    refine ⟨rfl, ?_, ((r.id : Nat) : Int), 1, hi64, hN1.keep hA2' (fun hm => by have := hlow _ hm; omega), ⟨hF2.c0, hF2.c1, hF2.c2, hF2.c3, hF2.c4, hF2.c5, hF2.c6, hF2.c7, hF2.f7⟩, ?_, ⟨F, hFf, ⟨⟨hF2.c0, hF2.c1, hF2.c2, hF2.c3, hF2.c4, hF2.c5, hF2.c6, hF2.c7, hF2.f7⟩, hS2.rest, hpl.at _ _ _ _ _, hfar, h.tree.dropK p1 p2 hk hil hi1 hip hu⟩⟩, hturn⟩
    · exact (hA2'.cell (p := ⟨b0, 0, none⟩) (lt_of_cell (a := ⟨b0, 0, none⟩) d0) (fun hm => by have := hlow _ hm; simp only at this; omega)).trans d0
    · exact ⟨(hno.turns hturn).no, hno.ne⟩
theorem fRemove_ok {a : List UInt8} {Q : World -> Prop} (k : Calls Tryz.prog 37 #[ptr fb, .string (mkB a)] w fun e w' => e = .returned .nilIface /\ Q w') :
    Calls Tryz.prog 12 #[ptr fb, .string (mkB a)] w fun e w' => e = .returned .nilIface /\ Q w' := by
  replace k := hidden k
  have kW := hidden (fun (wx : World) => wrap_nil sRemove (mkB a) wx)
  unfold sRemove at kW
  go_enter Tryz.func12, Tryz.ntmps12
  go_wp2_with fail
  refine (k.out).mono ?_
  rintro ev w1 ⟨rfl, hQ⟩
  replace hQ := hidden hQ
  go_wp2_with fail
  refine (kW.out _).mono ?_
  rintro ev w2 ⟨rfl, hw2⟩
  subst w2
  go_wp2
  go_ret
  exact ⟨rfl, hQ.out⟩
end
section
variable {fb rs hb : Nat} {E : TE} {w w' : World} {K : Nat -> Nat} {D : Nat -> List Int} {T : Nat -> List Rec} {f u lim : Nat}
set_option maxHeartbeats 2000000 in
theorem empty_dir (hF : FsAt fb E rs hb w) (h : S8 E K D f u lim w) (ok : E.Ok) {x : Nat} (h1 : 1 <= x) (h2 : x <= E.tn) (hk : K x = 2) (hD : D x = []) :
    Calls Tryz.prog 70 #[ptr fb, fnV (x : Nat) 2] w fun e w' => e = .returned .nilIface /\ Below w.heap.size w w' := by
  obtain ⟨w1, hw1, hB1, hN1⟩ : ∃ w1, w.alloc (.cells #[.int .i64 (x : Nat), .int .i64 2] 105) = w1 /\ Below w.heap.size w w1 /\ FnAt w1 w.heap.size (x : Nat) 2 := ⟨_, rfl, (Below.refl _ _).alloc (Nat.le_refl _) _, fn_new _ _ _⟩
  have kO := hidden (fun (wx : World) (hx : Below w1.heap.size w1 wx) => of_ok ok (h.more (hB1.trans (hx.mono hB1.size))) h1 h2 hk)
  have kL := hidden (fun (wx : World) (db : Nat) (hx : Below w.heap.size w wx) (hd : DirAt E db x wx) => dLen_calls ((h.more hx).dl (L := []) hD ⟨by simp, by simp⟩ hd) ⟨ok, h1, h2, hk⟩)
  have hF1 := hF.below hB1
  have c2 := hF1.c2
  have hlt := hF1.lt
  have n0 := hN1.c0
  have n1 := hN1.c1
  have ln := hN1.lt
  replace hB1 := hidden hB1
  replace hw1 := hidden hw1
  clear hF h ok hF1 hN1 hD
  generalize hX : ((x : Nat) : Int) = X at *
  go_enter Tryz.func70, Tryz.ntmps70
  go_upto_region 1 with fail
  rw [hw1.out]
  clear hw1
  go_upto_region 3 with fail
  go_region_with (go_at_call 101; refine (kO.out _ (below_drew1 w1)).mono ?_; rintro ev w4 ⟨db, rfl, hdb, d0, d1, hB4⟩)
  all_goals
    have hB14 : Below w.heap.size w w4 := hB1.out.trans (((below_drew1 w1).trans hB4).mono hB1.out.size)
    have kL4 := hidden (kL.out w4 db hB14 ⟨d0, by rw [hX]; exact d1⟩)
    replace hB14 := hidden hB14
    clear hB4 d0 d1
    go_wp2_with fail
    refine (kL4.out).mono ?_
    rintro ev w5 ⟨rfl, hB5⟩
    have hE := hidden (hB14.out.trans (hB5.mono hB14.out.size))
    clear hB5 hB14
    dsimp only [List.length_nil]
    go_wp2
    go_ret
    exact ⟨rfl, hE.out⟩
set_option maxHeartbeats 4000000 in
theorem remove1_dir {wo : World} {b0 b1 b2 b3 : Nat} {v : Value} {s : List UInt8} (hB : MBox b0 b1 b2 b3 fb v s w) (hF : FsAt fb E rs hb w) (hfar : FsAt.Far fb E) (hno : HNo fb hb E w) (h : S8 E K D f u lim w) (ok : E.Ok) (ht : TreeOk E.tn K D T) (htn : 1 <= E.tn) {l : List (List UInt8)} (hv : TxtsAt w v l) (hll : l.length <= 1000) (hok : ∀ s ∈ l, okB s = true) {p i : Nat} {r : Rec} (hp : dirT K T l = .ok p) (hi : (T p)[i]? = some r) (hrs : r.s = s) (hkr : K r.id = 2) (hyp : r.id ≠ p) (hDy : D r.id = []) (hR : E.R p) (hW : E.W p) (hRy : E.R r.id) (hWy : E.W r.id \/ E.ku = 0) {n : Nat} (hn : blk ((D r.id).length : Int) = (n : Int))
    (hx : Below wo.heap.size wo w) (hah : E.Ahead wo.heap.size) (hfbB : fb < wo.heap.size) (hhbB : hb < wo.heap.size) (hb3 : wo.heap.size <= b3) :
    Calls Tryz.prog 69 #[ptr b0, ptr b1, ptr b2, ptr b3] w fun e w' => e = .returned .nilIface /\ FnAt w' b3 (r.id : Nat) 2 /\ w'.cell? ⟨b0, 0, none⟩ = some (ptr fb) /\ (∃ f', f' + bkL (dropR (T p) i).length = f + bkL (T p).length + n /\ S8 E (upd K r.id 0) (upd (upd D p (recsL (dropR (T p) i))) r.id []) f' u lim w') /\ FsAt fb E rs hb w' /\ HNo fb hb E w' /\ Apart [E.mb] wo w' := by
  obtain ⟨p1, p2, hkp⟩ := dirT_in ht htn hp
  obtain ⟨hD, hG⟩ := ht.recs p p1 p2 hkp
  have hrm := List.mem_of_getElem? hi
  obtain ⟨hrt, hrk⟩ := ht.used p p1 p2 hkp r hrm
  have hr1 : 1 <= r.id := (hG.each r hrm).lo
  subst hrs
  have hbs := hB.n.lt
  have h03 : b0 ≠ b3 := fun e => by have c := hB.c0; rw [e, hB.n.c0] at c; cases c
  have h23 : b2 ≠ b3 := fun e => by have c := hB.c2; rw [e, hB.n.c0] at c; cases c
  have hmb3 : b3 ≠ E.mb := by unfold TE.Ahead at hah; omega
  have hmb0 : b0 ≠ E.mb := fun e => by have c := hB.c0; rw [e, h.mapNo 0] at c; cases c
  have hfm : fb ≠ E.mb := hfar.1
  have hhm : hb ≠ E.mb := hno.ne.2.2.1
  have kDa := hidden (dirAt_calls hF h ok ht htn hv hll hok)
  have kCh : ∀ (wx : World) (db : Nat), Below w.heap.size w wx -> DirAt E db p wx -> Calls Tryz.prog 61 #[ptr fb, ptr db, .string (mkB r.s)] wx fun e w' => e = .returned (.tuple #[fnV (r.id : Nat) 2, .nilIface]) /\ Below wx.heap.size wx w' := fun wx db hx hd => by
    have k := child_at (hF.below hx) (h.more hx) ok p1 p2 hkp hD hG hd hi hrt hrk
    rw [hkr] at k
    exact k
  replace kCh := hidden kCh
  have kE := hidden (fun (wx : World) (hFx : FsAt fb E rs hb wx) (hSx : S8 E K D f u lim wx) => empty_dir hFx hSx ok hr1 hrt hkr hDy)
  have kDr := hidden (fun (wx : World) (db : Nat) (hFx : FsAt fb E rs hb wx) (hnx : HNo fb hb E wx) (hSx : S8 E K D f u lim wx) (hd : DirAt E db p wx) => drop_ok hFx hfar hnx hSx ok p1 p2 hkp hD hG hd hi hrt (by rw [hkr]; decide) hyp hR hW hRy hWy hn 2)
  have hKeep := hidden (fun (w3 w4 : World) (hx3 : Below w.heap.size w w3) (hA : Apart [b3] w3 w4) => show FsAt fb E rs hb w4 /\ HNo fb hb E w4 /\ S8 E K D f u lim w4 from ⟨(hF.below hx3).keep hA (by simp; omega), (hno.below hx3).keep hA (by simp; omega), (h.more hx3).over hah (hA.below (by simpa using hb3) (Nat.le_trans hx.size hx3.size))⟩)
  have hBk := hidden hB
  have hxk := hidden hx
  have c0 := hB.c0
  have c1 := hB.c1
  obtain ⟨a, cap, rfl, -⟩ := hv
  replace hp := hidden hp
  clear hF h ok ht hok hB hfar hno hx hah hD hG hi hrm hrk hR hW hRy hWy hn hDy
  generalize l.length = LL at *
  generalize hRI : ((r.id : Nat) : Int) = RI at *
  go_enter Tryz.func69, Tryz.ntmps69
  go_wp2_with fail
  refine (kDa.out).mono ?_
  rintro ev w1 ⟨(⟨q, db, hq, rfl, hd1, hdb, q1, q2, q3⟩ | ⟨m, bk, nm, hq, -⟩), hB1⟩
  rotate_left
  · rw [hp.out] at hq; cases hq
  obtain rfl : p = q := by rw [hp.out] at hq; exact Except.ok.inj hq
  have kC1 := hidden (kCh.out w1 db hB1 hd1)
  clear c0 c1
  have d0 := (hBk.out.below hB1).c0
  have d2 := (hBk.out.below hB1).c2
  have hdb3 : db ≠ b3 := by omega
  replace hd1 := hidden hd1
  replace hB1 := hidden hB1
  clear kDa kCh hq
  go_wp2_with fail
  refine (kC1.out).mono ?_
  rintro ev w3 ⟨rfl, hB3⟩
  have hB13 : Below w.heap.size w w3 := hB1.out.trans (hB3.mono hB1.out.size)
  have hM3 := hBk.out.below hB13
  have hN3 := hM3.n
  have n0 := hN3.c0
  have n1 := hN3.c1
  have g0 := hN3.f0
  have g1 := hN3.f1
  have l3 := hN3.lt
  obtain ⟨w4, hw4, hA4, hN4⟩ : ∃ w4, (w3.setCell ⟨b3, 0, none⟩ (.int .i64 RI)).setCell ⟨b3, 1, none⟩ (.int .i64 2) = w4 /\ Apart [b3] w3 w4 /\ FnAt w4 b3 RI 2 := ⟨_, rfl, fn_apart _ _ _ _, fn_stored hN3⟩
  have hK4 := hKeep.out w3 w4 hB13 hA4
  have hd4 := (hd1.out.below hB3).keep hA4 (by simpa using hdb3)
  have m0 := (hA4.cell (p := ⟨b0, 0, none⟩) (lt_of_cell (a := ⟨b0, 0, none⟩) hM3.c0) (by simpa using h03)).trans hM3.c0
  have m2 := (hA4.cell (p := ⟨b2, 0, none⟩) (lt_of_cell (a := ⟨b2, 0, none⟩) hM3.c2) (by simpa using h23)).trans hM3.c2
  have hAo : Apart [E.mb] wo w4 := (Apart.of_below (bs := [E.mb]) (hxk.out.trans (hB13.mono hxk.out.size))).trans' hA4 (by simpa using hb3)
  have k0 := hN4.c0
  have k1 := hN4.c1
  have l4 := hN4.lt
  replace hw4 := hidden hw4
  have kE4 := hidden (kE.out w4 hK4.1 hK4.2.2)
  have hZ := hidden (And.intro hK4 (And.intro hd4 (And.intro hAo (And.intro hN4 (And.intro m0 m2)))))
  clear hB3 hB13 hM3 hN3 hA4 hN4 hK4 hd4 hAo kC1 d0 d2 hd1 hB1 hBk hKeep kE hxk
  go_upto_region 7 with fail
  rw [hw4.out]
  clear hw4 n0 n1 g0 g1 l3
  go_wp2_with fail
  refine (kE4.out).mono ?_
  rintro ev w5 ⟨rfl, hB5⟩
  obtain ⟨⟨hF4, hH4, hS4⟩, hd4, hAo, hN4, m0', m2'⟩ := hZ.out
  have hN5 := hN4.below hB5
  have o0 := hN5.c0
  have o1 := hN5.c1
  have l5 := hN5.lt
  have r0 := (hB5.cell (p := ⟨b0, 0, none⟩) (lt_of_cell (a := ⟨b0, 0, none⟩) m0')).trans m0'
  have r2 := (hB5.cell (p := ⟨b2, 0, none⟩) (lt_of_cell (a := ⟨b2, 0, none⟩) m2')).trans m2'
  have kD5 := hidden (kDr.out w5 db (hF4.below hB5) (hH4.below hB5) (hS4.more hB5) (hd4.below hB5))
  have hY := hidden (And.intro (hF4.below hB5) (And.intro (hH4.below hB5) (And.intro (hAo.trans (Apart.of_below (bs := [E.mb]) hB5)) (And.intro hN5 r0))))
  clear hF4 hH4 hS4 hd4 hAo hN4 m0' m2' hN5 hB5 hZ kDr kE4 m0 m2 k0 k1 l4
  go_wp2_with fail
  refine (kD5.out).mono ?_
  rintro ev w6 ⟨rfl, ⟨f', g1', g2'⟩, hA6⟩
  obtain ⟨hF5, hH5, hA5, hN5, r0'⟩ := hY.out
  have hA6' : Apart [E.mb] w5 w6 := hA6
  have hE := hidden (show FnAt w6 b3 RI 2 /\ w6.cell? ⟨b0, 0, none⟩ = some (ptr fb) /\ (∃ f', f' + bkL (dropR (T p) i).length = f + bkL (T p).length + n /\ S8 E (upd K r.id 0) (upd (upd D p (recsL (dropR (T p) i))) r.id []) f' u lim w6) /\ FsAt fb E rs hb w6 /\ HNo fb hb E w6 /\ Apart [E.mb] wo w6 from
    ⟨hN5.keep hA6' (by simpa using hmb3), (hA6'.cell (p := ⟨b0, 0, none⟩) (lt_of_cell (a := ⟨b0, 0, none⟩) r0') (by simpa using hmb0)).trans r0', ⟨f', g1', g2'⟩, hF5.keep hA6' (by simpa using hfm), hH5.keep hA6' (by simpa using hhm), hA5.trans hA6'⟩)
  clear hF5 hH5 hA5 hN5 r0' hA6 hA6' g2' hY kD5 o0 o1 l5 r0 r2
  go_wp2
  go_ret
  exact ⟨rfl, hE.out⟩
set_option maxHeartbeats 4000000 in
theorem remove_dir (h : Fsz fb rs hb E K D T f lim w) (hno : HNo fb hb E w) {path s : List UInt8} {l : List (List UInt8)} (hlen : path.length <= 2000) (hp : splitB path = some (l ++ [s])) {p i : Nat} {r : Rec} (hd : dirT K T l = .ok p) (hi : (T p)[i]? = some r) (hrs : r.s = s) (hkr : K r.id = 2) (hip : r.id ≠ p) (hi1 : r.id ≠ 1) (hDy : D r.id = []) {n : Nat} (hn : blk ((D r.id).length : Int) = (n : Int))
    (hlenp : (T p).length <= 120) (hu : ∀ q, 1 <= q -> q <= E.tn -> K q = 2 -> q ≠ r.id -> ∀ x ∈ upd T p (dropR (T p) i) q, x.id ≠ r.id) (hlim : lim <= 300000000) :
    Calls Tryz.prog 37 #[ptr fb, .string (mkB path)] w fun e w' => e = .returned .nilIface /\ (∃ f', f' + bkL (dropR (T p) i).length = f + bkL (T p).length + n /\ Fsz fb rs hb E.rest (upd K r.id 0) (upd (upd D p (recsL (dropR (T p) i))) r.id []) (upd T p (dropR (T p) i)) f' (lim + 1000) w') /\ E.Turns fb w w' := by
  have hpl := h.pl
  have htn1 := hpl.tn1
  obtain ⟨p1, p2, hk⟩ := dirT_in h.tree htn1 hd
  obtain ⟨hDp, hGp⟩ := h.tree.recs p p1 p2 hk
  have hrm := List.mem_of_getElem? hi
  have hil := (List.getElem?_eq_some_iff.1 hi).1
  obtain ⟨hrt, -⟩ := h.tree.used p p1 p2 hk r hrm
  have hr1 : 1 <= r.id := (hGp.each r hrm).lo
  have hmp := may_all (split_may hp)
  have hl6 : l.length <= 6 := by have := hmp.1; rw [List.length_append] at this; omega
  have hlok : ∀ x ∈ l, okB x = true := fun x hx => hmp.2 x (List.mem_append.2 (Or.inl hx))
  have hsum : sumL D [p, r.id] = bkL (T p).length + n := by
    show (blk ((D p).length : Int)).toNat + ((blk ((D r.id).length : Int)).toNat + 0) = _
    rw [hDp, recsL_len hGp.each, hn]
    rfl
  have hbk : bkL (T p).length <= 40 := by
    have e := bkL_eq (T p).length
    unfold blk at e
    split at e <;> (try split at e) <;> (try split at e) <;> omega
  have hn40 : n <= 40 := by have := blk_range ((D r.id).length : Int); omega
  obtain ⟨A, U, ku, ok', -, hS'⟩ := h.s.re hpl [p, r.id] [p, r.id] (fun x hx => by simp at hx; rcases hx with rfl | rfl <;> omega) (fun x hx => by simp at hx; rcases hx with rfl | rfl <;> omega) 0 (Nat.zero_le _) (by rw [hsum]; show 2 + 2 + _ + 0 <= 87; omega)
  have hfar := h.far
  have hah := h.s.to.lts
  have hfbl := h.at_.lt
  have hlow : ∀ k ∈ [E.d, E.g, E.mb], k < w.heap.size := fun k hk => by
    unfold TE.Ahead at hah
    simp only [List.mem_cons, List.not_mem_nil, or_false] at hk
    omega
  refine remove_via (E := E.rest) (rs := rs) (hb := hb) (Q := fun w' => (∃ f', f' + bkL (dropR (T p) i).length = f + bkL (T p).length + n /\ Fsz fb rs hb E.rest (upd K r.id 0) (upd (upd D p (recsL (dropR (T p) i))) r.id []) (upd T p (dropR (T p) i)) f' (lim + 1000) w') /\ E.Turns fb w w') hlen hp (fun w1 w2 hq hB => ⟨by obtain ⟨f', g1, g2⟩ := hq.1; exact ⟨f', g1, g2.below hB⟩, hq.2.trans (Apart.of_below hB)⟩) (fun wx b0 b1 b2 b3 up hx hb0 hb3 hbx hTx => ?_)
  have hF' : FsAt fb (E.at A U (· ∈ [p, r.id]) (· ∈ [p, r.id]) ku) rs hb wx := (h.at_.below hx).at _ _ _ _ _
  have hSx := (hS'.more hx).to
  have hHx : HNo fb hb (E.at A U (· ∈ [p, r.id]) (· ∈ [p, r.id]) ku) wx := ⟨(hno.below hx).no, hno.ne⟩
  have hi64 : i64 ((r.id : Nat) : Int) := by have := ok'.tn; have : r.id <= (E.at A U (· ∈ [p, r.id]) (· ∈ [p, r.id]) ku).tn := hrt; unfold i64; omega
  have kM := remove1_dir (wo := w) hbx hF' hfar hHx hSx ok' h.tree htn1 hTx (by omega) hlok hd hi hrs hkr hip hDy (show p ∈ [p, r.id] by simp) (show p ∈ [p, r.id] by simp) (show r.id ∈ [p, r.id] by simp) (Or.inl (show r.id ∈ [p, r.id] by simp)) hn hx hah hfbl hno.lt hb3
  obtain ⟨F, hFe⟩ : ∃ F, F = f + bkL (T p).length + n - bkL (dropR (T p) i).length := ⟨_, rfl⟩
  refine (step_ok (P := fun w1 => (Apart [E.mb] w w1 /\ w1.cell? ⟨b0, 0, none⟩ = some (ptr fb) /\ F + bkL (dropR (T p) i).length = f + bkL (T p).length + n) /\ FnAt w1 b3 (r.id : Nat) 2) (K := upd K r.id 0) (D := upd (upd D p (recsL (dropR (T p) i))) r.id []) (f := F) (u := 0) (lim := lim) ent_remove1 hF' hfar ok' hpl.far hpl.live (by show 1 <= E.most /\ E.most <= 200; rw [hpl.most]; omega) hlim (kM.mono ?_)).mono ?_
  · rintro e w1 ⟨rfl, hN1, d0, ⟨f', g1, g2⟩, hF1, hH1, hA1⟩
    have hfF : f' = F := by omega
    rw [hfF] at g1 g2
    exact ⟨rfl, ⟨⟨hA1, d0, g1⟩, hN1⟩, hF1, g2⟩
  · rintro e w2 ⟨rfl, w1, ⟨⟨hA1, d0, hFf⟩, hN1⟩, hF2, hS2, hA2⟩
    have hA2' : Apart [E.d, E.g, E.mb] w1 w2 := hA2
    have hturn : E.Turns fb w w2 := turns_of (Below.refl _ _) hA1 hA2'
    refine ⟨rfl, ?_, ((r.id : Nat) : Int), 2, hi64, hN1.keep hA2' (fun hm => by have := hlow _ hm; omega), ⟨hF2.c0, hF2.c1, hF2.c2, hF2.c3, hF2.c4, hF2.c5, hF2.c6, hF2.c7, hF2.f7⟩, ?_, ⟨F, hFf, ⟨⟨hF2.c0, hF2.c1, hF2.c2, hF2.c3, hF2.c4, hF2.c5, hF2.c6, hF2.c7, hF2.f7⟩, hS2.rest, hpl.at _ _ _ _ _, hfar, h.tree.dropK p1 p2 hk hil hi1 hip hu⟩⟩, hturn⟩
    · exact (hA2'.cell (p := ⟨b0, 0, none⟩) (lt_of_cell (a := ⟨b0, 0, none⟩) d0) (fun hm => by have := hlow _ hm; simp only at this; omega)).trans d0
    · exact ⟨(hno.turns hturn).no, hno.ne⟩
end
theorem cntN_none {K : Nat -> Nat} : ∀ {n : Nat}, (∀ i, 1 <= i -> i < n -> K i ≠ 0) -> cntN K n = 0
  | 0, _ => rfl
  | j + 1, h => by
    unfold cntN
    rw [cntN_none fun i a b => h i a (by omega), if_neg fun ⟨a, b⟩ => h j a (by omega) b]
section
variable {fb rs hb : Nat} {E : TE} {w w' : World} {K : Nat -> Nat} {D : Nat -> List Int} {T : Nat -> List Rec} {f u lim : Nat}
set_option maxHeartbeats 2000000 in
theorem add_full (hF : FsAt fb E rs hb w) (h : S8 E K D f u lim w) (ok : E.Ok) {p db : Nat} {L : List Rec} (p1 : 1 <= p) (p2 : p <= E.tn) (hk : K p = 2) (hD : D p = recsL L) (hg : GoodL L) (hd : DirAt E db p w) (s : List UInt8) (hl : L.length < 120)
    (kind : Int) (hall : ∀ i, 1 <= i -> i <= E.tn -> K i ≠ 0) (size : Nat) (all : Bool) :
    Calls Tryz.prog 62 #[ptr fb, ptr db, .string (mkB s), .int .i64 kind, .int .i64 (size : Nat), .bool all] w fun e w' => e = .returned (.tuple #[.int .i64 0, num 16]) /\ Below w.heap.size w w' := by
  have kWi := hidden (widen_calls (h.dl hD hg hd) (eok ok p1 p2 hk _) hl)
  have kLe : ∀ wx, Below w.heap.size w wx -> Calls Tryz.prog 57 #[ptr E.tb] wx fun e w' => e = .returned (.tuple #[.int .i64 0, .nilIface]) /\ Below wx.heap.size wx w' := fun wx hx => by
    have k := S8.left ok (h.more hx)
    rw [cntN_none fun i a b => hall i a (by omega)] at k
    exact k
  replace kLe := hidden kLe
  have kFs := hidden (fun (wx : World) (hx : Below w.heap.size w wx) => (hF.below hx).c2)
  have hlt := hF.lt
  clear hF h hD hd
  generalize growb ((32 * L.length : Nat) : Int) ((32 * (L.length + 1) : Nat) : Int) = GN at *
  go_enter Tryz.func62, Tryz.ntmps62
  go_wp2_with fail
  refine (kWi.out).mono ?_
  rintro ev w1 ⟨rfl, hB1⟩
  have c21 := kFs.out _ hB1
  have hl1 : fb < w1.heap.size := lt_of_cell (a := ⟨fb, 2, none⟩) c21
  have kLe1 := hidden (kLe.out _ hB1)
  replace hB1 := hidden hB1
  clear kWi kLe
  go_wp2_with fail
  refine (kLe1.out).mono ?_
  rintro ev w2 ⟨rfl, hB2⟩
  have hE := hidden (hB1.out.trans (hB2.mono hB1.out.size))
  clear kLe1 hB2 hB1 c21
  go_wp2
  go_ret2
  exact ⟨rfl, hE.out⟩
set_option maxHeartbeats 2000000 in
theorem target_full (hF : FsAt fb E rs hb w) (h : S8 E K D f u lim w) (ok : E.Ok) (ht : TreeOk E.tn K D T) (htn : 1 <= E.tn) {v : Value} {l : List (List UInt8)} (hv : TxtsAt w v l) (hll : l.length <= 1000) (hok : ∀ s ∈ l, okB s = true) {p : Nat} (hp : dirT K T l = .ok p) (s : List UInt8) (hs : okB s = true) (hno : lookT (T p) s = none) (hl : (T p).length < 120) (hall : ∀ i, 1 <= i -> i <= E.tn -> K i ≠ 0) (size : Nat) (all : Bool) :
    Calls Tryz.prog 64 #[ptr fb, v, .string (mkB s), .int .i64 (size : Nat), .bool all] w fun e w' => e = .returned (.tuple #[.int .i64 0, num 16]) /\ Below w.heap.size w w' := by
  have kDa := hidden (dirAt_calls hF h ok ht htn hv hll hok)
  have kCh := hidden (fun (wx : World) (db : Nat) (p1 : 1 <= p) (p2 : p <= E.tn) (hk : K p = 2) (hx : Below w.heap.size w wx) (hd : DirAt E db p wx) => child_none (fb := fb) (h.more hx) ok p1 p2 hk (ht.recs p p1 p2 hk).1 (ht.recs p p1 p2 hk).2 hd s hs (lookT_none hno))
  have kAd := hidden (fun (wx : World) (db : Nat) (p1 : 1 <= p) (p2 : p <= E.tn) (hk : K p = 2) (hx : Below w.heap.size w wx) (hd : DirAt E db p wx) => add_full (hF.below hx) (h.more hx) ok p1 p2 hk (ht.recs p p1 p2 hk).1 (ht.recs p p1 p2 hk).2 hd s hl 1 hall size all)
  obtain ⟨a, cap, rfl, -⟩ := hv
  replace hp := hidden hp
  clear hF h ok ht hok hno hall
  generalize l.length = LL at *
  go_enter Tryz.func64, Tryz.ntmps64
  go_wp2_with fail
  refine (kDa.out).mono ?_
  rintro ev w1 ⟨(⟨q, db, hq, rfl, hd1, hdb, q1, q2, q3⟩ | ⟨m, bk, nm, hq, -⟩), hB1⟩
  rotate_left
  · rw [hp.out] at hq; cases hq
  obtain rfl : p = q := by rw [hp.out] at hq; exact Except.ok.inj hq
  have kC1 := hidden (kCh.out w1 db q1 q2 q3 hB1 hd1)
  have hA1 := hidden (And.intro hB1 hd1)
  clear kDa kCh hB1 hd1 hq
  go_wp2_with fail
  refine (kC1.out).mono ?_
  rintro ev w2 ⟨bk, rfl, hc, hB2⟩
  obtain ⟨w3, hw3, hB3, hN3⟩ : ∃ w3, w2.alloc (Obj.cells #[.int .i64 0, .int .i64 0] 105) = w3 /\ Below w2.heap.size w2 w3 /\ FnAt w3 w2.heap.size 0 0 := ⟨_, rfl, (Below.refl _ _).alloc (Nat.le_refl _) _, fn_new _ _ _⟩
  have kI := is_chain 11 11 w3 _ _ (Chain.below hB3 _ _ _ hc)
  have hb3 : Below w.heap.size w w3 := hA1.out.1.trans ((hB2.trans (hB3.mono hB2.size)).mono hA1.out.1.size)
  have hd3 : DirAt E db p w3 := (hA1.out.2.below hB2).below hB3
  have kA3 := hidden (kAd.out w3 db q1 q2 q3 hb3 hd3)
  replace kI := hidden kI
  replace hb3 := hidden hb3
  replace hw3 := hidden hw3
  clear hc hB2 hB3 hN3 kC1 kAd hd3 hA1
  go_upto_region 5 with fail
  rw [hw3.out]
  clear hw3
  go_wp2_with fail
  refine (kI.out).mono ?_
  rintro ev w4 ⟨rfl, hw4⟩
  subst w4
  dsimp only [Int.reduceBEq]
  go_wp2_with fail
  refine (kA3.out).mono ?_
  rintro ev w5 ⟨rfl, hB5⟩
  have hE := hidden (hb3.out.trans (hB5.mono hb3.out.size))
  clear hB5 kA3
  go_wp2
  go_ret2
  exact ⟨rfl, hE.out⟩
set_option maxHeartbeats 2000000 in
theorem create1_full {b0 b1 b2 b3 : Nat} {v : Value} {s : List UInt8} {kind : Nat} (hB : KBox b0 b1 b2 b3 fb v s kind w) (hF : FsAt fb E rs hb w) (h : S8 E K D f u lim w) (ok : E.Ok) (ht : TreeOk E.tn K D T) (htn : 1 <= E.tn) {l : List (List UInt8)} (hv : TxtsAt w v l) (hll : l.length <= 1000) (hok : ∀ s ∈ l, okB s = true) {p : Nat} (hp : dirT K T l = .ok p) (hs : okB s = true) (hno : lookT (T p) s = none) (hl : (T p).length < 120) (hall : ∀ i, 1 <= i -> i <= E.tn -> K i ≠ 0) :
    Calls Tryz.prog 59 #[ptr b0, ptr b1, ptr b2, ptr b3] w fun e w' => e = .returned (num 16) /\ Below w.heap.size w w' := by
  have kDa := hidden (dirAt_calls hF h ok ht htn hv hll hok)
  have kCh := hidden (fun (wx : World) (db : Nat) (p1 : 1 <= p) (p2 : p <= E.tn) (hk : K p = 2) (hx : Below w.heap.size w wx) (hd : DirAt E db p wx) => child_none (fb := fb) (h.more hx) ok p1 p2 hk (ht.recs p p1 p2 hk).1 (ht.recs p p1 p2 hk).2 hd s hs (lookT_none hno))
  have kAd := hidden (fun (wx : World) (db : Nat) (p1 : 1 <= p) (p2 : p <= E.tn) (hk : K p = 2) (hx : Below w.heap.size w wx) (hd : DirAt E db p wx) => add_full (hF.below hx) (h.more hx) ok p1 p2 hk (ht.recs p p1 p2 hk).1 (ht.recs p p1 p2 hk).2 hd s hl (kind : Nat) hall 0 false)
  have c0 := hB.c0
  have c1 := hB.c1
  have hBk := hidden hB
  obtain ⟨a, cap, rfl, -⟩ := hv
  replace hp := hidden hp
  clear hF h ok ht hok hno hB hall
  generalize l.length = LL at *
  go_enter Tryz.func59, Tryz.ntmps59
  go_wp2_with fail
  refine (kDa.out).mono ?_
  rintro ev w1 ⟨(⟨q, db, hq, rfl, hd1, hdb, q1, q2, q3⟩ | ⟨m, bk, nm, hq, -⟩), hB1⟩
  rotate_left
  · rw [hp.out] at hq; cases hq
  obtain rfl : p = q := by rw [hp.out] at hq; exact Except.ok.inj hq
  have kC1 := hidden (kCh.out w1 db q1 q2 q3 hB1 hd1)
  have hA1 := hidden (And.intro hB1 hd1)
  clear c0 c1
  have d0 := (hBk.out.below hB1).c0
  have d2 := (hBk.out.below hB1).c2
  clear kDa kCh hB1 hd1 hq
  go_wp2_with fail
  refine (kC1.out).mono ?_
  rintro ev w3 ⟨bk, rfl, hc, hB3⟩
  have kI := is_chain 11 11 w3 _ _ hc
  have hb3 : Below w.heap.size w w3 := hA1.out.1.trans (hB3.mono hA1.out.1.size)
  have hd3 : DirAt E db p w3 := hA1.out.2.below hB3
  have kA3 := hidden (kAd.out w3 db q1 q2 q3 hb3 hd3)
  obtain ⟨e0, e1, e2, e3⟩ := hBk.out.below hb3
  replace kI := hidden kI
  replace hb3 := hidden hb3
  clear hc hB3 kC1 kAd hd3 hA1 d0 d2
  go_wp2_with fail
  refine (kI.out).mono ?_
  rintro ev w4 ⟨rfl, hw4⟩
  subst w4
  dsimp only [Int.reduceBEq]
  go_wp2_with fail
  refine (kA3.out).mono ?_
  rintro ev w5 ⟨rfl, hB5⟩
  have hE := hidden (hb3.out.trans (hB5.mono hb3.out.size))
  clear hB5 kA3 e0 e1 e2 e3
  go_wp2
  go_ret
  exact ⟨rfl, hE.out⟩
theorem create_full (h : Fsz fb rs hb E K D T f lim w) {path s : List UInt8} {l : List (List UInt8)} {kind : Nat} (hlen : path.length <= 2000) (hp : splitB path = some (l ++ [s])) {p : Nat} (hd : dirT K T l = .ok p) (hno : lookT (T p) s = none) (hl : (T p).length < 120) (hall : ∀ i, 1 <= i -> i <= E.tn -> K i ≠ 0) :
    Calls Tryz.prog 34 #[ptr fb, .string (mkB path), .int .i64 (kind : Nat)] w fun e w' => ∃ ev, e = .returned ev /\ Refused fb rs hb E K D T f lim 16 w ev w' := by
  have hmp := may_all (split_may hp)
  have hl6 : l.length <= 6 := by have := hmp.1; rw [List.length_append] at this; omega
  refine create_fail h hlen hp rfl (fun wx b0 b1 b2 b3 up hr hbx hT => ?_)
  refine (create1_full hbx hr.at_ hr.s.to h.pl.rest_ok hr.tree h.pl.tn1 hT (by omega) (fun x hx => hmp.2 x (List.mem_append.2 (Or.inl hx))) hd (hmp.2 s (by simp)) hno hl hall).mono ?_
  rintro e w' ⟨rfl, hB⟩
  exact ⟨[], _, rfl, rfl, hB⟩
theorem put_full (h : Fsz fb rs hb E K D T f lim w) {path s : List UInt8} {l : List (List UInt8)} (hlen : path.length <= 2000) (hp : splitB path = some (l ++ [s])) {bv : Value} {zs : List Int} (hbv : ∃ a c, bv = .slice a zs.length c) (hz : zs.length <= 4000) (all : Bool) {p : Nat} (hd : dirT K T l = .ok p) (hno : lookT (T p) s = none) (hl : (T p).length < 120) (hall : ∀ i, 1 <= i -> i <= E.tn -> K i ≠ 0) :
    Calls Tryz.prog 35 #[ptr fb, .string (mkB path), bv, .bool all] w fun e w' => ∃ ev, e = .returned ev /\ Refused fb rs hb E K D T f lim 16 w ev w' := by
  have hmp := may_all (split_may hp)
  have hl6 : l.length <= 6 := by have := hmp.1; rw [List.length_append] at this; omega
  refine put_fail h hlen hp hbv hz all rfl (fun wx up hr hT => ?_)
  refine (target_full hr.at_ hr.s.to h.pl.rest_ok hr.tree h.pl.tn1 hT (by omega) (fun x hx => hmp.2 x (List.mem_append.2 (Or.inl hx))) hd s (hmp.2 s (by simp)) hno hl hall zs.length all).mono ?_
  rintro e w' ⟨rfl, hB⟩
  exact ⟨[], _, rfl, rfl, hB⟩
end
def nmP (c : UInt8) (i : Nat) : List UInt8 := c :: Lib.itoa (i : Int)
theorem nm_join (c : UInt8) (i : Nat) : (⟨#[c]⟩ : ByteArray) ++ itoaB (i : Int) = mkB (nmP c i) := by
  apply ByteArray.ext
  apply Array.toList_inj.1
  rw [ByteArray.data_append, Array.toList_append]
  simp [mkB, nmP]
def valD (l : List UInt8) : Nat := l.foldl (fun a c => a * 10 + (c.toNat - 48)) 0
theorem val_fin : ∀ i : Fin 128, valD (Lib.itoa ((i.val : Nat) : Int)) = i.val := by decide +kernel
theorem ok_fin : ∀ i : Fin 128, okB (nmP 120 i.val) = true /\ okB (nmP 102 i.val) = true /\ okB (nmP 107 i.val) = true := by decide +kernel
theorem size_fin : ∀ i : Fin 128, (Lib.itoa ((i.val : Nat) : Int)).length <= 20 := by decide +kernel
theorem nm_inj {c : UInt8} {i j : Nat} (hi : i < 128) (hj : j < 128) (h : nmP c i = nmP c j) : i = j := by
  have h2 := congrArg valD (List.cons.inj h).2
  rw [val_fin ⟨i, hi⟩, val_fin ⟨j, hj⟩] at h2
  exact h2
theorem nm_size {i : Nat} (hi : i < 128) : (itoaB (i : Int)).size <= 20 := by
  have := size_fin ⟨i, hi⟩
  simpa [itoaB, ByteArray.size] using this
theorem mem_dropR {L : List Rec} {i : Nat} {r q : Rec} (h : (L.map Rec.s).Nodup) (hr : L[i]? = some r) : q ∈ dropR L i <-> q ∈ L /\ q.s ≠ r.s := by
  obtain ⟨hi, er⟩ := List.getElem?_eq_some_iff.1 hr
  obtain ⟨m, hm⟩ : ∃ m, L.length = m + 1 := ⟨L.length - 1, by omega⟩
  obtain ⟨x, hx⟩ : ∃ x, L[m]? = some x := ⟨_, List.getElem?_eq_getElem (by omega)⟩
  have key : ∀ {a b : Nat} {y z : Rec}, L[a]? = some y -> L[b]? = some z -> a ≠ b -> y.s ≠ z.s := fun {a b y z} ha hb hne e => by
    obtain ⟨h1, e1⟩ := List.getElem?_eq_some_iff.1 ha
    obtain ⟨h2, e2⟩ := List.getElem?_eq_some_iff.1 hb
    rcases Nat.lt_or_gt_of_ne hne with hl | hl
    · have hn := List.pairwise_iff_getElem.1 h a b (by simpa using h1) (by simpa using h2) hl
      rw [List.getElem_map, List.getElem_map, e1, e2] at hn
      exact hn e
    · have hn := List.pairwise_iff_getElem.1 h b a (by simpa using h2) (by simpa using h1) hl
      rw [List.getElem_map, List.getElem_map, e1, e2] at hn
      exact hn e.symm
  have hd := dropR_get (i := i) (show L[L.length - 1]? = some x by rw [hm]; exact hx)
  rw [hm, show m + 1 - 1 = m by omega] at hd
  rw [hd]
  constructor
  · intro hq
    obtain ⟨a, ha⟩ := List.getElem?_of_mem hq
    rw [List.getElem?_take] at ha
    split at ha
    · rename_i ham
      rw [List.getElem?_set] at ha
      split at ha
      · rename_i hia
        cases ha
        exact ⟨List.mem_of_getElem? hx, key hx hr (by omega)⟩
      · rename_i hia
        exact ⟨List.mem_of_getElem? ha, key ha hr (fun e => hia e.symm)⟩
    · cases ha
  · rintro ⟨hq, hne⟩
    obtain ⟨a, ha⟩ := List.getElem?_of_mem hq
    have hai : a ≠ i := fun e => by
      subst e
      rw [ha] at hr
      cases hr
      exact hne rfl
    have hal := (List.getElem?_eq_some_iff.1 ha).1
    rcases Nat.lt_or_ge a m with hlt | hge
    · refine List.mem_of_getElem? (i := a) ?_
      rw [List.getElem?_take, if_pos hlt, List.getElem?_set_ne (by omega)]
      exact ha
    · have : a = m := by omega
      subst this
      rw [hx] at ha
      cases ha
      refine List.mem_of_getElem? (i := i) ?_
      rw [List.getElem?_take, if_pos (by omega), List.getElem?_set_self (by omega)]
theorem split_one {s : List UInt8} (h : okB s = true) : splitB (47 :: s) = some [s] := by
  have := split_join (l := [s]) (by simp [mayP, h])
  simpa [joinB, flatB] using this
theorem lookN {L : List Rec} {s : List UInt8} (h : ∀ r ∈ L, r.s ≠ s) : lookT L s = none := List.find?_eq_none.2 fun r hr => by simpa using h r hr
def xsR (k : Nat) : List Rec := (List.range k).map fun j => ⟨nmP 120 (j + 1), j + 2⟩
theorem xsR_len (k : Nat) : (xsR k).length = k := by simp [xsR]
theorem xsR_get {k i : Nat} (h : i < k) : (xsR k)[i]? = some ⟨nmP 120 (i + 1), i + 2⟩ := by simp [xsR, h]
theorem xsR_succ (k : Nat) : xsR (k + 1) = xsR k ++ [⟨nmP 120 (k + 1), k + 2⟩] := by simp [xsR, List.range_succ]
theorem xsR_mem {k : Nat} {r : Rec} (h : r ∈ xsR k) : ∃ j, j < k /\ r = ⟨nmP 120 (j + 1), j + 2⟩ := by
  obtain ⟨j, hj, rfl⟩ := List.mem_map.1 h
  exact ⟨j, List.mem_range.1 hj, rfl⟩
theorem xsR_no {k i : Nat} (hk : k <= i) (hi : i < 120) : ∀ r ∈ xsR k, r.s ≠ nmP 120 (i + 1) := by
  intro r hr e
  obtain ⟨j, hj, rfl⟩ := xsR_mem hr
  have := nm_inj (c := 120) (i := j + 1) (j := i + 1) (by omega) (by omega) e
  omega
theorem xsR_drop (k : Nat) : dropR (xsR (k + 1)) k = xsR k := by
  have h := dropR_last (L := xsR (k + 1)) (by rw [xsR_len]; omega)
  rw [xsR_len] at h
  rw [show k + 1 - 1 = k by omega] at h
  rw [h, xsR_succ]
  have e := xsR_len k
  rw [List.take_append_of_le_length (by omega), List.take_of_length_le (by omega)]
theorem xsR_nodup {k : Nat} (hk : k < 120) : ((xsR k).map Rec.s).Nodup := by
  have e : (xsR k).map Rec.s = (List.range k).map fun j => nmP 120 (j + 1) := by simp [xsR]
  rw [e]
  refine List.pairwise_map.2 (List.Pairwise.imp_of_mem ?_ (List.nodup_range (n := k)))
  intro a b ha hb hne h
  have := nm_inj (c := 120) (i := a + 1) (j := b + 1) (by have := List.mem_range.1 ha; omega) (by have := List.mem_range.1 hb; omega) h
  omega
theorem bkL_one (n : Nat) (hn : n <= 124) : bkL n <= bkL (n + 1) /\ bkL (n + 1) <= bkL n + 2 /\ bkL n <= 33 := by
  have e1 := bkL_eq n
  have e2 := bkL_eq (n + 1)
  unfold blk at e1 e2
  split at e1 <;> split at e2 <;> (try split at e1) <;> (try split at e2) <;> (try split at e1) <;> (try split at e2) <;> omega
theorem grow_bk (n : Nat) (hn : n <= 123) : growb ((32 * n : Nat) : Int) ((32 * (n + 1) : Nat) : Int) = ((bkL (n + 1) - bkL n : Nat) : Int) := by
  have e1 := bkL_eq n
  have e2 := bkL_eq (n + 1)
  have := bkL_one n (by omega)
  unfold growb
  omega
def inK (kd : Nat -> Nat) (k : Nat) (j : Nat) : Nat := if j = 1 then 2 else if 2 <= j /\ j <= k + 1 then kd (j - 1) else 0
def inT (L : List Rec) : Nat -> List Rec := upd (fun _ => []) 1 L
theorem inK_put (kd : Nat -> Nat) (k c : Nat) : upd (inK kd k) (k + 2) c = inK (upd kd (k + 1) c) (k + 1) := by
  funext j
  unfold inK
  by_cases e : j = k + 2
  · subst e
    rw [upd_same, if_neg (by omega), if_pos (by omega), show k + 2 - 1 = k + 1 by omega, upd_same]
  · rw [upd_other _ _ e]
    by_cases e1 : j = 1
    · rw [if_pos e1, if_pos e1]
    · rw [if_neg e1, if_neg e1]
      by_cases e2 : 2 <= j /\ j <= k + 1
      · rw [if_pos e2, if_pos (by omega), upd_other _ _ (by omega)]
      · rw [if_neg e2, if_neg (by omega)]
theorem inK_take (kd : Nat -> Nat) (k : Nat) : upd (inK kd (k + 1)) (k + 2) 0 = inK kd k := by
  funext j
  unfold inK
  by_cases e : j = k + 2
  · subst e
    rw [upd_same, if_neg (by omega), if_neg (by omega)]
  · rw [upd_other _ _ e]
    by_cases e1 : j = 1
    · rw [if_pos e1, if_pos e1]
    · rw [if_neg e1, if_neg e1]
      by_cases e2 : 2 <= j /\ j <= k + 1
      · rw [if_pos e2, if_pos (by omega)]
      · rw [if_neg e2, if_neg (by omega)]
theorem inK_congr {kd kd' : Nat -> Nat} {k : Nat} (h : ∀ j, 1 <= j -> j <= k -> kd j = kd' j) : inK kd k = inK kd' k := by
  funext j
  unfold inK
  by_cases e1 : j = 1
  · rw [if_pos e1, if_pos e1]
  · rw [if_neg e1, if_neg e1]
    by_cases e2 : 2 <= j /\ j <= k + 1
    · rw [if_pos e2, if_pos e2, h _ (by omega) (by omega)]
    · rw [if_neg e2, if_neg e2]
end Go.Proofs.YtpofmiecjkghgaaGreatDoor
