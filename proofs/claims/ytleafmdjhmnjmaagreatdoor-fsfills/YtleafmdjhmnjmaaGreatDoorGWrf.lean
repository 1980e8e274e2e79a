/- A law's file system between two calls, whatever it is; FsInodes, call by call. -/
import Derived.Test.YtleafmdjhmnjmaaGreatDoorGWqf
import Derived.Test.YtleafmdjhmnjmaaGreatDoorGWgf
namespace Go.Proofs.YtleafmdjhmnjmaaGreatDoor
open Go.RowKit Go.Extern.Stop Go.Stop Go.Extern Go.Maps Go.Sort Go.Shelf
set_option maxRecDepth 100000
structure GnR (fb hb xb N dd : Nat) (P : (Nat -> List Int) -> Nat -> Prop) (K : Nat -> Nat) (T : Nat -> List Rec) (lim : Nat) (E : TE) (w : World) : Prop where
  st : ∃ D f, P D f /\ Fsz fb 0 hb E K D T f lim w
  no : HNo fb hb E w
  x1 : w.cell? ⟨xb, 1, none⟩ = some (ptr fb)
  xn : xb ≠ E.d /\ xb ≠ E.g /\ xb ≠ E.mb /\ xb ≠ fb
  tn : E.tn = N
  k : E.k = dd
def GnS (fb hb xb N dd : Nat) (P : (Nat -> List Int) -> Nat -> Prop) (K : Nat -> Nat) (T : Nat -> List Rec) (lim : Nat) (w0 w : World) : Prop := (∃ E, GnR fb hb xb N dd P K T lim E w /\ E.w0 = w0) /\ GT w0
def ErN (op nm : ByteArray) (m : Int) (ev : Value) (w : World) : Prop := ∃ ll b, ev = flt b /\ Chain w ((op, nm) :: ll) (num m) (flt b)
section
variable {fb hb xb N dd lim lim' : Nat} {P P' : (Nat -> List Int) -> Nat -> Prop} {K K' : Nat -> Nat} {T T' : Nat -> List Rec} {D D' : Nat -> List Int} {f f' : Nat} {E : TE} {w0 w w' : World}
theorem GnR.below (h : GnR fb hb xb N dd P K T lim E w) (hB : Below w.heap.size w w') : GnR fb hb xb N dd P K T lim E w' := by
  obtain ⟨⟨D, f, hp, h0⟩, h1, h2, h3, h4, h5⟩ := h
  exact ⟨⟨D, f, hp, h0.below hB⟩, h1.below hB, (hB.cell (p := ⟨xb, 1, none⟩) (lt_of_cell (a := ⟨xb, 1, none⟩) h2)).trans h2, h3, h4, h5⟩
theorem GnR.turn (h : GnR fb hb xb N dd P K T lim E w) (hT : E.Turns fb w w') (hP : P' D' f') (hz : Fsz fb 0 hb E.rest K' D' T' f' lim' w') : GnR fb hb xb N dd P' K' T' lim' E.rest w' :=
  have hA : Apart [E.d, E.g, E.mb, fb] w w' := hT
  ⟨⟨D', f', hP, hz⟩, ⟨(h.no.turns hT).no, h.no.ne⟩, (hA.cell (p := ⟨xb, 1, none⟩) (lt_of_cell (a := ⟨xb, 1, none⟩) h.x1) (by have := h.xn; simp; omega)).trans h.x1, h.xn, h.tn, h.k⟩
theorem GnS.below (h : GnS fb hb xb N dd P K T lim w0 w) (hB : Below w.heap.size w w') : GnS fb hb xb N dd P K T lim w0 w' := by
  obtain ⟨⟨E, h1, h2⟩, h3⟩ := h
  exact ⟨⟨E, h1.below hB, h2⟩, h3⟩
theorem GnS.x1 (h : GnS fb hb xb N dd P K T lim w0 w) : w.cell? ⟨xb, 1, none⟩ = some (ptr fb) := by
  obtain ⟨⟨E, h1, h2⟩, h3⟩ := h
  exact h1.x1
theorem GnS.bel (h : GnS fb hb xb N dd P K T lim w0 w) : Below w0.heap.size w0 w := by
  obtain ⟨⟨E, ⟨⟨D, f, hp, h0⟩, -⟩, rfl⟩, h3⟩ := h
  exact h0.s.to.below
theorem GnS.gt (h : GnS fb hb xb N dd P K T lim w0 w) : GT w := h.2.below h.bel
theorem GnS.ground (h : GnS fb hb xb N dd P K T lim w0 w) : Ground w := by
  obtain ⟨⟨E, ⟨⟨D, f, hp, h0⟩, -⟩, rfl⟩, h3⟩ := h
  exact h0.s.to.ground
theorem GnS.up (h : GnS fb hb xb N dd P K T lim w0 w) (hl : lim <= lim') : GnS fb hb xb N dd P K T lim' w0 w := by
  obtain ⟨⟨E, ⟨⟨D, f, hp, h0⟩, h1, h2, h3, h4, h5⟩, he⟩, hg⟩ := h
  obtain ⟨mem, wr, M, z1, z2, z3, z4, z5⟩ := h0.s
  exact ⟨⟨E, ⟨⟨D, f, hp, ⟨h0.at_, ⟨mem, wr, M, z1, z2, z3, ⟨z4.1, Int.le_trans z4.2 (by omega)⟩, z5⟩, h0.pl, h0.far, h0.tree⟩⟩, h1, h2, h3, h4, h5⟩, he⟩, hg⟩
theorem GnS.step {F : FuncId} {args : Array Value} {R : Ending -> World -> Prop} (h : GnS fb hb xb N dd P K T lim w0 w)
    (k : ∀ E D f, GnR fb hb xb N dd P K T lim E w -> P D f -> Fsz fb 0 hb E K D T f lim w -> Calls Tryz.prog F args w fun e w' => R e w' /\ (∃ D' f', P' D' f' /\ Fsz fb 0 hb E.rest K' D' T' f' lim' w') /\ E.Turns fb w w') :
    Calls Tryz.prog F args w fun e w' => R e w' /\ GnS fb hb xb N dd P' K' T' lim' w0 w' := by
  obtain ⟨⟨E, h1, h2⟩, h3⟩ := h
  obtain ⟨D, f, hp, hz⟩ := h1.st
  refine (k E D f h1 hp hz).mono ?_
  rintro e w' ⟨hR, ⟨D', f', hp', hz'⟩, hT⟩
  exact ⟨hR, ⟨⟨E.rest, h1.turn hT hp' hz', h2⟩, h3⟩⟩
theorem GnS.told {F : FuncId} {args : Array Value} {op nm : ByteArray} {m : Int} (h : GnS fb hb xb N dd P K T lim w0 w)
    (k : ∀ E D f, GnR fb hb xb N dd P K T lim E w -> P D f -> Fsz fb 0 hb E K D T f lim w -> Calls Tryz.prog F args w fun e w' => ∃ ev, e = .returned ev /\ Told11 fb 0 hb E K D T f lim op nm m w ev w') :
    Calls Tryz.prog F args w fun e w' => ∃ ev, e = .returned ev /\ ErN op nm m ev w' /\ GnS fb hb xb N dd P K T lim w0 w' := by
  obtain ⟨⟨E, h1, h2⟩, h3⟩ := h
  obtain ⟨D, f, hp, hz⟩ := h1.st
  refine (k E D f h1 hp hz).mono ?_
  rintro e w' ⟨ev, he, ⟨ll, b, q1, q2⟩, hz', hT⟩
  exact ⟨ev, he, ⟨ll, b, q1, q2⟩, ⟨⟨E.rest, h1.turn hT hp hz', h2⟩, h3⟩⟩
end
section
variable {fb hb xb N dd lim k c : Nat} {kd : Nat -> Nat} {w0 w w' : World}
def KdsOk (kd : Nat -> Nat) (k : Nat) : Prop := ∀ j, 1 <= j -> j <= k -> kd j = 1 \/ kd j = 2
theorem KdsOk.put (h : KdsOk kd k) (hc : c = 1 \/ c = 2) : KdsOk (upd kd (k + 1) c) (k + 1) := fun j a b => by
  by_cases e : j = k + 1
  · rw [e, upd_same]; exact hc
  · rw [upd_other _ _ e]; exact h j a (by omega)
theorem KdsOk.used (h : KdsOk kd k) {i : Nat} (h1 : 1 <= i) (h2 : i <= k + 1) : inK kd k i ≠ 0 := by
  unfold inK
  by_cases e : i = 1
  · rw [if_pos e]; decide
  · rw [if_neg e, if_pos (by omega)]
    rcases h (i - 1) (by omega) (by omega) with e | e <;> rw [e] <;> decide
end
structure GrR (rs fb hb xb N dd : Nat) (P : (Nat -> List Int) -> Nat -> Prop) (K : Nat -> Nat) (T : Nat -> List Rec) (lim : Nat) (E : TE) (w : World) : Prop where
  st : ∃ D f, P D f /\ Fsz fb rs hb E K D T f lim w
  no : HNo fb hb E w
  x1 : w.cell? ⟨xb, 1, none⟩ = some (ptr fb)
  xn : xb ≠ E.d /\ xb ≠ E.g /\ xb ≠ E.mb /\ xb ≠ fb
  tn : E.tn = N
  k : E.k = dd
def GrS (rs fb hb xb N dd : Nat) (P : (Nat -> List Int) -> Nat -> Prop) (K : Nat -> Nat) (T : Nat -> List Rec) (lim : Nat) (w0 w : World) : Prop := (∃ E, GrR rs fb hb xb N dd P K T lim E w /\ E.w0 = w0) /\ GT w0
section
variable {rs fb hb xb N dd lim lim' : Nat} {P P' : (Nat -> List Int) -> Nat -> Prop} {K K' : Nat -> Nat} {T T' : Nat -> List Rec} {D D' : Nat -> List Int} {f f' : Nat} {E : TE} {w0 w w' : World}
theorem GrR.below (h : GrR rs fb hb xb N dd P K T lim E w) (hB : Below w.heap.size w w') : GrR rs fb hb xb N dd P K T lim E w' := by
  obtain ⟨⟨D, f, hp, h0⟩, h1, h2, h3, h4, h5⟩ := h
  exact ⟨⟨D, f, hp, h0.below hB⟩, h1.below hB, (hB.cell (p := ⟨xb, 1, none⟩) (lt_of_cell (a := ⟨xb, 1, none⟩) h2)).trans h2, h3, h4, h5⟩
theorem GrR.turn (h : GrR rs fb hb xb N dd P K T lim E w) (hT : E.Turns fb w w') (hP : P' D' f') (hz : Fsz fb rs hb E.rest K' D' T' f' lim' w') : GrR rs fb hb xb N dd P' K' T' lim' E.rest w' :=
  have hA : Apart [E.d, E.g, E.mb, fb] w w' := hT
  ⟨⟨D', f', hP, hz⟩, ⟨(h.no.turns hT).no, h.no.ne⟩, (hA.cell (p := ⟨xb, 1, none⟩) (lt_of_cell (a := ⟨xb, 1, none⟩) h.x1) (by have := h.xn; simp; omega)).trans h.x1, h.xn, h.tn, h.k⟩
theorem GrS.below (h : GrS rs fb hb xb N dd P K T lim w0 w) (hB : Below w.heap.size w w') : GrS rs fb hb xb N dd P K T lim w0 w' := by
  obtain ⟨⟨E, h1, h2⟩, h3⟩ := h
  exact ⟨⟨E, h1.below hB, h2⟩, h3⟩
theorem GrS.x1 (h : GrS rs fb hb xb N dd P K T lim w0 w) : w.cell? ⟨xb, 1, none⟩ = some (ptr fb) := by
  obtain ⟨⟨E, h1, h2⟩, h3⟩ := h
  exact h1.x1
theorem GrS.bel (h : GrS rs fb hb xb N dd P K T lim w0 w) : Below w0.heap.size w0 w := by
  obtain ⟨⟨E, ⟨⟨D, f, hp, h0⟩, -⟩, rfl⟩, h3⟩ := h
  exact h0.s.to.below
theorem GrS.gt (h : GrS rs fb hb xb N dd P K T lim w0 w) : GT w := h.2.below h.bel
theorem GrS.ground (h : GrS rs fb hb xb N dd P K T lim w0 w) : Ground w := by
  obtain ⟨⟨E, ⟨⟨D, f, hp, h0⟩, -⟩, rfl⟩, h3⟩ := h
  exact h0.s.to.ground
theorem GrS.up (h : GrS rs fb hb xb N dd P K T lim w0 w) (hl : lim <= lim') : GrS rs fb hb xb N dd P K T lim' w0 w := by
  obtain ⟨⟨E, ⟨⟨D, f, hp, h0⟩, h1, h2, h3, h4, h5⟩, he⟩, hg⟩ := h
  obtain ⟨mem, wr, M, z1, z2, z3, z4, z5⟩ := h0.s
  exact ⟨⟨E, ⟨⟨D, f, hp, ⟨h0.at_, ⟨mem, wr, M, z1, z2, z3, ⟨z4.1, Int.le_trans z4.2 (by omega)⟩, z5⟩, h0.pl, h0.far, h0.tree⟩⟩, h1, h2, h3, h4, h5⟩, he⟩, hg⟩
theorem gr_new {n i : Nat} (hN : New11 n i rs dd w0 E fb hb xb w) (hg : GT w0) (hP : P (fun _ => []) dd) : GrS rs fb hb xb i dd P rootK (fun _ => []) 6000 w0 w :=
  ⟨⟨E, ⟨⟨_, _, hP, hN.z⟩, hN.no, hN.x1, hN.xn, hN.tn, hN.k⟩, hN.w0⟩, hg⟩
theorem GrS.step {F : FuncId} {args : Array Value} {R : Ending -> World -> Prop} (h : GrS rs fb hb xb N dd P K T lim w0 w)
    (k : ∀ E D f, GrR rs fb hb xb N dd P K T lim E w -> P D f -> Fsz fb rs hb E K D T f lim w -> Calls Tryz.prog F args w fun e w' => R e w' /\ (∃ D' f', P' D' f' /\ Fsz fb rs hb E.rest K' D' T' f' lim' w') /\ E.Turns fb w w') :
    Calls Tryz.prog F args w fun e w' => R e w' /\ GrS rs fb hb xb N dd P' K' T' lim' w0 w' := by
  obtain ⟨⟨E, h1, h2⟩, h3⟩ := h
  obtain ⟨D, f, hp, hz⟩ := h1.st
  refine (k E D f h1 hp hz).mono ?_
  rintro e w' ⟨hR, ⟨D', f', hp', hz'⟩, hT⟩
  exact ⟨hR, ⟨⟨E.rest, h1.turn hT hp' hz', h2⟩, h3⟩⟩
theorem GrS.told {F : FuncId} {args : Array Value} {op nm : ByteArray} {m : Int} (h : GrS rs fb hb xb N dd P K T lim w0 w)
    (k : ∀ E D f, GrR rs fb hb xb N dd P K T lim E w -> P D f -> Fsz fb rs hb E K D T f lim w -> Calls Tryz.prog F args w fun e w' => ∃ ev, e = .returned ev /\ Told11 fb rs hb E K D T f lim op nm m w ev w') :
    Calls Tryz.prog F args w fun e w' => ∃ ev, e = .returned ev /\ ErN op nm m ev w' /\ GrS rs fb hb xb N dd P K T lim w0 w' := by
  obtain ⟨⟨E, h1, h2⟩, h3⟩ := h
  obtain ⟨D, f, hp, hz⟩ := h1.st
  refine (k E D f h1 hp hz).mono ?_
  rintro e w' ⟨ev, he, ⟨ll, b, q1, q2⟩, hz', hT⟩
  exact ⟨ev, he, ⟨ll, b, q1, q2⟩, ⟨⟨E.rest, h1.turn hT hp hz', h2⟩, h3⟩⟩
theorem gr_is (hS : GrS rs fb hb xb N dd P K T lim w0 w) {op nm : ByteArray} {m : Int} {ev : Value} (he : ErN op nm m ev w) (hm : (m == 0) = false) :
    Calls Tryz.prog 18 #[ev, .string op, .string nm, .int .i64 m] w fun e w' => e = .returned (.bool true) /\ GrS rs fb hb xb N dd P K T lim w0 w' := by
  obtain ⟨ll, b, rfl, hc⟩ := he
  refine (law_is m hm w op nm ll (flt b) hc hS.gt).mono ?_
  rintro e w' ⟨rfl, hB⟩
  exact ⟨rfl, hS.below hB⟩
end
section
variable {fb rs hb : Nat} {E : TE} {w w' : World} {K : Nat -> Nat} {D : Nat -> List Int} {T : Nat -> List Rec} {f u lim : Nat}
set_option maxHeartbeats 2000000 in
theorem add_poor (hF : FsAt fb E rs hb w) (h : S8 E K D f u lim w) (ok : E.Ok) (hkk : E.kk = E.k) {p db : Nat} {L : List Rec} (p1 : 1 <= p) (p2 : p <= E.tn) (hk : K p = 2) (hD : D p = recsL L) (hg : GoodL L) (hd : DirAt E db p w) (s : List UInt8) (hl : L.length < 120)
    (kind : Int) (id : Nat) (h1 : 1 <= id) (h2 : id <= E.tn) (hfree : K id = 0) (size : Nat) (all : Bool) (gn : Nat) (hgn : growb ((32 * L.length : Nat) : Int) ((32 * (L.length + 1) : Nat) : Int) = (gn : Int)) (hmay : mayB (f : Int) (rs : Int) ((gn : Int) + growb 0 (size : Int)) all = false) :
    Calls Tryz.prog 45 #[ptr fb, ptr db, .string (mkB s), .int .i64 kind, .int .i64 (size : Nat), .bool all] w fun e w' => e = .returned (.tuple #[.int .i64 0, num 15]) /\ Below w.heap.size w w' := by
  have htn := ok.tn
  have hfk : f <= 2100 := by
    obtain ⟨mem, wr, M, N, q1, q2, q3, q4, q5, q6, q7, q8⟩ := h
    have := freeN_le (bitM mem M E.ma) E.k
    have := ok.k
    omega
  have kWi := widen_calls (h.dl hD hg hd) (eok ok p1 p2 hk _) hl
  rw [hgn] at kWi
  replace kWi := hidden kWi
  have kLe := hidden (fun (wx : World) (hx : Below w.heap.size w wx) => S8.left ok (h.more hx))
  have kGr := hidden (fun (wx : World) => grow_calls 0 (size : Int) wx)
  have kMy := hidden (fun (wx : World) (hx : Below w.heap.size w wx) => fmay_calls (hF.below hx) (h.more hx) ok hkk ((gn : Int) + growb 0 (size : Int)) all (yes := false) (fun wy => by have := may_calls (f : Int) (rs : Int) ((gn : Int) + growb 0 (size : Int)) all (by omega) wy; rw [hmay] at this; exact this))
  have kFs := hidden (fun (wx : World) (hx : Below w.heap.size w wx) => (hF.below hx).c2)
  have hcnt := cnt_pos h1 hfree (E.tn + 1) (by omega)
  have hcn : ¬ ((cntN K (E.tn + 1) : Nat) : Int) = 0 := by omega
  have hgr := growb_range 0 (size : Int)
  have hgz : gn <= 100 := by have := growb_range ((32 * L.length : Nat) : Int) ((32 * (L.length + 1) : Nat) : Int); omega
  have hlt := hF.lt
  clear hF h hD hd hmay hgn
  generalize hcq : ((cntN K (E.tn + 1) : Nat) : Int) = CN at *
  generalize hgq : growb 0 (size : Int) = GS at *
  clear hcq hgq hcnt
  go_enter Tryz.func45, Tryz.ntmps45
  go_wp2_with fail
  refine (kWi.out).mono ?_
  rintro ev w1 ⟨rfl, hB1⟩
  have c21 := kFs.out _ hB1
  have hl1 : fb < w1.heap.size := lt_of_cell (a := ⟨fb, 2, none⟩) c21
  have kLe1 := hidden (kLe.out _ hB1)
  replace hB1 := hidden hB1
  clear kWi kLe
  go_wp2_with fail
  refine (kLe1.out).mono ?_
  rintro ev w2 ⟨rfl, hB2⟩
  have hb2 := hB1.out.trans (hB2.mono hB1.out.size)
  have kMy2 := hidden (kMy.out _ hb2)
  replace hb2 := hidden hb2
  clear kLe1 hB2 hB1 c21 kMy
  go_wp2_with fail
  refine (kGr.out _).mono ?_
  rintro ev wq ⟨rfl, hwq⟩
  subst wq
  go_wp2_with fail
  refine (kMy2.out).mono ?_
  rintro ev w3 ⟨rfl, hB3⟩
  have hE := hidden (hb2.out.trans (hB3.mono hb2.out.size))
  clear kMy2 hB3 hb2 kGr
  dsimp only [Bool.false_eq_true, if_false]
  go_wp2
  go_ret2
  exact ⟨rfl, hE.out⟩
set_option maxHeartbeats 2000000 in
theorem target_poor (hF : FsAt fb E rs hb w) (h : S8 E K D f u lim w) (ok : E.Ok) (hkk : E.kk = E.k) (ht : TreeOk E.tn K D T) (htn : 1 <= E.tn) {v : Value} {l : List (List UInt8)} (hv : TxtsAt w v l) (hll : l.length <= 1000) (hok : ∀ s ∈ l, okB s = true) {p : Nat} (hp : dirT K T l = .ok p) (s : List UInt8) (hs : okB s = true) (hno : lookT (T p) s = none) (hl : (T p).length < 120) (id : Nat) (h1 : 1 <= id) (h2 : id <= E.tn) (hfree : K id = 0) (size : Nat) (all : Bool) (gn : Nat) (hgn : growb ((32 * (T p).length : Nat) : Int) ((32 * ((T p).length + 1) : Nat) : Int) = (gn : Int)) (hmay : mayB (f : Int) (rs : Int) ((gn : Int) + growb 0 (size : Int)) all = false) :
    Calls Tryz.prog 47 #[ptr fb, v, .string (mkB s), .int .i64 (size : Nat), .bool all] w fun e w' => e = .returned (.tuple #[.int .i64 0, num 15]) /\ Below w.heap.size w w' := by
  have kDa := hidden (dirAt_calls hF h ok ht htn hv hll hok)
  have kCh := hidden (fun (wx : World) (db : Nat) (p1 : 1 <= p) (p2 : p <= E.tn) (hk : K p = 2) (hx : Below w.heap.size w wx) (hd : DirAt E db p wx) => child_none (fb := fb) (h.more hx) ok p1 p2 hk (ht.recs p p1 p2 hk).1 (ht.recs p p1 p2 hk).2 hd s hs (lookT_none hno))
  have kAd := hidden (fun (wx : World) (db : Nat) (p1 : 1 <= p) (p2 : p <= E.tn) (hk : K p = 2) (hx : Below w.heap.size w wx) (hd : DirAt E db p wx) => add_poor (hF.below hx) (h.more hx) ok hkk p1 p2 hk (ht.recs p p1 p2 hk).1 (ht.recs p p1 p2 hk).2 hd s hl 1 id h1 h2 hfree size all gn hgn hmay)
  obtain ⟨a, cap, rfl, -⟩ := hv
  replace hp := hidden hp
  clear hF h ok ht hok hgn hmay hfree hno
  generalize l.length = LL at *
  go_enter Tryz.func47, Tryz.ntmps47
  go_wp2_with fail
  refine (kDa.out).mono ?_
  rintro ev w1 ⟨(⟨q, db, hq, rfl, hd1, hdb, q1, q2, q3⟩ | ⟨m, bk, nm, hq, -⟩), hB1⟩
  rotate_left
  · rw [hp.out] at hq; cases hq
  obtain rfl : p = q := by rw [hp.out] at hq; exact Except.ok.inj hq
  have kC1 := hidden (kCh.out w1 db q1 q2 q3 hB1 hd1)
  have hA1 := hidden (And.intro hB1 hd1)
  clear kDa kCh hB1 hd1 hq
  go_wp2_with fail
  refine (kC1.out).mono ?_
  rintro ev w2 ⟨bk, rfl, hc, hB2⟩
  obtain ⟨w3, hw3, hB3, hN3⟩ : ∃ w3, w2.alloc (Obj.cells #[.int .i64 0, .int .i64 0] 89) = w3 /\ Below w2.heap.size w2 w3 /\ FnAt w3 w2.heap.size 0 0 := ⟨_, rfl, (Below.refl _ _).alloc (Nat.le_refl _) _, fn_new _ _ _⟩
  have kI := is_chain 11 11 w3 _ _ (Chain.below hB3 _ _ _ hc)
  have hb3 : Below w.heap.size w w3 := hA1.out.1.trans ((hB2.trans (hB3.mono hB2.size)).mono hA1.out.1.size)
  have hd3 : DirAt E db p w3 := (hA1.out.2.below hB2).below hB3
  have kA3 := hidden (kAd.out w3 db q1 q2 q3 hb3 hd3)
  replace kI := hidden kI
  replace hb3 := hidden hb3
  replace hw3 := hidden hw3
  clear hc hB2 hB3 hN3 kC1 kAd hd3 hA1
  go_upto_region 5 with fail
  rw [hw3.out]
  clear hw3
  go_wp2_with fail
  refine (kI.out).mono ?_
  rintro ev w4 ⟨rfl, hw4⟩
  subst w4
  dsimp only [Int.reduceBEq]
  go_wp2_with fail
  refine (kA3.out).mono ?_
  rintro ev w5 ⟨rfl, hB5⟩
  have hE := hidden (hb3.out.trans (hB5.mono hb3.out.size))
  clear hB5 kA3
  go_wp2
  go_ret2
  exact ⟨rfl, hE.out⟩
theorem put_poor (h : Fsz fb rs hb E K D T f lim w) {path s : List UInt8} {l : List (List UInt8)} (hlen : path.length <= 2000) (hp : splitB path = some (l ++ [s])) {bv : Value} {zs : List Int} (hbv : ∃ a c, bv = .slice a zs.length c) (hz : zs.length <= 4000) (all : Bool) {p : Nat} (hd : dirT K T l = .ok p) (hno : lookT (T p) s = none) (hl : (T p).length < 120) {id : Nat} (h1 : 1 <= id) (h2 : id <= E.tn) (hfree : K id = 0) {gn : Nat} (hgn : growb ((32 * (T p).length : Nat) : Int) ((32 * ((T p).length + 1) : Nat) : Int) = (gn : Int)) (hmay : mayB (f : Int) (rs : Int) ((gn : Int) + growb 0 (zs.length : Int)) all = false) :
    Calls Tryz.prog 28 #[ptr fb, .string (mkB path), bv, .bool all] w fun e w' => ∃ ev, e = .returned ev /\ Refused fb rs hb E K D T f lim 15 w ev w' := by
  have hmp := may_all (split_may hp)
  have hl6 : l.length <= 6 := by have := hmp.1; rw [List.length_append] at this; omega
  refine put_fail h hlen hp hbv hz all rfl (fun wx up hr hT => ?_)
  refine (target_poor hr.at_ hr.s.to h.pl.rest_ok h.pl.kk.symm hr.tree h.pl.tn1 hT (by omega) (fun x hx => hmp.2 x (List.mem_append.2 (Or.inl hx))) hd s (hmp.2 s (by simp)) hno hl id h1 h2 hfree zs.length all gn hgn hmay).mono ?_
  rintro e w' ⟨rfl, hB⟩
  exact ⟨[], _, rfl, rfl, hB⟩
end
section
variable {fb rs hb : Nat} {E : TE} {w w' : World} {K : Nat -> Nat} {D : Nat -> List Int} {T : Nat -> List Rec} {f u lim tn : Nat}
theorem rec_inj : ∀ {L : List Rec}, (L.map Rec.s).Nodup -> ∀ {a b : Rec}, a ∈ L -> b ∈ L -> a.s = b.s -> a = b
  | [], _, a, b, ha, _, _ => by simp at ha
  | x :: l, h, a, b, ha, hb, e => by
    rw [List.map_cons, List.nodup_cons] at h
    rcases List.mem_cons.1 ha with ha | ha <;> rcases List.mem_cons.1 hb with hb | hb
    · rw [ha, hb]
    · exact absurd (List.mem_map.2 ⟨b, hb, by rw [<- e, ha]⟩) h.1
    · exact absurd (List.mem_map.2 ⟨a, ha, by rw [e, hb]⟩) h.1
    · exact rec_inj h.2 ha hb e
theorem idT_at {L : List Rec} (h : (L.map Rec.s).Nodup) {r : Rec} (hr : r ∈ L) : idT L r.s = r.id := by
  obtain ⟨q, h1, h2⟩ := look_has (L := L) (s := r.s) ⟨r, hr, rfl⟩
  obtain ⟨e, i, hi⟩ := lookT_some h1
  rw [h2, rec_inj h (List.mem_of_getElem? hi) hr e]
end
section
variable {fb hb xb N dd lim k : Nat} {kd : Nat -> Nat} {w0 w w' : World}
end
section
variable {K : Nat -> Nat} {D : Nat -> List Int} {T : Nat -> List Rec} {tn : Nat}
theorem kids_perm {x : Nat} (hk : K x = 2) (hL : ((T x).map Rec.s).Nodup) : (kidsT K T x).Perm ((T x).map Rec.id) := by
  unfold kidsT
  rw [if_pos hk]
  have h1 : (namesT T x).Perm ((T x).map Rec.s) := by unfold namesT; exact List.mergeSort_perm _ _
  have h2 := h1.map (idT (T x))
  rw [List.map_map] at h2
  exact h2.trans (List.Perm.of_eq (List.map_congr_left fun r hr => idT_at hL hr))
def lvT (K : Nat -> Nat) (T : Nat -> List Rec) (x : Nat) : Nat -> List Nat
  | 0 => [x]
  | j + 1 => (lvT K T x j).flatMap (kidsT K T)
structure RankT (K : Nat -> Nat) (T : Nat -> List Rec) (tn : Nat) (rk : Nat -> Nat) : Prop where
  root : rk 1 = 0
  up : ∀ q, 1 <= q -> q <= tn -> K q = 2 -> ∀ r ∈ T q, rk r.id = rk q + 1
  few : ∀ q, 1 <= q -> q <= tn -> K q ≠ 0 -> rk q <= 6
  own : ∀ q, 1 <= q -> q <= tn -> K q = 2 -> ((T q).map Rec.id).Nodup
  one : ∀ q q', 1 <= q -> q <= tn -> K q = 2 -> 1 <= q' -> q' <= tn -> K q' = 2 -> ∀ r ∈ T q, ∀ r' ∈ T q', r.id = r'.id -> q = q'
  all : ∀ x, 1 <= x -> x <= tn -> K x ≠ 0 -> x ≠ 1 -> ∃ q, 1 <= q /\ q <= tn /\ K q = 2 /\ ∃ r ∈ T q, r.id = x
variable {rk : Nat -> Nat}
theorem kids_mem (ht : TreeOk tn K D T) {q y : Nat} (q1 : 1 <= q) (q2 : q <= tn) : y ∈ kidsT K T q <-> K q = 2 /\ ∃ r ∈ T q, r.id = y := by
  by_cases hk : K q = 2
  · rw [(kids_perm hk (ht.recs q q1 q2 hk).2.nodup).mem_iff, List.mem_map]
    exact ⟨fun h => ⟨hk, h⟩, fun h => h.2⟩
  · unfold kidsT
    rw [if_neg hk]
    exact ⟨fun h => by simp at h, fun h => absurd h.1 hk⟩
theorem lv_in (ht : TreeOk tn K D T) (m : RankT K T tn rk) {x : Nat} (x1 : 1 <= x) (x2 : x <= tn) (x3 : K x ≠ 0) : ∀ j y, y ∈ lvT K T x j -> 1 <= y /\ y <= tn /\ K y ≠ 0 /\ rk y = rk x + j
  | 0, y, h => by
    obtain rfl : y = x := by simpa [lvT] using h
    exact ⟨x1, x2, x3, rfl⟩
  | j + 1, y, h => by
    obtain ⟨q, hq, hy⟩ := List.mem_flatMap.1 h
    obtain ⟨q1, q2, q3, q4⟩ := lv_in ht m x1 x2 x3 j q hq
    obtain ⟨hk, r, hr, rfl⟩ := (kids_mem ht q1 q2).1 hy
    obtain ⟨u1, u2⟩ := ht.used q q1 q2 hk r hr
    exact ⟨((ht.recs q q1 q2 hk).2.each r hr).lo, u1, u2, by rw [m.up q q1 q2 hk r hr, q4]; omega⟩
theorem lv_all (ht : TreeOk tn K D T) (m : RankT K T tn rk) : ∀ n x, 1 <= x -> x <= tn -> K x ≠ 0 -> rk x = n -> x ∈ lvT K T 1 n
  | 0, x, x1, x2, x3, hx => by
    by_cases e : x = 1
    · simp [lvT, e]
    · obtain ⟨q, q1, q2, hk, r, hr, rfl⟩ := m.all x x1 x2 x3 e
      have := m.up q q1 q2 hk r hr
      omega
  | n + 1, x, x1, x2, x3, hx => by
    have e : x ≠ 1 := fun e => by rw [e, m.root] at hx; omega
    obtain ⟨q, q1, q2, hk, r, hr, rfl⟩ := m.all x x1 x2 x3 e
    have hu := m.up q q1 q2 hk r hr
    exact List.mem_flatMap.2 ⟨q, lv_all ht m n q q1 q2 (by rw [hk]; decide) (by omega), (kids_mem ht q1 q2).2 ⟨hk, r, hr, rfl⟩⟩
theorem lv_nodup (ht : TreeOk tn K D T) (m : RankT K T tn rk) {x : Nat} (x1 : 1 <= x) (x2 : x <= tn) (x3 : K x ≠ 0) : ∀ j, (lvT K T x j).Nodup
  | 0 => by simp [lvT]
  | j + 1 => by
    refine List.pairwise_flatMap.2 ⟨fun q hq => ?_, List.Pairwise.imp_of_mem (fun {a b} ha hb hne y hy z hz e => ?_) (lv_nodup ht m x1 x2 x3 j)⟩
    · obtain ⟨q1, q2, -, -⟩ := lv_in ht m x1 x2 x3 j q hq
      by_cases hk : K q = 2
      · exact (kids_perm hk (ht.recs q q1 q2 hk).2.nodup).nodup_iff.2 (m.own q q1 q2 hk)
      · unfold kidsT
        rw [if_neg hk]
        exact List.Pairwise.nil
    · obtain ⟨a1, a2, -, -⟩ := lv_in ht m x1 x2 x3 j a ha
      obtain ⟨b1, b2, -, -⟩ := lv_in ht m x1 x2 x3 j b hb
      obtain ⟨ka, r, hr, rfl⟩ := (kids_mem ht a1 a2).1 hy
      obtain ⟨kb, r', hr', e'⟩ := (kids_mem ht b1 b2).1 hz
      exact hne (m.one a b a1 a2 ka b1 b2 kb r hr r' hr' (by rw [e', e]))
theorem lv_up {x j : Nat} (h : lvT K T x j = []) : lvT K T x (j + 1) = [] := by
  show (lvT K T x j).flatMap _ = []
  rw [h]
  rfl
theorem lv_ups {x j i : Nat} (h : lvT K T x j = []) (hi : j <= i) : lvT K T x i = [] := by
  obtain ⟨d, rfl⟩ : ∃ d, i = j + d := ⟨i - j, by omega⟩
  induction d with
  | zero => exact h
  | succ d ih => exact lv_up (ih (by omega))
theorem lv_last {x : Nat} : ∀ n, lvT K T x (n + 1) = [] -> ∃ J, J <= n /\ lvT K T x (J + 1) = [] /\ ∀ j, j <= J -> lvT K T x j ≠ []
  | 0, h => ⟨0, Nat.le_refl _, h, fun j hj => by obtain rfl : j = 0 := by omega
                                                 simp [lvT]⟩
  | n + 1, h => by
    by_cases e : lvT K T x (n + 1) = []
    · obtain ⟨J, h1, h2, h3⟩ := lv_last n e
      exact ⟨J, by omega, h2, h3⟩
    · exact ⟨n + 1, Nat.le_refl _, h, fun j hj e' => e (lv_ups e' hj)⟩
theorem lv_mem {x J y : Nat} : y ∈ ((List.range (J + 1)).map (lvT K T x)).flatten <-> ∃ j, j <= J /\ y ∈ lvT K T x j := by
  rw [List.mem_flatten]
  constructor
  · rintro ⟨l, hl, hx⟩
    obtain ⟨j, hj, rfl⟩ := List.mem_map.1 hl
    exact ⟨j, by have := List.mem_range.1 hj; omega, hx⟩
  · rintro ⟨j, hj, hx⟩
    exact ⟨_, List.mem_map.2 ⟨j, List.mem_range.2 (by omega), rfl⟩, hx⟩
theorem lvok_rank (ht : TreeOk tn K D T) (m : RankT K T tn rk) {x J : Nat} (x1 : 1 <= x) (x2 : x <= tn) (x3 : K x ≠ 0) (hnil : lvT K T x (J + 1) = []) (hne : ∀ j, j <= J -> lvT K T x j ≠ []) : LvOk K T tn x ((List.range (J + 1)).map (lvT K T x)) := by
  have hget : ∀ j, ((List.range (J + 1)).map (lvT K T x))[j]? = if j <= J then some (lvT K T x j) else none := fun j => by
    by_cases e : j <= J
    · rw [if_pos e, List.getElem?_map, List.getElem?_range (by omega)]
      rfl
    · rw [if_neg e]
      exact List.getElem?_eq_none (by simp; omega)
  refine ⟨by rw [hget, if_pos (Nat.zero_le _)]; rfl, fun j l hl => ?_, ?_, fun y hy => ?_⟩
  · rw [hget] at hl
    by_cases e : j <= J
    · rw [if_pos e] at hl
      obtain rfl := Option.some.inj hl
      refine ⟨hne j e, ?_⟩
      show lvT K T x (j + 1) = _
      rw [hget]
      by_cases e' : j + 1 <= J
      · rw [if_pos e']; rfl
      · rw [if_neg e']
        obtain rfl : j = J := by omega
        exact hnil
    · rw [if_neg e] at hl; cases hl
  · rw [<- List.flatMap_def]
    refine List.pairwise_flatMap.2 ⟨fun j _ => lv_nodup ht m x1 x2 x3 j, List.Pairwise.imp (fun {a b} hab y hy z hz e => ?_) (List.nodup_range (n := J + 1))⟩
    have h1 := (lv_in ht m x1 x2 x3 a y hy).2.2.2
    have h2 := (lv_in ht m x1 x2 x3 b z hz).2.2.2
    rw [e] at h1
    exact hab (by omega)
  · obtain ⟨j, hj, hy⟩ := lv_mem.1 hy
    have := lv_in ht m x1 x2 x3 j y hy
    exact ⟨this.1, this.2.1⟩
theorem sound_rank (ht : TreeOk tn K D T) (htn : 1 <= tn) (m : RankT K T tn rk) : ∃ lv, Sound K T tn lv := by
  have k1 : K 1 ≠ 0 := by rw [ht.root]; decide
  have h7 : lvT K T 1 (6 + 1) = [] := List.eq_nil_iff_forall_not_mem.2 fun x hx => by
    obtain ⟨x1, x2, x3, x4⟩ := lv_in ht m (Nat.le_refl _) htn k1 7 x hx
    have := m.few x x1 x2 x3
    have := m.root
    omega
  obtain ⟨J, hJ, hnil, hne⟩ := lv_last 6 h7
  refine ⟨(List.range (J + 1)).map (lvT K T 1), lvok_rank ht m (Nat.le_refl _) htn k1 hnil hne, by simp; omega, fun x x1 x2 x3 => ?_⟩
  have hx := lv_all ht m (rk x) x x1 x2 x3 rfl
  refine lv_mem.2 ⟨rk x, ?_, hx⟩
  rcases Nat.lt_or_ge J (rk x) with h | h
  · rw [lv_ups hnil h] at hx
    simp at hx
  · exact h
end
end Go.Proofs.YtleafmdjhmnjmaaGreatDoor
