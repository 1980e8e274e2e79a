/- A law's file system between two calls, whatever it is; FsInodes, call by call. -/
import Derived.Test.YtleafmdjhmnjmaaGreatDoorGMa
import Derived.Test.YtleafmdjhmnjmaaGreatDoorGWg
import Derived.Test.YtleafmdjhmnjmaaGreatDoorGXi
import Derived.Test.YtleafmdjhmnjmaaGreatDoorGXf
import Derived.Test.YtleafmdjhmnjmaaGreatDoorGXa
import Derived.Test.YtleafmdjhmnjmaaGreatDoorGXd
import Derived.Test.YtleafmdjhmnjmaaGreatDoorGWc
namespace Go.Proofs.YtleafmdjhmnjmaaGreatDoor
open Go.RowKit Go.Extern.Stop Go.Stop Go.Extern Go.Maps Go.Sort Go.Shelf
set_option maxRecDepth 100000
structure GnR (fb hb xb N dd : Nat) (P : (Nat -> List Int) -> Nat -> Prop) (K : Nat -> Nat) (T : Nat -> List Rec) (lim : Nat) (E : TE) (w : World) : Prop where
  st : ∃ D f, P D f /\ Fsz fb 0 hb E K D T f lim w
  no : HNo fb hb E w
  x1 : w.cell? ⟨xb, 1, none⟩ = some (ptr fb)
  xn : xb ≠ E.d /\ xb ≠ E.g /\ xb ≠ E.mb /\ xb ≠ fb
  tn : E.tn = N
  k : E.k = dd
def GnS (fb hb xb N dd : Nat) (P : (Nat -> List Int) -> Nat -> Prop) (K : Nat -> Nat) (T : Nat -> List Rec) (lim : Nat) (w0 w : World) : Prop := (∃ E, GnR fb hb xb N dd P K T lim E w /\ E.w0 = w0) /\ GT w0
def ErN (op nm : ByteArray) (m : Int) (ev : Value) (w : World) : Prop := ∃ ll b, ev = flt b /\ Chain w ((op, nm) :: ll) (num m) (flt b)
section
variable {fb hb xb N dd lim lim' : Nat} {P P' : (Nat -> List Int) -> Nat -> Prop} {K K' : Nat -> Nat} {T T' : Nat -> List Rec} {D D' : Nat -> List Int} {f f' : Nat} {E : TE} {w0 w w' : World}
theorem GnR.below (h : GnR fb hb xb N dd P K T lim E w) (hB : Below w.heap.size w w') : GnR fb hb xb N dd P K T lim E w' := by
  obtain ⟨⟨D, f, hp, h0⟩, h1, h2, h3, h4, h5⟩ := h
  exact ⟨⟨D, f, hp, h0.below hB⟩, h1.below hB, (hB.cell (p := ⟨xb, 1, none⟩) (lt_of_cell (a := ⟨xb, 1, none⟩) h2)).trans h2, h3, h4, h5⟩
theorem GnR.turn (h : GnR fb hb xb N dd P K T lim E w) (hT : E.Turns fb w w') (hP : P' D' f') (hz : Fsz fb 0 hb E.rest K' D' T' f' lim' w') : GnR fb hb xb N dd P' K' T' lim' E.rest w' :=
  have hA : Apart [E.d, E.g, E.mb, fb] w w' := hT
  ⟨⟨D', f', hP, hz⟩, ⟨(h.no.turns hT).no, h.no.ne⟩, (hA.cell (p := ⟨xb, 1, none⟩) (lt_of_cell (a := ⟨xb, 1, none⟩) h.x1) (by have := h.xn; simp; omega)).trans h.x1, h.xn, h.tn, h.k⟩
theorem GnS.below (h : GnS fb hb xb N dd P K T lim w0 w) (hB : Below w.heap.size w w') : GnS fb hb xb N dd P K T lim w0 w' := by
  obtain ⟨⟨E, h1, h2⟩, h3⟩ := h
  exact ⟨⟨E, h1.below hB, h2⟩, h3⟩
theorem GnS.x1 (h : GnS fb hb xb N dd P K T lim w0 w) : w.cell? ⟨xb, 1, none⟩ = some (ptr fb) := by
  obtain ⟨⟨E, h1, h2⟩, h3⟩ := h
  exact h1.x1
theorem GnS.bel (h : GnS fb hb xb N dd P K T lim w0 w) : Below w0.heap.size w0 w := by
  obtain ⟨⟨E, ⟨⟨D, f, hp, h0⟩, -⟩, rfl⟩, h3⟩ := h
  exact h0.s.to.below
theorem GnS.gt (h : GnS fb hb xb N dd P K T lim w0 w) : GT w := h.2.below h.bel
theorem GnS.ground (h : GnS fb hb xb N dd P K T lim w0 w) : Ground w := by
  obtain ⟨⟨E, ⟨⟨D, f, hp, h0⟩, -⟩, rfl⟩, h3⟩ := h
  exact h0.s.to.ground
theorem GnS.up (h : GnS fb hb xb N dd P K T lim w0 w) (hl : lim <= lim') : GnS fb hb xb N dd P K T lim' w0 w := by
  obtain ⟨⟨E, ⟨⟨D, f, hp, h0⟩, h1, h2, h3, h4, h5⟩, he⟩, hg⟩ := h
  obtain ⟨mem, wr, M, z1, z2, z3, z4, z5⟩ := h0.s
  exact ⟨⟨E, ⟨⟨D, f, hp, ⟨h0.at_, ⟨mem, wr, M, z1, z2, z3, ⟨z4.1, Int.le_trans z4.2 (by omega)⟩, z5⟩, h0.pl, h0.far, h0.tree⟩⟩, h1, h2, h3, h4, h5⟩, he⟩, hg⟩
theorem GnS.step {F : FuncId} {args : Array Value} {R : Ending -> World -> Prop} (h : GnS fb hb xb N dd P K T lim w0 w)
    (k : ∀ E D f, GnR fb hb xb N dd P K T lim E w -> P D f -> Fsz fb 0 hb E K D T f lim w -> Calls Tryz.prog F args w fun e w' => R e w' /\ (∃ D' f', P' D' f' /\ Fsz fb 0 hb E.rest K' D' T' f' lim' w') /\ E.Turns fb w w') :
    Calls Tryz.prog F args w fun e w' => R e w' /\ GnS fb hb xb N dd P' K' T' lim' w0 w' := by
  obtain ⟨⟨E, h1, h2⟩, h3⟩ := h
  obtain ⟨D, f, hp, hz⟩ := h1.st
  refine (k E D f h1 hp hz).mono ?_
  rintro e w' ⟨hR, ⟨D', f', hp', hz'⟩, hT⟩
  exact ⟨hR, ⟨⟨E.rest, h1.turn hT hp' hz', h2⟩, h3⟩⟩
theorem GnS.told {F : FuncId} {args : Array Value} {op nm : ByteArray} {m : Int} (h : GnS fb hb xb N dd P K T lim w0 w)
    (k : ∀ E D f, GnR fb hb xb N dd P K T lim E w -> P D f -> Fsz fb 0 hb E K D T f lim w -> Calls Tryz.prog F args w fun e w' => ∃ ev, e = .returned ev /\ Told11 fb 0 hb E K D T f lim op nm m w ev w') :
    Calls Tryz.prog F args w fun e w' => ∃ ev, e = .returned ev /\ ErN op nm m ev w' /\ GnS fb hb xb N dd P K T lim w0 w' := by
  obtain ⟨⟨E, h1, h2⟩, h3⟩ := h
  obtain ⟨D, f, hp, hz⟩ := h1.st
  refine (k E D f h1 hp hz).mono ?_
  rintro e w' ⟨ev, he, ⟨ll, b, q1, q2⟩, hz', hT⟩
  exact ⟨ev, he, ⟨ll, b, q1, q2⟩, ⟨⟨E.rest, h1.turn hT hp hz', h2⟩, h3⟩⟩
end
section
variable {fb hb xb N dd lim k c : Nat} {kd : Nat -> Nat} {w0 w w' : World}
def KdsOk (kd : Nat -> Nat) (k : Nat) : Prop := ∀ j, 1 <= j -> j <= k -> kd j = 1 \/ kd j = 2
theorem KdsOk.put (h : KdsOk kd k) (hc : c = 1 \/ c = 2) : KdsOk (upd kd (k + 1) c) (k + 1) := fun j a b => by
  by_cases e : j = k + 1
  · rw [e, upd_same]; exact hc
  · rw [upd_other _ _ e]; exact h j a (by omega)
theorem KdsOk.used (h : KdsOk kd k) {i : Nat} (h1 : 1 <= i) (h2 : i <= k + 1) : inK kd k i ≠ 0 := by
  unfold inK
  by_cases e : i = 1
  · rw [if_pos e]; decide
  · rw [if_neg e, if_pos (by omega)]
    rcases h (i - 1) (by omega) (by omega) with e | e <;> rw [e] <;> decide
end
structure GrR (rs fb hb xb N dd : Nat) (P : (Nat -> List Int) -> Nat -> Prop) (K : Nat -> Nat) (T : Nat -> List Rec) (lim : Nat) (E : TE) (w : World) : Prop where
  st : ∃ D f, P D f /\ Fsz fb rs hb E K D T f lim w
  no : HNo fb hb E w
  x1 : w.cell? ⟨xb, 1, none⟩ = some (ptr fb)
  xn : xb ≠ E.d /\ xb ≠ E.g /\ xb ≠ E.mb /\ xb ≠ fb
  tn : E.tn = N
  k : E.k = dd
def GrS (rs fb hb xb N dd : Nat) (P : (Nat -> List Int) -> Nat -> Prop) (K : Nat -> Nat) (T : Nat -> List Rec) (lim : Nat) (w0 w : World) : Prop := (∃ E, GrR rs fb hb xb N dd P K T lim E w /\ E.w0 = w0) /\ GT w0
section
variable {rs fb hb xb N dd lim lim' : Nat} {P P' : (Nat -> List Int) -> Nat -> Prop} {K K' : Nat -> Nat} {T T' : Nat -> List Rec} {D D' : Nat -> List Int} {f f' : Nat} {E : TE} {w0 w w' : World}
theorem GrR.below (h : GrR rs fb hb xb N dd P K T lim E w) (hB : Below w.heap.size w w') : GrR rs fb hb xb N dd P K T lim E w' := by
  obtain ⟨⟨D, f, hp, h0⟩, h1, h2, h3, h4, h5⟩ := h
  exact ⟨⟨D, f, hp, h0.below hB⟩, h1.below hB, (hB.cell (p := ⟨xb, 1, none⟩) (lt_of_cell (a := ⟨xb, 1, none⟩) h2)).trans h2, h3, h4, h5⟩
theorem GrR.turn (h : GrR rs fb hb xb N dd P K T lim E w) (hT : E.Turns fb w w') (hP : P' D' f') (hz : Fsz fb rs hb E.rest K' D' T' f' lim' w') : GrR rs fb hb xb N dd P' K' T' lim' E.rest w' :=
  have hA : Apart [E.d, E.g, E.mb, fb] w w' := hT
  ⟨⟨D', f', hP, hz⟩, ⟨(h.no.turns hT).no, h.no.ne⟩, (hA.cell (p := ⟨xb, 1, none⟩) (lt_of_cell (a := ⟨xb, 1, none⟩) h.x1) (by have := h.xn; simp; omega)).trans h.x1, h.xn, h.tn, h.k⟩
theorem GrS.below (h : GrS rs fb hb xb N dd P K T lim w0 w) (hB : Below w.heap.size w w') : GrS rs fb hb xb N dd P K T lim w0 w' := by
  obtain ⟨⟨E, h1, h2⟩, h3⟩ := h
  exact ⟨⟨E, h1.below hB, h2⟩, h3⟩
theorem GrS.x1 (h : GrS rs fb hb xb N dd P K T lim w0 w) : w.cell? ⟨xb, 1, none⟩ = some (ptr fb) := by
  obtain ⟨⟨E, h1, h2⟩, h3⟩ := h
  exact h1.x1
theorem GrS.bel (h : GrS rs fb hb xb N dd P K T lim w0 w) : Below w0.heap.size w0 w := by
  obtain ⟨⟨E, ⟨⟨D, f, hp, h0⟩, -⟩, rfl⟩, h3⟩ := h
  exact h0.s.to.below
theorem GrS.gt (h : GrS rs fb hb xb N dd P K T lim w0 w) : GT w := h.2.below h.bel
theorem GrS.ground (h : GrS rs fb hb xb N dd P K T lim w0 w) : Ground w := by
  obtain ⟨⟨E, ⟨⟨D, f, hp, h0⟩, -⟩, rfl⟩, h3⟩ := h
  exact h0.s.to.ground
theorem GrS.up (h : GrS rs fb hb xb N dd P K T lim w0 w) (hl : lim <= lim') : GrS rs fb hb xb N dd P K T lim' w0 w := by
  obtain ⟨⟨E, ⟨⟨D, f, hp, h0⟩, h1, h2, h3, h4, h5⟩, he⟩, hg⟩ := h
  obtain ⟨mem, wr, M, z1, z2, z3, z4, z5⟩ := h0.s
  exact ⟨⟨E, ⟨⟨D, f, hp, ⟨h0.at_, ⟨mem, wr, M, z1, z2, z3, ⟨z4.1, Int.le_trans z4.2 (by omega)⟩, z5⟩, h0.pl, h0.far, h0.tree⟩⟩, h1, h2, h3, h4, h5⟩, he⟩, hg⟩
theorem gr_new {n i : Nat} (hN : New11 n i rs dd w0 E fb hb xb w) (hg : GT w0) (hP : P (fun _ => []) dd) : GrS rs fb hb xb i dd P rootK (fun _ => []) 6000 w0 w :=
  ⟨⟨E, ⟨⟨_, _, hP, hN.z⟩, hN.no, hN.x1, hN.xn, hN.tn, hN.k⟩, hN.w0⟩, hg⟩
theorem GrS.step {F : FuncId} {args : Array Value} {R : Ending -> World -> Prop} (h : GrS rs fb hb xb N dd P K T lim w0 w)
    (k : ∀ E D f, GrR rs fb hb xb N dd P K T lim E w -> P D f -> Fsz fb rs hb E K D T f lim w -> Calls Tryz.prog F args w fun e w' => R e w' /\ (∃ D' f', P' D' f' /\ Fsz fb rs hb E.rest K' D' T' f' lim' w') /\ E.Turns fb w w') :
    Calls Tryz.prog F args w fun e w' => R e w' /\ GrS rs fb hb xb N dd P' K' T' lim' w0 w' := by
  obtain ⟨⟨E, h1, h2⟩, h3⟩ := h
  obtain ⟨D, f, hp, hz⟩ := h1.st
  refine (k E D f h1 hp hz).mono ?_
  rintro e w' ⟨hR, ⟨D', f', hp', hz'⟩, hT⟩
  exact ⟨hR, ⟨⟨E.rest, h1.turn hT hp' hz', h2⟩, h3⟩⟩
theorem GrS.told {F : FuncId} {args : Array Value} {op nm : ByteArray} {m : Int} (h : GrS rs fb hb xb N dd P K T lim w0 w)
    (k : ∀ E D f, GrR rs fb hb xb N dd P K T lim E w -> P D f -> Fsz fb rs hb E K D T f lim w -> Calls Tryz.prog F args w fun e w' => ∃ ev, e = .returned ev /\ Told11 fb rs hb E K D T f lim op nm m w ev w') :
    Calls Tryz.prog F args w fun e w' => ∃ ev, e = .returned ev /\ ErN op nm m ev w' /\ GrS rs fb hb xb N dd P K T lim w0 w' := by
  obtain ⟨⟨E, h1, h2⟩, h3⟩ := h
  obtain ⟨D, f, hp, hz⟩ := h1.st
  refine (k E D f h1 hp hz).mono ?_
  rintro e w' ⟨ev, he, ⟨ll, b, q1, q2⟩, hz', hT⟩
  exact ⟨ev, he, ⟨ll, b, q1, q2⟩, ⟨⟨E.rest, h1.turn hT hp hz', h2⟩, h3⟩⟩
theorem gr_is (hS : GrS rs fb hb xb N dd P K T lim w0 w) {op nm : ByteArray} {m : Int} {ev : Value} (he : ErN op nm m ev w) (hm : (m == 0) = false) :
    Calls Tryz.prog 18 #[ev, .string op, .string nm, .int .i64 m] w fun e w' => e = .returned (.bool true) /\ GrS rs fb hb xb N dd P K T lim w0 w' := by
  obtain ⟨ll, b, rfl, hc⟩ := he
  refine (law_is m hm w op nm ll (flt b) hc hS.gt).mono ?_
  rintro e w' ⟨rfl, hB⟩
  exact ⟨rfl, hS.below hB⟩
end
section
variable {fb rs hb : Nat} {E : TE} {w w' : World} {K : Nat -> Nat} {D : Nat -> List Int} {T : Nat -> List Rec} {f u lim : Nat}
end
section
variable {fb rs hb : Nat} {E : TE} {w w' : World} {K : Nat -> Nat} {D : Nat -> List Int} {T : Nat -> List Rec} {f u lim tn : Nat}
theorem rec_inj : ∀ {L : List Rec}, (L.map Rec.s).Nodup -> ∀ {a b : Rec}, a ∈ L -> b ∈ L -> a.s = b.s -> a = b
  | [], _, a, b, ha, _, _ => by simp at ha
  | x :: l, h, a, b, ha, hb, e => by
    rw [List.map_cons, List.nodup_cons] at h
    rcases List.mem_cons.1 ha with ha | ha <;> rcases List.mem_cons.1 hb with hb | hb
    · rw [ha, hb]
    · exact absurd (List.mem_map.2 ⟨b, hb, by rw [<- e, ha]⟩) h.1
    · exact absurd (List.mem_map.2 ⟨a, ha, by rw [e, hb]⟩) h.1
    · exact rec_inj h.2 ha hb e
theorem idT_at {L : List Rec} (h : (L.map Rec.s).Nodup) {r : Rec} (hr : r ∈ L) : idT L r.s = r.id := by
  obtain ⟨q, h1, h2⟩ := look_has (L := L) (s := r.s) ⟨r, hr, rfl⟩
  obtain ⟨e, i, hi⟩ := lookT_some h1
  rw [h2, rec_inj h (List.mem_of_getElem? hi) hr e]
end
section
variable {fb hb xb N dd lim k : Nat} {kd : Nat -> Nat} {w0 w w' : World}
end
section
variable {K : Nat -> Nat} {D : Nat -> List Int} {T : Nat -> List Rec} {tn : Nat}
theorem kids_perm {x : Nat} (hk : K x = 2) (hL : ((T x).map Rec.s).Nodup) : (kidsT K T x).Perm ((T x).map Rec.id) := by
  unfold kidsT
  rw [if_pos hk]
  have h1 : (namesT T x).Perm ((T x).map Rec.s) := by unfold namesT; exact List.mergeSort_perm _ _
  have h2 := h1.map (idT (T x))
  rw [List.map_map] at h2
  exact h2.trans (List.Perm.of_eq (List.map_congr_left fun r hr => idT_at hL hr))
def lvT (K : Nat -> Nat) (T : Nat -> List Rec) (x : Nat) : Nat -> List Nat
  | 0 => [x]
  | j + 1 => (lvT K T x j).flatMap (kidsT K T)
structure RankT (K : Nat -> Nat) (T : Nat -> List Rec) (tn : Nat) (rk : Nat -> Nat) : Prop where
  root : rk 1 = 0
  up : ∀ q, 1 <= q -> q <= tn -> K q = 2 -> ∀ r ∈ T q, rk r.id = rk q + 1
  few : ∀ q, 1 <= q -> q <= tn -> K q ≠ 0 -> rk q <= 6
  own : ∀ q, 1 <= q -> q <= tn -> K q = 2 -> ((T q).map Rec.id).Nodup
  one : ∀ q q', 1 <= q -> q <= tn -> K q = 2 -> 1 <= q' -> q' <= tn -> K q' = 2 -> ∀ r ∈ T q, ∀ r' ∈ T q', r.id = r'.id -> q = q'
  all : ∀ x, 1 <= x -> x <= tn -> K x ≠ 0 -> x ≠ 1 -> ∃ q, 1 <= q /\ q <= tn /\ K q = 2 /\ ∃ r ∈ T q, r.id = x
variable {rk : Nat -> Nat}
theorem kids_mem (ht : TreeOk tn K D T) {q y : Nat} (q1 : 1 <= q) (q2 : q <= tn) : y ∈ kidsT K T q <-> K q = 2 /\ ∃ r ∈ T q, r.id = y := by
  by_cases hk : K q = 2
  · rw [(kids_perm hk (ht.recs q q1 q2 hk).2.nodup).mem_iff, List.mem_map]
    exact ⟨fun h => ⟨hk, h⟩, fun h => h.2⟩
  · unfold kidsT
    rw [if_neg hk]
    exact ⟨fun h => by simp at h, fun h => absurd h.1 hk⟩
theorem lv_in (ht : TreeOk tn K D T) (m : RankT K T tn rk) {x : Nat} (x1 : 1 <= x) (x2 : x <= tn) (x3 : K x ≠ 0) : ∀ j y, y ∈ lvT K T x j -> 1 <= y /\ y <= tn /\ K y ≠ 0 /\ rk y = rk x + j
  | 0, y, h => by
    obtain rfl : y = x := by simpa [lvT] using h
    exact ⟨x1, x2, x3, rfl⟩
  | j + 1, y, h => by
    obtain ⟨q, hq, hy⟩ := List.mem_flatMap.1 h
    obtain ⟨q1, q2, q3, q4⟩ := lv_in ht m x1 x2 x3 j q hq
    obtain ⟨hk, r, hr, rfl⟩ := (kids_mem ht q1 q2).1 hy
    obtain ⟨u1, u2⟩ := ht.used q q1 q2 hk r hr
    exact ⟨((ht.recs q q1 q2 hk).2.each r hr).lo, u1, u2, by rw [m.up q q1 q2 hk r hr, q4]; omega⟩
theorem lv_all (ht : TreeOk tn K D T) (m : RankT K T tn rk) : ∀ n x, 1 <= x -> x <= tn -> K x ≠ 0 -> rk x = n -> x ∈ lvT K T 1 n
  | 0, x, x1, x2, x3, hx => by
    by_cases e : x = 1
    · simp [lvT, e]
    · obtain ⟨q, q1, q2, hk, r, hr, rfl⟩ := m.all x x1 x2 x3 e
      have := m.up q q1 q2 hk r hr
      omega
  | n + 1, x, x1, x2, x3, hx => by
    have e : x ≠ 1 := fun e => by rw [e, m.root] at hx; omega
    obtain ⟨q, q1, q2, hk, r, hr, rfl⟩ := m.all x x1 x2 x3 e
    have hu := m.up q q1 q2 hk r hr
    exact List.mem_flatMap.2 ⟨q, lv_all ht m n q q1 q2 (by rw [hk]; decide) (by omega), (kids_mem ht q1 q2).2 ⟨hk, r, hr, rfl⟩⟩
theorem lv_nodup (ht : TreeOk tn K D T) (m : RankT K T tn rk) {x : Nat} (x1 : 1 <= x) (x2 : x <= tn) (x3 : K x ≠ 0) : ∀ j, (lvT K T x j).Nodup
  | 0 => by simp [lvT]
  | j + 1 => by
    refine List.pairwise_flatMap.2 ⟨fun q hq => ?_, List.Pairwise.imp_of_mem (fun {a b} ha hb hne y hy z hz e => ?_) (lv_nodup ht m x1 x2 x3 j)⟩
    · obtain ⟨q1, q2, -, -⟩ := lv_in ht m x1 x2 x3 j q hq
      by_cases hk : K q = 2
      · exact (kids_perm hk (ht.recs q q1 q2 hk).2.nodup).nodup_iff.2 (m.own q q1 q2 hk)
      · unfold kidsT
        rw [if_neg hk]
        exact List.Pairwise.nil
    · obtain ⟨a1, a2, -, -⟩ := lv_in ht m x1 x2 x3 j a ha
      obtain ⟨b1, b2, -, -⟩ := lv_in ht m x1 x2 x3 j b hb
      obtain ⟨ka, r, hr, rfl⟩ := (kids_mem ht a1 a2).1 hy
      obtain ⟨kb, r', hr', e'⟩ := (kids_mem ht b1 b2).1 hz
      exact hne (m.one a b a1 a2 ka b1 b2 kb r hr r' hr' (by rw [e', e]))
theorem lv_up {x j : Nat} (h : lvT K T x j = []) : lvT K T x (j + 1) = [] := by
  show (lvT K T x j).flatMap _ = []
  rw [h]
  rfl
theorem lv_ups {x j i : Nat} (h : lvT K T x j = []) (hi : j <= i) : lvT K T x i = [] := by
  obtain ⟨d, rfl⟩ : ∃ d, i = j + d := ⟨i - j, by omega⟩
  induction d with
  | zero => exact h
  | succ d ih => exact lv_up (ih (by omega))
theorem lv_last {x : Nat} : ∀ n, lvT K T x (n + 1) = [] -> ∃ J, J <= n /\ lvT K T x (J + 1) = [] /\ ∀ j, j <= J -> lvT K T x j ≠ []
  | 0, h => ⟨0, Nat.le_refl _, h, fun j hj => by obtain rfl : j = 0 := by omega
                                                 simp [lvT]⟩
  | n + 1, h => by
    by_cases e : lvT K T x (n + 1) = []
    · obtain ⟨J, h1, h2, h3⟩ := lv_last n e
      exact ⟨J, by omega, h2, h3⟩
    · exact ⟨n + 1, Nat.le_refl _, h, fun j hj e' => e (lv_ups e' hj)⟩
theorem lv_mem {x J y : Nat} : y ∈ ((List.range (J + 1)).map (lvT K T x)).flatten <-> ∃ j, j <= J /\ y ∈ lvT K T x j := by
  rw [List.mem_flatten]
  constructor
  · rintro ⟨l, hl, hx⟩
    obtain ⟨j, hj, rfl⟩ := List.mem_map.1 hl
    exact ⟨j, by have := List.mem_range.1 hj; omega, hx⟩
  · rintro ⟨j, hj, hx⟩
    exact ⟨_, List.mem_map.2 ⟨j, List.mem_range.2 (by omega), rfl⟩, hx⟩
theorem lvok_rank (ht : TreeOk tn K D T) (m : RankT K T tn rk) {x J : Nat} (x1 : 1 <= x) (x2 : x <= tn) (x3 : K x ≠ 0) (hnil : lvT K T x (J + 1) = []) (hne : ∀ j, j <= J -> lvT K T x j ≠ []) : LvOk K T tn x ((List.range (J + 1)).map (lvT K T x)) := by
  have hget : ∀ j, ((List.range (J + 1)).map (lvT K T x))[j]? = if j <= J then some (lvT K T x j) else none := fun j => by
    by_cases e : j <= J
    · rw [if_pos e, List.getElem?_map, List.getElem?_range (by omega)]
      rfl
    · rw [if_neg e]
      exact List.getElem?_eq_none (by simp; omega)
  refine ⟨by rw [hget, if_pos (Nat.zero_le _)]; rfl, fun j l hl => ?_, ?_, fun y hy => ?_⟩
  · rw [hget] at hl
    by_cases e : j <= J
    · rw [if_pos e] at hl
      obtain rfl := Option.some.inj hl
      refine ⟨hne j e, ?_⟩
      show lvT K T x (j + 1) = _
      rw [hget]
      by_cases e' : j + 1 <= J
      · rw [if_pos e']; rfl
      · rw [if_neg e']
        obtain rfl : j = J := by omega
        exact hnil
    · rw [if_neg e] at hl; cases hl
  · rw [<- List.flatMap_def]
    refine List.pairwise_flatMap.2 ⟨fun j _ => lv_nodup ht m x1 x2 x3 j, List.Pairwise.imp (fun {a b} hab y hy z hz e => ?_) (List.nodup_range (n := J + 1))⟩
    have h1 := (lv_in ht m x1 x2 x3 a y hy).2.2.2
    have h2 := (lv_in ht m x1 x2 x3 b z hz).2.2.2
    rw [e] at h1
    exact hab (by omega)
  · obtain ⟨j, hj, hy⟩ := lv_mem.1 hy
    have := lv_in ht m x1 x2 x3 j y hy
    exact ⟨this.1, this.2.1⟩
theorem sound_rank (ht : TreeOk tn K D T) (htn : 1 <= tn) (m : RankT K T tn rk) : ∃ lv, Sound K T tn lv := by
  have k1 : K 1 ≠ 0 := by rw [ht.root]; decide
  have h7 : lvT K T 1 (6 + 1) = [] := List.eq_nil_iff_forall_not_mem.2 fun x hx => by
    obtain ⟨x1, x2, x3, x4⟩ := lv_in ht m (Nat.le_refl _) htn k1 7 x hx
    have := m.few x x1 x2 x3
    have := m.root
    omega
  obtain ⟨J, hJ, hnil, hne⟩ := lv_last 6 h7
  refine ⟨(List.range (J + 1)).map (lvT K T 1), lvok_rank ht m (Nat.le_refl _) htn k1 hnil hne, by simp; omega, fun x x1 x2 x3 => ?_⟩
  have hx := lv_all ht m (rk x) x x1 x2 x3 rfl
  refine lv_mem.2 ⟨rk x, ?_, hx⟩
  rcases Nat.lt_or_ge J (rk x) with h | h
  · rw [lv_ups hnil h] at hx
    simp at hx
  · exact h
end
theorem ent_list1 : ∀ (args : Array Value) (w : World), (callFunc 71 args).run Tryz.prog w = .ok (.enter 71 args) w := enters_of Tryz.func71 (by kernel_rfl) rfl
section
variable {fb rs hb : Nat} {E : TE} {w w' : World} {K : Nat -> Nat} {D : Nat -> List Int} {T : Nat -> List Rec} {f u lim : Nat}
end
section
variable {fb rs hb : Nat} {E : TE} {w w' : World} {K : Nat -> Nat} {D : Nat -> List Int} {T : Nat -> List Rec} {f u lim : Nat}
end
def sList : ByteArray := ⟨#[108, 105, 115, 116]⟩
section
variable {fb rs hb : Nat} {E : TE} {w w' : World} {K : Nat -> Nat} {D : Nat -> List Int} {T : Nat -> List Rec} {f u lim : Nat}
set_option maxHeartbeats 1000000 in
theorem fRename_err {path b : List UInt8} {m : Int} (k : Calls Tryz.prog 34 #[ptr fb, .string (mkB path), .string (mkB b)] w fun e w' => ∃ ev, e = .returned ev /\ Refused fb rs hb E K D T f lim m w ev w') :
    Calls Tryz.prog 19 #[ptr fb, .string (mkB path), .string (mkB b)] w fun e w' => ∃ ev, e = .returned ev /\ Told11 fb rs hb E K D T f lim sRename (mkB path) m w ev w' := by
  replace k := hidden k
  have kW := hidden (fun (u : TypeId) (v : Value) (wx : World) => wrap_some sRename (mkB path) u v wx)
  have hsp : sRename = ⟨#[114, 101, 110, 97, 109, 101]⟩ := rfl
  rw [hsp] at kW
  replace hsp := hidden hsp
  go_enter Tryz.func19, Tryz.ntmps19
  go_wp2_with fail
  refine (k.out).mono ?_
  rintro ev w1 ⟨er, rfl, ⟨ll, hc⟩, h2, h3⟩
  obtain ⟨ut, uv, rfl⟩ := Chain.held hc (Or.inr ⟨_, _, rfl⟩)
  have hE := hidden (Refused.wrapped (op := sRename) (nm := mkB path) hc h2 h3)
  rw [hsp.out] at hE
  clear hc h2 h3
  go_wp2_with fail
  refine (kW.out _ _ _).mono ?_
  rintro ev w2 ⟨rfl, hw2⟩
  subst w2
  go_wp2
  go_ret
  rw [hsp.out]
  exact ⟨_, rfl, hE.out⟩
end
theorem KeptT.keep {base : Nat} {w w' : World} {v : Value} {l : List (List UInt8)} {bs : List Nat} (h : KeptT base w v l) (ha : Apart bs w w') (hlt : ∀ k ∈ bs, k < base) : KeptT base w' v l := by
  refine ⟨h.row.1, ?_⟩
  rcases h.row.2 with h0 | ⟨g, cap, cur, hv, h1, hh, rest⟩
  · exact Or.inl h0
  · have hg : g < w.heap.size := by
      rcases Nat.lt_or_ge g w.heap.size with h | h
      · exact h
      · rw [Array.getElem?_eq_none h] at hh; cases hh
    exact Or.inr ⟨g, cap, cur, hv, h1, (ha.block g hg (fun hm => by have := hlt g hm; omega)).trans hh, rest⟩
section
variable {fb rs hb : Nat} {E : TE} {w w' : World} {K : Nat -> Nat} {D : Nat -> List Int} {T : Nat -> List Rec} {f u lim : Nat}
theorem boxesL2 (w : World) (fb : Nat) : ∃ w2, (w.alloc (Obj.cells #[ptr fb] 27)).alloc (Obj.cells #[.slice none 0 0] 47) = w2 /\ Below w.heap.size w w2 /\ w2.cell? ⟨w.heap.size, 0, none⟩ = some (ptr fb) /\ w2.cell? ⟨w.heap.size + 1, 0, none⟩ = some (.slice none 0 0) /\ w2.frozen? ⟨w.heap.size + 1, 0, none⟩ = false := by
  generalize e1 : w.alloc (Obj.cells #[ptr fb] 27) = W1
  have a1 : W1.cell? ⟨w.heap.size, 0, none⟩ = some (ptr fb) := by rw [<- e1]; simp
  have s1 : W1.heap.size = w.heap.size + 1 := by rw [<- e1]; simp
  have b1 : Below w.heap.size w W1 := by rw [<- e1]; exact (Below.refl _ _).alloc (Nat.le_refl _) _
  have hBx : Below W1.heap.size W1 (W1.alloc (Obj.cells #[.slice none 0 0] 47)) := (Below.refl _ _).alloc (Nat.le_refl _) _
  exact ⟨_, rfl, b1.trans (hBx.mono b1.size), (hBx.cell (p := ⟨w.heap.size, 0, none⟩) (lt_of_cell a1)).trans a1, by rw [<- s1]; simp, by rw [<- s1]; simp⟩
set_option maxHeartbeats 1000000 in
theorem list_via {path : List UInt8} {Q : Value -> Value -> World -> Prop}
    (kS : ∀ (wx : World) (c0 c1 : Nat), Below w.heap.size w wx -> w.heap.size <= c1 -> c1 < wx.heap.size -> wx.cell? ⟨c0, 0, none⟩ = some (ptr fb) -> wx.cell? ⟨c1, 0, none⟩ = some (.slice none 0 0) -> wx.frozen? ⟨c1, 0, none⟩ = false -> Calls Tryz.prog 70 #[ptr fb, .string (mkB path), .func (.func 71) #[] #[ptr c0, ptr c1]] wx fun e w' => ∃ ev v, e = .returned ev /\ w'.cell? ⟨c1, 0, none⟩ = some v /\ Q v ev w') :
    Calls Tryz.prog 35 #[ptr fb, .string (mkB path)] w fun e w' => ∃ v ev, e = .returned (.tuple #[v, ev]) /\ Q v ev w' := by
  have hmf : ∀ (fn : Fn) (first cap : Array Value) (w : World), (Instr.makeFunc fn first cap).run Tryz.prog w = .ok (.func fn first cap) w := fun _ _ _ _ => rfl
  obtain ⟨w2, hw2, hB2, g0, g1, f1⟩ := boxesL2 w fb
  have hl1 := lt_of_cell (a := ⟨w.heap.size + 1, 0, none⟩) g1
  have kA := hidden (kS w2 w.heap.size (w.heap.size + 1) hB2 (by omega) hl1 g0 g1 f1)
  replace hw2 := hidden hw2
  clear kS hB2 g1 f1
  go_enter Tryz.func35, Tryz.ntmps35
  go_upto_region 2 with fail
  rw [hw2.out]
  clear hw2
  go_wp2_with fail
  refine (kA.out).mono ?_
  rintro ev w3 ⟨er, v, rfl, hc, hQ⟩
  have hl3 := lt_of_cell (a := ⟨w.heap.size + 1, 0, none⟩) hc
  replace hQ := hidden hQ
  go_wp2
  go_ret2
  exact ⟨v, er, rfl, hQ.out⟩
set_option maxHeartbeats 2000000 in
theorem list1_ok {c0 c1 q : Nat} {old : Value} (g0 : w.cell? ⟨c0, 0, none⟩ = some (ptr fb)) (g1 : w.cell? ⟨c1, 0, none⟩ = some old) (f1 : w.frozen? ⟨c1, 0, none⟩ = false) (hF : FsAt fb E rs hb w) (h : S8 E K D f u lim w) (ok : E.Ok) (ht : TreeOk E.tn K D T) (h1 : 1 <= q) (h2 : q <= E.tn) (hk : K q = 2) :
    Calls Tryz.prog 71 #[fnV (q : Nat) 2, ptr c0, ptr c1] w fun e w' => e = .returned .nilIface /\ ∃ v w2, KeptT w.heap.size w2 v (namesT T q) /\ Below w.heap.size w w2 /\ w' = w2.setCell ⟨c1, 0, none⟩ v := by
  obtain ⟨w1, hw1, hB1, hN1⟩ : ∃ w1, w.alloc (Obj.cells #[.int .i64 (q : Nat), .int .i64 2] 89) = w1 /\ Below w.heap.size w w1 /\ FnAt w1 w.heap.size (q : Nat) 2 := ⟨_, rfl, (Below.refl _ _).alloc (Nat.le_refl _) _, fn_new _ _ _⟩
  obtain ⟨hD, hG⟩ := ht.recs q h1 h2 hk
  have hlen := h.len h1 h2
  have kO := hidden (fun (wx : World) (hx : Below w1.heap.size w1 wx) => of_ok ok (h.more (hB1.trans (hx.mono hB1.size))) h1 h2 hk)
  have kL := hidden (fun (wx : World) (db : Nat) (hx : Below w.heap.size w wx) (hd : DirAt E db q wx) => by
    have hdl := (h.more hx).dl hD hG hd
    have hL : (T q).length <= 200 := by rw [hD, recsL_len hG.each] at hlen; omega
    exact dList_calls hdl.b ⟨ok, h1, h2, hk⟩ (parse_recs hG) hL)
  have hF1 := hF.below hB1
  have c2 := hF1.c2
  have hlt := hF1.lt
  have l0 := lt_of_cell (a := ⟨c0, 0, none⟩) g0
  have e0 := (hB1.cell (p := ⟨c0, 0, none⟩) l0).trans g0
  have l1 := lt_of_cell (a := ⟨c0, 0, none⟩) e0
  have n0 := hN1.c0
  have ln := hN1.lt
  have kg := hidden (fun (wx : World) (hx : Below w.heap.size w wx) => (hx.cell (p := ⟨c1, 0, none⟩) (lt_of_cell (a := ⟨c1, 0, none⟩) g1)).trans g1)
  have kf := hidden (fun (wx : World) (hx : Below w.heap.size w wx) => ((Apart.of_below (bs := []) hx).frozen (p := ⟨c1, 0, none⟩) (lt_of_cell (a := ⟨c1, 0, none⟩) g1) (by simp)).trans f1)
  replace hB1 := hidden hB1
  replace hw1 := hidden hw1
  clear hF h ok hF1 hN1 hD hG ht g1 f1 g0
  generalize hX : ((q : Nat) : Int) = X at *
  go_enter Tryz.func71, Tryz.ntmps71
  go_upto_region 1 with fail
  rw [hw1.out]
  clear hw1
  go_region_with (go_at_call 72; refine (kO.out _ (below_drew1 w1)).mono ?_; rintro ev w4 ⟨db, rfl, hdb, d0, d1, hB4⟩)
  all_goals
    have hB14 : Below w.heap.size w w4 := hB1.out.trans (((below_drew1 w1).trans hB4).mono hB1.out.size)
    have kL4 := hidden (kL.out w4 db hB14 ⟨d0, by rw [hX]; exact d1⟩)
    replace hB14 := hidden hB14
    clear hB4 d0 d1
    go_wp2_with fail
    refine (kL4.out).mono ?_
    rintro ev w5 ⟨v, rfl, hV, hB5⟩
    have hb5 := hB14.out.trans (hB5.mono hB14.out.size)
    have k1 := kg.out _ hb5
    have k2 := kf.out _ hb5
    have hlc := lt_of_cell (a := ⟨c1, 0, none⟩) k1
    obtain ⟨va, vc, hve⟩ := hV.form
    have hE := hidden (And.intro (hV.mono (base' := w.heap.size) hB14.out.size) hb5)
    subst hve
    clear hB5 hB14 hV hb5
    generalize hLN : (sortS ((T q).map Rec.s)).length = LN at *
    go_wp2
    go_ret
    exact ⟨rfl, _, w5, hE.out.1, hE.out.2, rfl⟩
set_option maxHeartbeats 2000000 in
theorem list_ok (h : Fsz fb rs hb E K D T f lim w) {path : List UInt8} {l : List (List UInt8)} (hlen : path.length <= 2000) (hp : splitB path = some l) {q : Nat} (hq : walkT K T 1 l = .ok q) (hk : K q = 2) (hlim : lim <= 300000000) :
    Calls Tryz.prog 35 #[ptr fb, .string (mkB path)] w fun e w' => ∃ v ev, e = .returned (.tuple #[v, ev]) /\ ev = .nilIface /\ KeptT w.heap.size w' v (namesT T q) /\ Fsz fb rs hb E.rest K D T f (lim + 1000) w' /\ E.Turns fb w w' := by
  have hmp := may_all (split_may hp)
  have hpl := h.pl
  obtain ⟨q1, q2, -⟩ := walkT_in h.tree l 1 q (Nat.le_refl _) hpl.tn1 (by rw [h.tree.root]; decide) hq
  have hah := h.s.to.lts
  have hfar := h.far
  refine list_via (Q := fun v ev w' => ev = .nilIface /\ KeptT w.heap.size w' v (namesT T q) /\ Fsz fb rs hb E.rest K D T f (lim + 1000) w' /\ E.Turns fb w w') (fun wx c0 c1 hx hc1 hc2 g0 g1 f1 => ?_)
  refine (at_via (w := wx) (fb := fb) (Q := fun ev w' => ev = .nilIface /\ ∃ v, w'.cell? ⟨c1, 0, none⟩ = some v /\ KeptT w.heap.size w' v (namesT T q) /\ Fsz fb rs hb E.rest K D T f (lim + 1000) w' /\ E.Turns fb w w') hlen hp (fun wy b0 b1 b2 names hy hbx hT => ?_)).mono ?_
  rotate_left
  · rintro e w' ⟨ev, rfl, h1, v, h2, h3, h4, h5⟩
    exact ⟨ev, v, rfl, h2, h1, h3, h4, h5⟩
  have hxy : Below w.heap.size w wy := hx.trans (hy.mono hx.size)
  have hr := h.rest.below hxy
  have k0 := (hy.cell (p := ⟨c0, 0, none⟩) (lt_of_cell (a := ⟨c0, 0, none⟩) g0)).trans g0
  have k1 := (hy.cell (p := ⟨c1, 0, none⟩) hc2).trans g1
  have kf := ((Apart.of_below (bs := []) hy).frozen (p := ⟨c1, 0, none⟩) hc2 (by simp)).trans f1
  have hc1y : c1 < wy.heap.size := Nat.lt_of_lt_of_le hc2 hy.size
  have kD := fun (wz : World) (hz : Below wy.heap.size wy wz) => list1_ok (fb := fb) (E := E.rest) (K := K) (D := D) (c0 := c0) (c1 := c1) (q := q) ((hz.cell (p := ⟨c0, 0, none⟩) (lt_of_cell (a := ⟨c0, 0, none⟩) k0)).trans k0) ((hz.cell (p := ⟨c1, 0, none⟩) hc1y).trans k1) (((Apart.of_below (bs := []) hz).frozen (p := ⟨c1, 0, none⟩) hc1y (by simp)).trans kf) (hr.at_.below hz) (hr.s.to.more hz) hpl.rest_ok hr.tree q1 q2 hk
  have kA := at1_ok (E := E.rest) (K := K) (D := D) (T := T) (q := q) ent_list1 hbx hr.at_ hr.s.to hpl.rest_ok hr.tree hpl.tn1 hT (by omega) hmp.2 hq (Q := fun ev w' => ev = .nilIface /\ ∃ v w2, KeptT wy.heap.size w2 v (namesT T q) /\ Below wy.heap.size wy w2 /\ w' = w2.setCell ⟨c1, 0, none⟩ v) (fun wz hz => by
    have := kD wz hz
    rw [hk]
    refine this.mono ?_
    rintro e w' ⟨rfl, v, w2, r1, r2, r3⟩
    exact ⟨_, rfl, rfl, v, w2, r1.mono hz.size, hz.trans (r2.mono hz.size), r3⟩)
  refine (step_ok (E := E.rest) (P := fun w1 => ∃ v w2, KeptT wy.heap.size w2 v (namesT T q) /\ Below wy.heap.size wy w2 /\ w1 = w2.setCell ⟨c1, 0, none⟩ v) (K := K) (D := D) (f := f) (u := 0) (lim := lim) ent_at1 hr.at_ hfar hpl.rest_ok hpl.far hpl.live (by show 1 <= E.most /\ E.most <= 200; rw [hpl.most]; omega) hlim (kA.mono ?_)).mono ?_
  · rintro e w1 ⟨ev, rfl, rfl, v, w2, r1, r2, rfl⟩
    have hb : Below w.heap.size w (w2.setCell ⟨c1, 0, none⟩ v) := (hxy.trans (r2.mono hxy.size)).setCell (p := ⟨c1, 0, none⟩) hc1 v
    have hz := h.rest.below hb
    exact ⟨rfl, ⟨v, w2, r1, r2, rfl⟩, hz.at_, hz.s.to⟩
  · rintro e w3 ⟨rfl, w1, ⟨v, w2, r1, r2, rfl⟩, hF3, hS3, hA3⟩
    have hb : Below w.heap.size w (w2.setCell ⟨c1, 0, none⟩ v) := (hxy.trans (r2.mono hxy.size)).setCell (p := ⟨c1, 0, none⟩) hc1 v
    have hc2' : c1 < w2.heap.size := Nat.lt_of_lt_of_le hc1y r2.size
    have hcv : (w2.setCell ⟨c1, 0, none⟩ v).cell? ⟨c1, 0, none⟩ = some v := World.cell?_setCell_same' _ _ _ (by rw [(r2.cell (p := ⟨c1, 0, none⟩) hc1y).trans k1]; rfl)
    unfold TE.Ahead at hah
    have hno : ∀ k ∈ [E.d, E.g, E.mb], k < w.heap.size := fun k hk => by
      simp only [List.mem_cons, List.not_mem_nil, or_false] at hk
      omega
    have hA3' : Apart [E.d, E.g, E.mb] (w2.setCell ⟨c1, 0, none⟩ v) w3 := hA3
    refine ⟨_, rfl, rfl, v, (hA3'.cell (p := ⟨c1, 0, none⟩) (lt_of_cell (a := ⟨c1, 0, none⟩) hcv) (fun hm => by have := hno _ hm; simp only at this; omega)).trans hcv, ?_, ⟨hF3, hS3, hpl.at _ _ _ _ _, hfar, h.tree⟩, ?_⟩
    · have o1 := r1.keep ((Apart.refl [c1] w2).setCell (p := ⟨c1, 0, none⟩) (by simp) v) (fun k hk => by rw [List.mem_singleton.1 hk]; exact hc1y)
      exact (o1.keep hA3' (fun k hk => Nat.lt_of_lt_of_le (hno k hk) hxy.size)).mono hxy.size
    · exact (Apart.of_below hb).trans (hA3'.mono (fun x hx' _ => by
        simp only [List.mem_cons, List.not_mem_nil, or_false] at hx'
        rcases hx' with rfl | rfl | rfl <;> simp))
theorem fList_ok {path : List UInt8} {Q : Value -> World -> Prop} (k : Calls Tryz.prog 35 #[ptr fb, .string (mkB path)] w fun e w' => ∃ v ev, e = .returned (.tuple #[v, ev]) /\ ev = .nilIface /\ Q v w') :
    Calls Tryz.prog 20 #[ptr fb, .string (mkB path)] w fun e w' => ∃ v, e = .returned (.tuple #[v, .nilIface]) /\ Q v w' := by
  replace k := hidden k
  have kW := hidden (fun (wx : World) => wrap_nil sList (mkB path) wx)
  unfold sList at kW
  go_enter Tryz.func20, Tryz.ntmps20
  go_wp2_with fail
  refine (k.out).mono ?_
  rintro ev w1 ⟨v, er, rfl, rfl, hQ⟩
  replace hQ := hidden hQ
  go_wp2_with fail
  refine (kW.out _).mono ?_
  rintro ev w2 ⟨rfl, hw2⟩
  subst w2
  go_wp2
  go_ret2
  exact ⟨v, rfl, hQ.out⟩
end
section
variable {fb rs hb : Nat} {E : TE} {w w' : World} {K : Nat -> Nat} {D : Nat -> List Int} {T : Nat -> List Rec} {f u lim : Nat}
set_option maxHeartbeats 4000000 in
theorem carry_other (h : S8 E K D f u lim w) (ok : E.Ok) {p q db db2 : Nat} {L M : List Rec} (p1 : 1 <= p) (p2 : p <= E.tn) (hk : K p = 2) (hD : D p = recsL L) (hg : GoodL L) (hdir : DirAt E db p w) (q1 : 1 <= q) (q2 : q <= E.tn) (hkq : K q = 2) (hDq : D q = recsL M) (hgq : GoodL M) (hqp : q ≠ p) (hdir2 : DirAt E db2 q w) {i : Nat} {r : Rec} (hr : L[i]? = some r) (hid : r.id <= 200) (t : List UInt8) (ht : okB t = true) (hno : ∀ x ∈ M, x.s ≠ t) (hR : E.R p) (hW : E.W p) (hRq : E.R q) (hWq : E.W q) (hm : M.length < 120) (hfit : bkL (M.length + 1) <= bkL M.length + u) (k : Int) (va va2 : Option Addr) (vn vc vn2 vc2 : Nat) :
    Calls Tryz.prog 166 #[fnV (r.id : Nat) k, spV (.slice va vn vc) (mkB r.s) (ptr db), spV (.slice va2 vn2 vc2) (mkB t) (ptr db2)] w fun e w' => e = .returned .nilIface /\ (∃ f', f' + bkL (dropR L i).length + bkL (M.length + 1) = f + bkL L.length + bkL M.length /\ S8 E K (upd (upd D p (recsL (dropR L i))) q (recsL (M ++ [⟨t, r.id⟩]))) f' 0 lim w') /\ Apart [E.mb] w w' := by
  have hi : i < L.length := (List.getElem?_eq_some_iff.1 hr).1
  have hr1 : 1 <= r.id := (hg.each r (List.mem_of_getElem? hr)).lo
  obtain ⟨w1, hw1, hB1, hN1⟩ : ∃ w1, w.alloc (.cells #[.int .i64 (r.id : Nat), .int .i64 k] 89) = w1 /\ Below w.heap.size w w1 /\ FnAt w1 w.heap.size (r.id : Nat) k := ⟨_, rfl, (Below.refl _ _).alloc (Nat.le_refl _) _, fn_new _ _ _⟩
  obtain ⟨w2, hw2, hB2, hS2⟩ : ∃ w2, w1.alloc (.cells #[.slice va vn vc, .string (mkB r.s), ptr db] 181) = w2 /\ Below w1.heap.size w1 w2 /\ SpAt w2 w1.heap.size (.slice va vn vc) (mkB r.s) (ptr db) := ⟨_, rfl, (Below.refl _ _).alloc (Nat.le_refl _) _, sp_new _ _ _ _⟩
  obtain ⟨w3, hw3, hB3, hS3⟩ : ∃ w3, w2.alloc (.cells #[.slice va2 vn2 vc2, .string (mkB t), ptr db2] 181) = w3 /\ Below w2.heap.size w2 w3 /\ SpAt w3 w2.heap.size (.slice va2 vn2 vc2) (mkB t) (ptr db2) := ⟨_, rfl, (Below.refl _ _).alloc (Nat.le_refl _) _, sp_new _ _ _ _⟩
  have hmb : E.mb < w.heap.size := h.lts.2.2.2.2.1
  have hs1 := hB1.size
  have hs2 := hB2.size
  have hb3 : Below w.heap.size w w3 := (hB1.trans (hB2.mono hB1.size)).trans (hB3.mono (Nat.le_trans hB1.size hB2.size))
  have hS2' := hS2.below hB3
  have hN3 := (hN1.below hB2).below hB3
  have a1 := hS2'.c1
  have a2 := hS2'.c2
  have la := hS2'.lt
  have kD := hidden (dDropU (h.more hb3) ok p1 p2 hk hD hg (hdir.below hb3) hr hR hW)
  have hdm2 : db2 ∉ [E.mb] := by have := hdir2.ne h; simpa using this
  have kP := hidden (fun (wx : World) (hA : Apart [E.mb] w3 wx) (f' : Nat) (hx : S8 E K (upd D p (recsL (dropR L i))) f' u lim wx) => dPut_ok (hx.dl (by rw [upd_other _ _ hqp]; exact hDq) hgq ((hdir2.below hb3).keep hA hdm2)) (eok ok q1 q2 hkq _) ⟨hRq, hWq⟩ (Or.inr ⟨by
      show ((bkL M.length : Nat) : Int) <= blk ((recsL M).length : Int)
      rw [recsL_len hgq.each]
      exact Int.le_of_eq (bkL_eq _), by
      show blk ((32 * (M.length + 1) : Nat) : Int) <= ((bkL M.length : Nat) : Int) + ((u : Nat) : Int)
      rw [<- bkL_eq]
      omega⟩) t r.id ht hr1 hid hno hm)
  have hfin : Hid (∀ (f1 : Nat) (wx : World), f1 + bkL (dropR L i).length = f + bkL L.length -> DL (dx E q K (upd D p (recsL (dropR L i))) M.length f1 u lim) db2 (M ++ [⟨t, r.id⟩]) wx -> ∃ f', f' + bkL (dropR L i).length + bkL (M.length + 1) = f + bkL L.length + bkL M.length /\ S8 E K (upd (upd D p (recsL (dropR L i))) q (recsL (M ++ [⟨t, r.id⟩]))) f' 0 lim wx) := hidden (fun f1 wx hf hDL => by
    obtain ⟨f2, u2, s1, s2, -⟩ := hDL.s8
    rw [List.length_append, List.length_singleton] at s2
    exact ⟨f2, by omega, s1.low (Nat.zero_le _)⟩)
  have hkeep := hidden (And.intro hN3 hS3)
  have hb3' := hidden hb3
  have hnb : w.heap.size ∉ [E.mb] := by simp; omega
  have hnb2 : w2.heap.size ∉ [E.mb] := by simp; omega
  clear h ok hdir hdir2 hg hno hR hW hB1 hB2 hB3 hN1 hS2 hS3 hS2' hb3 hD hN3 hfit hRq hWq hgq hDq
  generalize hb6 : w1.heap.size = b6 at *
  generalize hb7 : w2.heap.size = b7 at *
  generalize hRI : ((r.id : Nat) : Int) = RI at *
  go_enter Tryz.func166, Tryz.ntmps166
  go_wp2_with fail
  refine (kD.out).mono ?_
  rintro ev w4 ⟨rfl, ⟨f1, hS4, hf4⟩, hA4⟩
  have hN4 := hkeep.out.1.keep hA4 hnb
  have hT4 := hkeep.out.2.keep hA4 hnb2
  have n0 := hN4.c0
  have l4 := hN4.lt
  have c1 := hT4.c1
  have c2 := hT4.c2
  have l5 := hT4.lt
  have kP4 := hidden (kP.out w4 hA4 f1 hS4)
  replace hA4 := hidden ((Apart.of_below (bs := [E.mb]) hb3'.out).trans hA4)
  replace hf4 := hidden hf4
  clear hN4 hT4 hS4 kD kP hw1 hw2 hw3 a1 a2 la
  go_wp2_with fail
  refine (kP4.out).mono ?_
  rintro ev w5 ⟨rfl, hDL, hA5⟩
  have hE := hidden (And.intro (hfin.out f1 w5 hf4.out hDL) (show Apart [E.mb] w w5 from hA4.out.trans hA5))
  clear hDL hA5 kP4
  go_wp2
  go_ret
  exact ⟨rfl, hE.out⟩
set_option maxHeartbeats 4000000 in
theorem enter_other (hF : FsAt fb E rs hb w) (h : S8 E K D f u lim w) (ok : E.Ok) (hkk : E.kk = E.k) {p q db db2 : Nat} {L M : List Rec} (p1 : 1 <= p) (p2 : p <= E.tn) (hk : K p = 2) (hD : D p = recsL L) (hg : GoodL L) (hdir : DirAt E db p w) (q1 : 1 <= q) (q2 : q <= E.tn) (hkq : K q = 2) (hDq : D q = recsL M) (hgq : GoodL M) (hqp : q ≠ p) (hdir2 : DirAt E db2 q w) {v v2 : Value} {l l2 : List (List UInt8)} (hv : TxtsAt w v l) (hv2 : TxtsAt w v2 l2) (hl : l.length <= 6) (hl2 : l2.length <= 6) (hll : l ≠ l2) {i : Nat} {r : Rec} (hr : L[i]? = some r) (hid : r.id <= 200) (t : List UInt8) (ht : okB t = true) (hno : ∀ x ∈ M, x.s ≠ t) (hR : E.R p) (hW : E.W p) (hRq : E.R q) (hWq : E.W q) (hm : M.length < 120) (hfit : bkL (M.length + 1) <= bkL M.length + u) {gn : Nat} (hgn : growb ((32 * M.length : Nat) : Int) ((32 * (M.length + 1) : Nat) : Int) = (gn : Int)) (hmay : mayB (f : Int) (rs : Int) (gn : Int) false = true) (k : Int) :
    Calls Tryz.prog 120 #[ptr fb, fnV (r.id : Nat) k, spV v (mkB r.s) (ptr db), spV v2 (mkB t) (ptr db2)] w fun e w' => e = .returned .nilIface /\ (∃ f', f' + bkL (dropR L i).length + bkL (M.length + 1) = f + bkL L.length + bkL M.length /\ S8 E K (upd (upd D p (recsL (dropR L i))) q (recsL (M ++ [⟨t, r.id⟩]))) f' 0 lim w') /\ Apart [E.mb] w w' := by
  have hvh := hidden hv
  have hv2h := hidden hv2
  obtain ⟨va, vc, rfl, -⟩ := hv
  obtain ⟨v2a, v2c, rfl, -⟩ := hv2
  have hfk : f <= 2100 := by
    obtain ⟨mem, wr, M, N, q1, q2, q3, q4, q5, q6, q7, q8⟩ := h
    have := freeN_le (bitM mem M E.ma) E.k
    have := ok.k
    omega
  obtain ⟨w1, hw1, hB1, hN1⟩ : ∃ w1, w.alloc (.cells #[.int .i64 (r.id : Nat), .int .i64 k] 89) = w1 /\ Below w.heap.size w w1 /\ FnAt w1 w.heap.size (r.id : Nat) k := ⟨_, rfl, (Below.refl _ _).alloc (Nat.le_refl _) _, fn_new _ _ _⟩
  obtain ⟨w2, hw2, hB2, hS2⟩ : ∃ w2, w1.alloc (.cells #[.slice va l.length vc, .string (mkB r.s), ptr db] 181) = w2 /\ Below w1.heap.size w1 w2 /\ SpAt w2 w1.heap.size (.slice va l.length vc) (mkB r.s) (ptr db) := ⟨_, rfl, (Below.refl _ _).alloc (Nat.le_refl _) _, sp_new _ _ _ _⟩
  obtain ⟨w3, hw3, hB3, hS3⟩ : ∃ w3, w2.alloc (.cells #[.slice v2a l2.length v2c, .string (mkB t), ptr db2] 181) = w3 /\ Below w2.heap.size w2 w3 /\ SpAt w3 w2.heap.size (.slice v2a l2.length v2c) (mkB t) (ptr db2) := ⟨_, rfl, (Below.refl _ _).alloc (Nat.le_refl _) _, sp_new _ _ _ _⟩
  have hb3 : Below w.heap.size w w3 := (hB1.trans (hB2.mono hB1.size)).trans (hB3.mono (Nat.le_trans hB1.size hB2.size))
  have hN3 := (hN1.below hB2).below hB3
  have hS2' := hS2.below hB3
  have a0 := hS2'.c0
  have b0 := hS3.c0
  have la := hS2'.lt
  have lb := hS3.lt
  have kE := hidden (equalT_calls _ _ _ _ w3 (hvh.out.below hb3) (hv2h.out.below hb3) (by omega) (by omega))
  rw [show decide (l = l2) = false by simp [hll]] at kE
  have kWi := hidden (fun (wx : World) (hx : Below w.heap.size w wx) => widen_calls ((h.more hx).dl hDq hgq (hdir2.below hx)) (eok ok q1 q2 hkq _) hm)
  rw [hgn] at kWi
  have kMy := hidden (fun (wx : World) (hx : Below w.heap.size w wx) => fmay_calls (hF.below hx) (h.more hx) ok hkk (gn : Int) false (yes := true) (fun wy => by have := may_calls (f : Int) (rs : Int) (gn : Int) false (by omega) wy; rw [hmay] at this; exact this))
  have kCa := hidden (fun (wx : World) (hx : Below w.heap.size w wx) => carry_other (h.more hx) ok p1 p2 hk hD hg (hdir.below hx) q1 q2 hkq hDq hgq hqp (hdir2.below hx) hr hid t ht hno hR hW hRq hWq hm hfit k va v2a l.length vc l2.length v2c)
  have hbox := hidden (And.intro hN3 (And.intro hS2' hS3))
  have hb3' := hidden hb3
  clear hF h ok hdir hdir2 hg hgq hno hR hW hRq hWq hB1 hB2 hB3 hN1 hS2 hS3 hS2' hN3 hb3 hvh hv2h hD hDq hfit hgn hmay
  generalize hb6 : w1.heap.size = b6 at *
  generalize hb7 : w2.heap.size = b7 at *
  generalize hb5x : w.heap.size = b5 at *
  generalize l.length = LL at *
  generalize l2.length = L2 at *
  generalize hRI : ((r.id : Nat) : Int) = RI at *
  generalize hGN : ((gn : Nat) : Int) = GN at *
  have hw1' := hidden hw1
  have hw2' := hidden hw2
  have hw3' := hidden hw3
  go_enter Tryz.func120, Tryz.ntmps120
  go_wp2_with fail
  refine (kE.out).mono ?_
  rintro ev w4 ⟨rfl, hB4⟩
  have hb4 := hb3'.out.trans (hB4.mono (by have := hb3'.out.size; omega))
  have hS5 := hbox.out.2.2.below hB4
  have d2 := hS5.c2
  have l5 := hS5.lt
  have kW4 := hidden (kWi.out w4 hb4)
  replace hb4 := hidden hb4
  replace hB4 := hidden hB4
  clear hS5 kE kWi hw1 hw2 hw3 a0 b0 la lb
  go_wp2_with fail
  refine (kW4.out).mono ?_
  rintro ev w5 ⟨rfl, hB5⟩
  have hb5 := hidden (hb4.out.trans (hB5.mono (by rw [<- hb5x]; exact hb4.out.size)))
  have hB5' := hidden (hB4.out.trans (hB5.mono hB4.out.size))
  have kM5 := hidden (kMy.out w5 hb5.out)
  clear hB5 kW4 kMy d2 l5
  go_wp2_with fail
  refine (kM5.out).mono ?_
  rintro ev w6 ⟨rfl, hB6⟩
  have hb6 := hidden (hb5.out.trans (hB6.mono (by rw [<- hb5x]; exact hb5.out.size)))
  have hB6' := hB5'.out.trans (hB6.mono hB5'.out.size)
  have hn6 := hbox.out.1.below hB6'
  have hs6 := hbox.out.2.1.below hB6'
  have ht6 := hbox.out.2.2.below hB6'
  have n0 := hn6.c0
  have n1 := hn6.c1
  have ln := hn6.lt
  have s0 := hs6.c0
  have s1 := hs6.c1
  have s2 := hs6.c2
  have ls := hs6.lt
  have t0 := ht6.c0
  have t1 := ht6.c1
  have t2 := ht6.c2
  have lt := ht6.lt
  have kC6 := hidden (kCa.out w6 hb6.out)
  clear hB6 hB6' hn6 hs6 ht6 kM5 kCa
  dsimp only [if_true]
  go_wp2_with fail
  refine (kC6.out).mono ?_
  rintro ev w7 ⟨rfl, hX, hA7⟩
  have hE := hidden (And.intro hX (show Apart [E.mb] w w7 from (Apart.of_below (by rw [hb5x]; exact hb6.out)).trans hA7))
  clear hX hA7 kC6
  go_wp2
  go_ret
  exact ⟨rfl, hE.out⟩
end
set_option maxRecDepth 1000000
section
variable {fb rs hb : Nat} {E : TE} {w w' : World} {K : Nat -> Nat} {D : Nat -> List Int} {T : Nat -> List Rec} {f u lim : Nat}
structure EnterT (K : Nat -> Nat) (T : Nat -> List Rec) (tn : Nat) (a b : List UInt8) (l l2 : List (List UInt8)) (s t : List UInt8) (p q i : Nat) (r : Rec) (lv : List (List Nat)) : Prop where
  la : a.length <= 2000
  lb : b.length <= 2000
  pa : splitB a = some (l ++ [s])
  pb : splitB b = some (l2 ++ [t])
  ne : a ≠ b
  out : withinB b a = false
  dir : dirT K T l = .ok p
  dir2 : dirT K T l2 = .ok q
  at_ : (T p)[i]? = some r
  name : r.s = s
  no : lookT (T q) t = none
  lvok : LvOk K T tn r.id lv
  fit : l2.length + 1 + lv.length <= 7
  few : (T q).length < 120
  oth : q ≠ p
  lne : l ≠ l2
set_option maxHeartbeats 4000000 in
theorem move_enter (hF : FsAt fb E rs hb w) (h : S8 E K D f u lim w) (ok : E.Ok) (ht : TreeOk E.tn K D T) (htn : 1 <= E.tn) (hkk : E.kk = E.k) {a b s t : List UInt8} {l l2 : List (List UInt8)} {p q i : Nat} {r : Rec} {lv : List (List Nat)} (m : EnterT K T E.tn a b l l2 s t p q i r lv) (hR : E.R p) (hW : E.W p) (hRq : E.R q) (hWq : E.W q) (hfit : bkL ((T q).length + 1) <= bkL (T q).length + u) {gn : Nat} (hgn : growb ((32 * (T q).length : Nat) : Int) ((32 * ((T q).length + 1) : Nat) : Int) = (gn : Int)) (hmay : mayB (f : Int) (rs : Int) (gn : Int) false = true) :
    Calls Tryz.prog 69 #[ptr fb, .string (mkB a), .string (mkB b)] w fun e w' => e = .returned (.tuple #[fnV 0 0, .nilIface]) /\ (∃ f', f' + bkL (dropR (T p) i).length + bkL ((T q).length + 1) = f + bkL (T p).length + bkL (T q).length /\ S8 E K (upd (upd D p (recsL (dropR (T p) i))) q (recsL (T q ++ [⟨t, r.id⟩]))) f' 0 lim w') /\ Apart [E.mb] w w' := by
  have hmp := may_all (split_may m.pb)
  have hl6 : l.length <= 6 := by have := (may_all (split_may m.pa)).1; rw [List.length_append] at this; omega
  have hl26 : l2.length <= 6 := by have := hmp.1; rw [List.length_append] at this; omega
  have htok : okB t = true := hmp.2 t (by simp)
  have hsok : okB s = true := (may_all (split_may m.pa)).2 s (by simp)
  obtain ⟨p1, p2, hkp⟩ := dirT_in ht htn m.dir
  obtain ⟨q1, q2, hkq⟩ := dirT_in ht htn m.dir2
  obtain ⟨hDq, hGq⟩ := ht.recs q q1 q2 hkq
  obtain ⟨hD, hG⟩ := ht.recs p p1 p2 hkp
  have hrm := List.mem_of_getElem? m.at_
  obtain ⟨hrt, hrk⟩ := ht.used p p1 p2 hkp r hrm
  have hr1 : 1 <= r.id := (hG.each r hrm).lo
  obtain ⟨w1, hw1, hB1, hN1⟩ : ∃ w1, w.alloc (Obj.cells #[.int .i64 0, .int .i64 0] 89) = w1 /\ Below w.heap.size w w1 /\ FnAt w1 w.heap.size 0 0 := ⟨_, rfl, (Below.refl _ _).alloc (Nat.le_refl _) _, fn_new _ _ _⟩
  have kSp := hidden (fun (wx : World) (hx : Below w.heap.size w wx) => And.intro (fspot_calls (hF.below hx) (h.more hx) ok ht htn m.la m.pa) (fspot_calls (hF.below hx) (h.more hx) ok ht htn m.lb m.pb))
  have kC := hidden (fun (wx : World) (hx : Below w.heap.size w wx) (db : Nat) (hd : DirAt E db p wx) => child_at (hF.below hx) (h.more hx) ok p1 p2 hkp hD hG hd m.at_ hrt hrk)
  have kCq := hidden (fun (wx : World) (hx : Below w.heap.size w wx) (db : Nat) (hd : DirAt E db q wx) => child_none (fb := fb) (h.more hx) ok q1 q2 hkq hDq hGq hd t htok (lookT_none m.no))
  rw [m.name] at kC
  have kW := hidden (fun (wx : World) => within_calls b a wx m.lb m.la)
  rw [m.out] at kW
  have kFi := hidden (fun (wx : World) (hx : Below w.heap.size w wx) => fits_ok (hF.below hx) (h.more hx) ok ht hr1 hrt m.lvok m.lb m.pb (by rw [List.length_append]; have := m.fit; simp; omega))
  have hr200 : r.id <= 200 := by have := ok.tn; omega
  have kE := hidden (fun (wx : World) (hx : Below w.heap.size w wx) (db db2 : Nat) (hd : DirAt E db p wx) (hd2 : DirAt E db2 q wx) (v v2 : Value) (hv : TxtsAt wx v l) (hv2 : TxtsAt wx v2 l2) (k : Int) => enter_other (hF.below hx) (h.more hx) ok hkk p1 p2 hkp hD hG hd q1 q2 hkq hDq hGq m.oth hd2 hv hv2 hl6 hl26 m.lne m.at_ hr200 t htok (lookT_none m.no) hR hW hRq hWq m.few hfit hgn hmay k)
  rw [m.name] at kE
  have hdir := hidden m.dir
  have hdir2 := hidden m.dir2
  have hne : ((mkB a).toList == (mkB b).toList) = false := by rw [mk_beq]; exact decide_eq_false m.ne
  have hBN := hidden (And.intro hB1 hN1)
  have hmbl : E.mb < w.heap.size := h.lts.2.2.2.2.1
  clear hF h ok ht hG hD hGq hDq hB1 hN1 hR hW hRq hWq hfit hgn hmay m hmp hrm hrk
  go_enter Tryz.func69, Tryz.ntmps69
  go_wp2_with fail
  refine ((kSp.out w1 hBN.out.1).1).mono ?_
  rintro ev w2 ⟨(⟨pp, v2, db, hq, rfl, hT2, hD2, hdb, -, -, -⟩ | ⟨z, bk, nm, hq, -⟩), hB2⟩
  rotate_left
  · rw [hdir.out] at hq; cases hq
  obtain rfl : pp = p := by rw [hdir.out] at hq; exact (Except.ok.inj hq).symm
  have hT2h := hidden hT2
  obtain ⟨va, vc, rfl, -⟩ := hT2
  obtain ⟨w3, hw3, hB3, hS3⟩ : ∃ w3, w2.alloc (.cells #[.slice va l.length vc, .string (mkB s), ptr db] 181) = w3 /\ Below w2.heap.size w2 w3 /\ SpAt w3 w2.heap.size (.slice va l.length vc) (mkB s) (ptr db) := ⟨_, rfl, (Below.refl _ _).alloc (Nat.le_refl _) _, sp_new _ _ _ _⟩
  have hb2 : Below w.heap.size w w2 := hBN.out.1.trans (hB2.mono hBN.out.1.size)
  have hb3 : Below w.heap.size w w3 := hb2.trans (hB3.mono hb2.size)
  have s1 := hS3.c1
  have s2 := hS3.c2
  have l3 := hS3.lt
  have kC3 := hidden (kC.out w3 hb3 db (hD2.below hB3))
  have hN3 := hidden ((hBN.out.2.below hB2).below hB3)
  have hK3 := hidden (And.intro (hT2h.out.below hB3) (And.intro (hD2.below hB3) hS3))
  replace hb3 := hidden hb3
  replace hw3 := hidden hw3
  clear hT2h hD2 hS3 hB2 hB3 hb2 hBN hq
  generalize hLL : l.length = LL at *
  generalize hf8 : w2.heap.size = b8 at *
  go_upto_region 2 with fail
  rw [hw3.out]
  clear hw3
  go_wp2_with fail
  refine (kC3.out).mono ?_
  rintro ev w4 ⟨rfl, hB4⟩
  obtain ⟨w5, hw5, hB5, hN5⟩ : ∃ w5, w4.alloc (.cells #[.int .i64 (r.id : Nat), .int .i64 (K r.id : Nat)] 89) = w5 /\ Below w4.heap.size w4 w5 /\ FnAt w5 w4.heap.size (r.id : Nat) (K r.id : Nat) := ⟨_, rfl, (Below.refl _ _).alloc (Nat.le_refl _) _, fn_new _ _ _⟩
  have hb35 : Below w3.heap.size w3 w5 := hB4.trans (hB5.mono hB4.size)
  have hb5 : Below w.heap.size w w5 := hb3.out.trans (hb35.mono hb3.out.size)
  have x0 := hN5.c0
  have x1 := hN5.c1
  have l5 := hN5.lt
  have hK5 := hidden (And.intro (hK3.out.1.below hb35) (And.intro (hK3.out.2.1.below hb35) (And.intro (hK3.out.2.2.below hb35) (And.intro hN5 (hN3.out.below hb35)))))
  replace hb5 := hidden hb5
  replace hw5 := hidden hw5
  clear hB4 hB5 hN5 hb35 kC3 hK3 hN3 hb3 s1 s2 l3
  generalize hKR : ((K r.id : Nat) : Int) = KR at *
  generalize hRI : ((r.id : Nat) : Int) = RI at *
  generalize hf9 : w4.heap.size = b9 at *
  go_upto_region 5 with fail
  rw [hw5.out]
  clear hw5
  go_wp2_with fail
  refine (kW.out _).mono ?_
  rintro ev w6 ⟨rfl, hB6⟩
  have hK6 := hK5.out.2.2.2.1.below hB6
  have y0 := hK6.c0
  have y1 := hK6.c1
  have l6 := hK6.lt
  have hb6 : Below w.heap.size w w6 := hb5.out.trans (hB6.mono hb5.out.size)
  have kF6 := hidden (kFi.out w6 hb6)
  replace hb6 := hidden hb6
  replace hB6 := hidden hB6
  clear hK6 kW x0 x1 l5
  go_wp2_with fail
  refine (kF6.out).mono ?_
  rintro ev w7 ⟨rfl, hB7⟩
  have hb7 : Below w.heap.size w w7 := hb6.out.trans (hB7.mono hb6.out.size)
  have kS7 := hidden (kSp.out w7 hb7).2
  have hb57 := hidden (hB6.out.trans (hB7.mono hB6.out.size))
  replace hb7 := hidden hb7
  clear hB7 kF6 kFi kSp y0 y1 l6 hb6 hB6
  go_wp2_with fail
  refine (kS7.out).mono ?_
  rintro ev w8 ⟨(⟨qq, v8, db2, hq2, rfl, hT8, hD8, hdb8, -, -, -⟩ | ⟨z, bk, nm, hq2, -⟩), hB8⟩
  rotate_left
  · rw [hdir2.out] at hq2; cases hq2
  obtain rfl : qq = q := by rw [hdir2.out] at hq2; exact (Except.ok.inj hq2).symm
  have hT8h := hidden hT8
  obtain ⟨va8, vc8, rfl, -⟩ := hT8
  generalize hL2 : l2.length = L2 at *
  obtain ⟨w9, hw9, hB9, hS9⟩ : ∃ w9, w8.alloc (.cells #[.slice va8 L2 vc8, .string (mkB t), ptr db2] 181) = w9 /\ Below w8.heap.size w8 w9 /\ SpAt w9 w8.heap.size (.slice va8 L2 vc8) (mkB t) (ptr db2) := ⟨_, rfl, (Below.refl _ _).alloc (Nat.le_refl _) _, sp_new _ _ _ _⟩
  have hb79 : Below w7.heap.size w7 w9 := hB8.trans (hB9.mono hB8.size)
  have hb59 : Below w5.heap.size w5 w9 := hb57.out.trans (hb79.mono hb57.out.size)
  have hb9 : Below w.heap.size w w9 := hb7.out.trans (hb79.mono hb7.out.size)
  have s1 := hS9.c1
  have s2 := hS9.c2
  have l9 := hS9.lt
  have kC9 := hidden (kCq.out w9 hb9 db2 (hD8.below hB9))
  have hK9 := hidden (And.intro (hK5.out.1.below hb59) (And.intro (hK5.out.2.1.below hb59) (And.intro (hK5.out.2.2.1.below hb59) (And.intro (hK5.out.2.2.2.1.below hb59) (And.intro (hK5.out.2.2.2.2.below hb59) (And.intro (hT8h.out.below hB9) (And.intro hS9 (hD8.below hB9))))))))
  replace hb9 := hidden hb9
  replace hw9 := hidden hw9
  clear hT8h hD8 hS9 hB8 hB9 hb79 hb59 hb57 hK5 hb5 hb7 kS7 hq2 kC kCq hdb8
  generalize hf11 : w8.heap.size = b11 at *
  go_upto_region 15 with fail
  rw [hw9.out]
  clear hw9
  go_wp2_with fail
  refine (kC9.out).mono ?_
  rintro ev wA ⟨bk, rfl, hcA, hBA⟩
  obtain ⟨kT1, kD1, kS1, kX1, kN1, kT2, kS2, kDq⟩ := hK9.out
  have hNA := kN1.below hBA
  have hSA1 := kS1.below hBA
  have hSA2 := kS2.below hBA
  have hXA := kX1.below hBA
  have r0 := hNA.c0
  have r1 := hNA.c1
  have g0 := hNA.f0
  have g1 := hNA.f1
  have lA := hNA.lt
  have e0 := setCell_self r0
  have e1 := setCell_self r1
  have x0 := hXA.c0
  have x1 := hXA.c1
  have u0 := hSA1.c0
  have u1 := hSA1.c1
  have u2 := hSA1.c2
  have v0 := hSA2.c0
  have v1 := hSA2.c1
  have v2' := hSA2.c2
  have lX := hXA.lt
  have lS1 := hSA1.lt
  have lS2 := hSA2.lt
  have hbA : Below w.heap.size w wA := hb9.out.trans (hBA.mono hb9.out.size)
  have kIs := is_chain 11 11 wA _ _ hcA
  rw [show ((11 : Int) == 11) = true from rfl] at kIs
  replace kIs := hidden kIs
  have kEA := hidden (kE.out wA hbA db db2 (kD1.below hBA) (kDq.below hBA) _ _ (kT1.below hBA) (kT2.below hBA) KR)
  have hNA' := hidden hNA
  replace hbA := hidden hbA
  clear kT1 kD1 kS1 kX1 kN1 kT2 kS2 kDq hNA hSA1 hSA2 hXA hcA hBA kC9 kE hK9 hb9 s1 s2 l9
  go_wp2_with fail
  refine (kIs.out).mono ?_
  rintro ev wB ⟨rfl, hwB⟩
  subst wB
  go_wp2_with fail
  refine (kEA.out).mono ?_
  rintro ev wC ⟨rfl, hSC, hAC⟩
  have hmb : w.heap.size ∉ [E.mb] := by simp; omega
  have hNC := hNA'.out.keep hAC hmb
  have c0 := hNC.c0
  have c1 := hNC.c1
  have f0 := hNC.f0
  have f1 := hNC.f1
  have lC := hNC.lt
  have e2 := setCell_self c0
  have e3 := setCell_self c1
  have hE := hidden (And.intro hNC (And.intro hSC ((Apart.of_below hbA.out).trans hAC)))
  clear hSC hAC hNC kEA kIs hNA' e0 e1
  go_wp2
  (try simp only [Exit.inBlock, Exit.then])
  obtain ⟨q1, q2, q3⟩ := hE.out
  exact bodyPost_ret (ret_fnode rfl rfl q1) rfl ⟨rfl, q2, q3⟩
end
set_option maxRecDepth 100000
section
variable {fb rs hb : Nat} {E : TE} {w w' : World} {K : Nat -> Nat} {D : Nat -> List Int} {T : Nat -> List Rec} {f u lim : Nat}
theorem TreeOk.enter {tn p q i : Nat} {r : Rec} {t : List UInt8} (ht : TreeOk tn K D T) (p1 : 1 <= p) (p2 : p <= tn) (hk : K p = 2) (q1 : 1 <= q) (q2 : q <= tn) (hkq : K q = 2) (hqp : q ≠ p) (hr : (T p)[i]? = some r) (hok : okB t = true) (hno : lookT (T q) t = none) :
    TreeOk tn K (upd (upd D p (recsL (dropR (T p) i))) q (recsL (T q ++ [⟨t, r.id⟩]))) (upd (upd T p (dropR (T p) i)) q (T q ++ [⟨t, r.id⟩])) := by
  obtain ⟨hD, hG⟩ := ht.recs p p1 p2 hk
  obtain ⟨hDq, hGq⟩ := ht.recs q q1 q2 hkq
  have hi := (List.getElem?_eq_some_iff.1 hr).1
  have hrm := List.mem_of_getElem? hr
  have hrg := hG.each r hrm
  refine ⟨ht.root, fun x x1 x2 hx => ?_, fun x x1 x2 hx y hy => ?_⟩
  · by_cases hxq : x = q
    · subst hxq
      rw [upd_same, upd_same]
      exact ⟨rfl, hGq.put (r := ⟨t, r.id⟩) ⟨hok, hrg.lo, hrg.hi⟩ (lookT_none hno)⟩
    · rw [upd_other _ _ hxq, upd_other _ _ hxq]
      by_cases hxp : x = p
      · subst hxp
        rw [upd_same, upd_same]
        exact ⟨rfl, hG.drop hi⟩
      · rw [upd_other _ _ hxp, upd_other _ _ hxp]
        exact ht.recs x x1 x2 hx
  · by_cases hxq : x = q
    · subst hxq
      rw [upd_same] at hy
      rcases List.mem_append.1 hy with h | h
      · exact ht.used x x1 x2 hx y h
      · rw [List.mem_singleton.1 h]
        exact ht.used p p1 p2 hk r hrm
    · rw [upd_other _ _ hxq] at hy
      by_cases hxp : x = p
      · subst hxp
        rw [upd_same] at hy
        exact ht.used x x1 x2 hx y (dropR_mem hi y hy)
      · rw [upd_other _ _ hxp] at hy
        exact ht.used x x1 x2 hx y hy
set_option maxHeartbeats 4000000 in
theorem rename_enter (h : Fsz fb rs hb E K D T f lim w) (hno : HNo fb hb E w) {a b s t : List UInt8} {l l2 : List (List UInt8)} {p q i : Nat} {r : Rec} {lv : List (List Nat)} (m : EnterT K T E.tn a b l l2 s t p q i r lv) (hmay : mayB (f : Int) (rs : Int) ((bkL ((T q).length + 1) - bkL (T q).length : Nat) : Int) false = true) (hlim : lim <= 300000000) :
    Calls Tryz.prog 34 #[ptr fb, .string (mkB a), .string (mkB b)] w fun e w' => e = .returned .nilIface /\ (∃ f', f' + bkL (dropR (T p) i).length + bkL ((T q).length + 1) = f + bkL (T p).length + bkL (T q).length /\ Fsz fb rs hb E.rest K (upd (upd D p (recsL (dropR (T p) i))) q (recsL (T q ++ [⟨t, r.id⟩]))) (upd (upd T p (dropR (T p) i)) q (T q ++ [⟨t, r.id⟩])) f' (lim + 1000) w') /\ E.Turns fb w w' := by
  have hpl := h.pl
  have htn1 := hpl.tn1
  obtain ⟨p1, p2, hk⟩ := dirT_in h.tree htn1 m.dir
  obtain ⟨hDp, hGp⟩ := h.tree.recs p p1 p2 hk
  obtain ⟨q1, q2, hkq⟩ := dirT_in h.tree htn1 m.dir2
  obtain ⟨hDq, hGq⟩ := h.tree.recs q q1 q2 hkq
  have hi : i < (T p).length := (List.getElem?_eq_some_iff.1 m.at_).1
  have htok : okB t = true := (may_all (split_may m.pb)).2 t (by simp)
  have hsum : sumL D [p, q] = bkL (T p).length + bkL (T q).length := by
    show (blk ((D p).length : Int)).toNat + ((blk ((D q).length : Int)).toNat + 0) = _
    rw [hDp, recsL_len hGp.each, hDq, recsL_len hGq.each]
    rfl
  have hlen : (T p).length <= 125 := by
    have := h.s.to.len p1 p2
    rw [hDp, recsL_len hGp.each] at this
    omega
  have hfew := m.few
  have hbp := bkL_eq (T p).length
  have hbr := blk_range ((32 * (T p).length : Nat) : Int)
  have hbq := bkL_one (T q).length (by omega)
  have hgq := grow_bk (T q).length (by omega)
  have hdl : (dropR (T p) i).length = (T p).length - 1 := dropR_len hi
  have hbd := bkL_one ((T p).length - 1) (by omega)
  rw [show (T p).length - 1 + 1 = (T p).length by omega] at hbd
  obtain ⟨gn, hgn⟩ : ∃ gn, bkL ((T q).length + 1) - bkL (T q).length = gn := ⟨_, rfl⟩
  rw [hgn] at hmay hgq
  have hgf : gn <= f := by
    unfold mayB at hmay
    simp only [Bool.or_eq_true, Bool.and_eq_true, decide_eq_true_eq] at hmay
    omega
  obtain ⟨A, U, ku, ok', -, hS'⟩ := h.s.re hpl [p, q] [p, q] (fun x hx => by simp at hx; rcases hx with rfl | rfl <;> omega) (fun x hx => by simp at hx; rcases hx with rfl | rfl <;> omega) gn hgf (by rw [hsum]; show 2 + 2 + _ + _ <= 87; omega)
  have hfar := h.far
  have hah := h.s.to.lts
  refine rename_via (E := E.rest) (rs := rs) (hb := hb) (Q := fun w' => (∃ f', f' + bkL (dropR (T p) i).length + bkL ((T q).length + 1) = f + bkL (T p).length + bkL (T q).length /\ Fsz fb rs hb E.rest K (upd (upd D p (recsL (dropR (T p) i))) q (recsL (T q ++ [⟨t, r.id⟩]))) (upd (upd T p (dropR (T p) i)) q (T q ++ [⟨t, r.id⟩])) f' (lim + 1000) w') /\ E.Turns fb w w') m.la m.lb m.pa m.pb (by simp) (by simp) (fun w1 w2 hq hB => ⟨by obtain ⟨f', g1, g2⟩ := hq.1; exact ⟨f', g1, g2.below hB⟩, hq.2.trans (Apart.of_below hB)⟩) (fun wx b0 b1 b2 b3 hx hb0 hb3 hbx => ?_)
  have hF' : FsAt fb (E.at A U (· ∈ [p, q]) (· ∈ [p, q]) ku) rs hb wx := (h.at_.below hx).at _ _ _ _ _
  have hSx := (hS'.more hx).to
  have kM := move_enter hF' hSx ok' h.tree htn1 hpl.kk.symm m (show p ∈ [p, q] by simp) (show p ∈ [p, q] by simp) (show q ∈ [p, q] by simp) (show q ∈ [p, q] by simp) (by omega) hgq hmay
  obtain ⟨F, hFe⟩ : ∃ F, F = f + bkL (T p).length + bkL (T q).length - bkL (dropR (T p) i).length - bkL ((T q).length + 1) := ⟨_, rfl⟩
  have hmb3 : b3 ≠ E.mb := by unfold TE.Ahead at hah; omega
  have kR := rename1_ok (x := 0) (k := 0) (Q := fun w1 => Apart [E.mb] wx w1 /\ FsAt fb (E.at A U (· ∈ [p, q]) (· ∈ [p, q]) ku) rs hb w1 /\ (S8 (E.at A U (· ∈ [p, q]) (· ∈ [p, q]) ku) K (upd (upd D p (recsL (dropR (T p) i))) q (recsL (T q ++ [⟨t, r.id⟩]))) F 0 lim w1 /\ F + bkL (dropR (T p) i).length + bkL ((T q).length + 1) = f + bkL (T p).length + bkL (T q).length)) hbx (kM.mono (by
    rintro e w1 ⟨rfl, ⟨f', g1, g2⟩, hA1⟩
    have hfF : f' = F := by omega
    rw [hfF] at g1 g2
    have hA1' : Apart [E.mb] wx w1 := hA1
    have hN1 := hbx.n.keep hA1' (by simpa using hmb3)
    refine ⟨rfl, hN1, ?_⟩
    have e0 := setCell_self hN1.c0
    rw [e0, setCell_self hN1.c1]
    exact ⟨hA1', hF'.keep hA1' (fun hm => hfar.1 (List.mem_singleton.1 hm)), g2, g1⟩))
  refine (step_ok (P := fun w1 => (Apart [E.mb] wx w1 /\ F + bkL (dropR (T p) i).length + bkL ((T q).length + 1) = f + bkL (T p).length + bkL (T q).length) /\ FnAt w1 b3 0 0) (K := K) (D := upd (upd D p (recsL (dropR (T p) i))) q (recsL (T q ++ [⟨t, r.id⟩]))) (f := F) (u := 0) (lim := lim) ent_rename1 hF' hfar ok' hpl.far hpl.live (by show 1 <= E.most /\ E.most <= 200; rw [hpl.most]; omega) hlim (kR.mono ?_)).mono ?_
  · rintro e w1 ⟨rfl, hN1, hA1, hF1, hS1, hFf⟩
    exact ⟨rfl, ⟨⟨hA1, hFf⟩, hN1⟩, hF1, hS1⟩
  · rintro e w2 ⟨rfl, w1, ⟨⟨hA1, hFf⟩, hN1⟩, hF2, hS2, hA2⟩
    have hA2' : Apart [E.d, E.g, E.mb] w1 w2 := hA2
    have hlow : ∀ k ∈ [E.d, E.g, E.mb], k < w.heap.size := fun k hk => by
      unfold TE.Ahead at hah
      simp only [List.mem_cons, List.not_mem_nil, or_false] at hk
      omega
    have hturn : E.Turns fb w w2 := turns_of hx hA1 hA2'
    have c0 := hbx.c0
    have l0 := lt_of_cell (a := ⟨b0, 0, none⟩) c0
    have d0 := (hA1.cell (p := ⟨b0, 0, none⟩) l0 (fun hm => by have := hlow b0 (by simp at hm ⊢; omega); omega)).trans c0
    refine ⟨rfl, ?_, 0, 0, by decide, hN1.keep hA2' (fun hm => by have := hlow _ hm; omega), ⟨hF2.c0, hF2.c1, hF2.c2, hF2.c3, hF2.c4, hF2.c5, hF2.c6, hF2.c7, hF2.f7⟩, ?_, ⟨⟨F, hFf, ⟨⟨hF2.c0, hF2.c1, hF2.c2, hF2.c3, hF2.c4, hF2.c5, hF2.c6, hF2.c7, hF2.f7⟩, hS2.rest, hpl.at _ _ _ _ _, hfar, h.tree.enter p1 p2 hk q1 q2 hkq m.oth m.at_ htok m.no⟩⟩, hturn⟩⟩
    · exact (hA2'.cell (p := ⟨b0, 0, none⟩) (lt_of_cell (a := ⟨b0, 0, none⟩) d0) (fun hm => by have := hlow _ hm; simp only at this; omega)).trans d0
    · exact ⟨(hno.turns hturn).no, hno.ne⟩
end
end Go.Proofs.YtleafmdjhmnjmaaGreatDoor
