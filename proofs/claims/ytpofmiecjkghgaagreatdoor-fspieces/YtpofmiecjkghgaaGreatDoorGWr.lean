/- A law's file system between two calls, whatever it is; FsInodes, call by call. -/
import Derived.Test.YtpofmiecjkghgaaGreatDoorGWq
import Derived.Test.YtpofmiecjkghgaaGreatDoorGWg
namespace Go.Proofs.YtpofmiecjkghgaaGreatDoor
open Go.RowKit Go.Extern.Stop Go.Stop Go.Extern Go.Maps Go.Sort Go.Shelf
set_option maxRecDepth 100000
structure GnR (fb hb xb N dd : Nat) (P : (Nat -> List Int) -> Nat -> Prop) (K : Nat -> Nat) (T : Nat -> List Rec) (lim : Nat) (E : TE) (w : World) : Prop where
  st : ∃ D f, P D f /\ Fsz fb 0 hb E K D T f lim w
  no : HNo fb hb E w
  x1 : w.cell? ⟨xb, 1, none⟩ = some (ptr fb)
  xn : xb ≠ E.d /\ xb ≠ E.g /\ xb ≠ E.mb /\ xb ≠ fb
  tn : E.tn = N
  k : E.k = dd
def GnS (fb hb xb N dd : Nat) (P : (Nat -> List Int) -> Nat -> Prop) (K : Nat -> Nat) (T : Nat -> List Rec) (lim : Nat) (w0 w : World) : Prop := (∃ E, GnR fb hb xb N dd P K T lim E w /\ E.w0 = w0) /\ GT w0
def ErN (op nm : ByteArray) (m : Int) (ev : Value) (w : World) : Prop := ∃ ll b, ev = flt b /\ Chain w ((op, nm) :: ll) (num m) (flt b)
section
variable {fb hb xb N dd lim lim' : Nat} {P P' : (Nat -> List Int) -> Nat -> Prop} {K K' : Nat -> Nat} {T T' : Nat -> List Rec} {D D' : Nat -> List Int} {f f' : Nat} {E : TE} {w0 w w' : World}
theorem GnR.below (h : GnR fb hb xb N dd P K T lim E w) (hB : Below w.heap.size w w') : GnR fb hb xb N dd P K T lim E w' := by
  obtain ⟨⟨D, f, hp, h0⟩, h1, h2, h3, h4, h5⟩ := h
  exact ⟨⟨D, f, hp, h0.below hB⟩, h1.below hB, (hB.cell (p := ⟨xb, 1, none⟩) (lt_of_cell (a := ⟨xb, 1, none⟩) h2)).trans h2, h3, h4, h5⟩
theorem GnR.turn (h : GnR fb hb xb N dd P K T lim E w) (hT : E.Turns fb w w') (hP : P' D' f') (hz : Fsz fb 0 hb E.rest K' D' T' f' lim' w') : GnR fb hb xb N dd P' K' T' lim' E.rest w' :=
  have hA : Apart [E.d, E.g, E.mb, fb] w w' := hT
  ⟨⟨D', f', hP, hz⟩, ⟨(h.no.turns hT).no, h.no.ne⟩, (hA.cell (p := ⟨xb, 1, none⟩) (lt_of_cell (a := ⟨xb, 1, none⟩) h.x1) (by have := h.xn; simp; omega)).trans h.x1, h.xn, h.tn, h.k⟩
theorem GnS.below (h : GnS fb hb xb N dd P K T lim w0 w) (hB : Below w.heap.size w w') : GnS fb hb xb N dd P K T lim w0 w' := by
  obtain ⟨⟨E, h1, h2⟩, h3⟩ := h
  exact ⟨⟨E, h1.below hB, h2⟩, h3⟩
theorem GnS.x1 (h : GnS fb hb xb N dd P K T lim w0 w) : w.cell? ⟨xb, 1, none⟩ = some (ptr fb) := by
  obtain ⟨⟨E, h1, h2⟩, h3⟩ := h
  exact h1.x1
theorem GnS.bel (h : GnS fb hb xb N dd P K T lim w0 w) : Below w0.heap.size w0 w := by
  obtain ⟨⟨E, ⟨⟨D, f, hp, h0⟩, -⟩, rfl⟩, h3⟩ := h
  exact h0.s.to.below
theorem GnS.gt (h : GnS fb hb xb N dd P K T lim w0 w) : GT w := h.2.below h.bel
theorem GnS.ground (h : GnS fb hb xb N dd P K T lim w0 w) : Ground w := by
  obtain ⟨⟨E, ⟨⟨D, f, hp, h0⟩, -⟩, rfl⟩, h3⟩ := h
  exact h0.s.to.ground
theorem GnS.up (h : GnS fb hb xb N dd P K T lim w0 w) (hl : lim <= lim') : GnS fb hb xb N dd P K T lim' w0 w := by
  obtain ⟨⟨E, ⟨⟨D, f, hp, h0⟩, h1, h2, h3, h4, h5⟩, he⟩, hg⟩ := h
  obtain ⟨mem, wr, M, z1, z2, z3, z4, z5⟩ := h0.s
  exact ⟨⟨E, ⟨⟨D, f, hp, ⟨h0.at_, ⟨mem, wr, M, z1, z2, z3, ⟨z4.1, Int.le_trans z4.2 (by omega)⟩, z5⟩, h0.pl, h0.far, h0.tree⟩⟩, h1, h2, h3, h4, h5⟩, he⟩, hg⟩
theorem gn_new {n i r : Nat} (hN : New11 n i r dd w0 E fb hb xb w) (hr : r = 0) (hg : GT w0) (hP : P (fun _ => []) dd) : GnS fb hb xb i dd P rootK (fun _ => []) 6000 w0 w := by
  subst hr
  exact ⟨⟨E, ⟨⟨_, _, hP, hN.z⟩, hN.no, hN.x1, hN.xn, hN.tn, hN.k⟩, hN.w0⟩, hg⟩
theorem GnS.step {F : FuncId} {args : Array Value} {R : Ending -> World -> Prop} (h : GnS fb hb xb N dd P K T lim w0 w)
    (k : ∀ E D f, GnR fb hb xb N dd P K T lim E w -> P D f -> Fsz fb 0 hb E K D T f lim w -> Calls Tryz.prog F args w fun e w' => R e w' /\ (∃ D' f', P' D' f' /\ Fsz fb 0 hb E.rest K' D' T' f' lim' w') /\ E.Turns fb w w') :
    Calls Tryz.prog F args w fun e w' => R e w' /\ GnS fb hb xb N dd P' K' T' lim' w0 w' := by
  obtain ⟨⟨E, h1, h2⟩, h3⟩ := h
  obtain ⟨D, f, hp, hz⟩ := h1.st
  refine (k E D f h1 hp hz).mono ?_
  rintro e w' ⟨hR, ⟨D', f', hp', hz'⟩, hT⟩
  exact ⟨hR, ⟨⟨E.rest, h1.turn hT hp' hz', h2⟩, h3⟩⟩
theorem GnS.told {F : FuncId} {args : Array Value} {op nm : ByteArray} {m : Int} (h : GnS fb hb xb N dd P K T lim w0 w)
    (k : ∀ E D f, GnR fb hb xb N dd P K T lim E w -> P D f -> Fsz fb 0 hb E K D T f lim w -> Calls Tryz.prog F args w fun e w' => ∃ ev, e = .returned ev /\ Told11 fb 0 hb E K D T f lim op nm m w ev w') :
    Calls Tryz.prog F args w fun e w' => ∃ ev, e = .returned ev /\ ErN op nm m ev w' /\ GnS fb hb xb N dd P K T lim w0 w' := by
  obtain ⟨⟨E, h1, h2⟩, h3⟩ := h
  obtain ⟨D, f, hp, hz⟩ := h1.st
  refine (k E D f h1 hp hz).mono ?_
  rintro e w' ⟨ev, he, ⟨ll, b, q1, q2⟩, hz', hT⟩
  exact ⟨ev, he, ⟨ll, b, q1, q2⟩, ⟨⟨E.rest, h1.turn hT hp hz', h2⟩, h3⟩⟩
theorem gn_is (hS : GnS fb hb xb N dd P K T lim w0 w) {op nm : ByteArray} {m : Int} {ev : Value} (he : ErN op nm m ev w) (hm : (m == 0) = false) :
    Calls Tryz.prog 19 #[ev, .string op, .string nm, .int .i64 m] w fun e w' => e = .returned (.bool true) /\ GnS fb hb xb N dd P K T lim w0 w' := by
  obtain ⟨ll, b, rfl, hc⟩ := he
  refine (law_is m hm w op nm ll (flt b) hc hS.gt).mono ?_
  rintro e w' ⟨rfl, hB⟩
  exact ⟨rfl, hS.below hB⟩
end
def inP (dd k : Nat) (D : Nat -> List Int) (f : Nat) : Prop := f + bkL k = dd /\ ∀ j, 2 <= j -> j <= k + 1 -> D j = []
section
variable {fb hb xb N dd lim k c : Nat} {kd : Nat -> Nat} {w0 w w' : World}
theorem nm_okB {i : Nat} (h : i < 128) : okB (nmP 120 i) = true := (ok_fin ⟨i, h⟩).1
theorem nm_len {i : Nat} (h : i < 128) : (47 :: nmP 120 i).length <= 2000 := by
  have := okB_len (nm_okB h)
  rw [List.length_cons]
  omega
def KdsOk (kd : Nat -> Nat) (k : Nat) : Prop := ∀ j, 1 <= j -> j <= k -> kd j = 1 \/ kd j = 2
theorem KdsOk.put (h : KdsOk kd k) (hc : c = 1 \/ c = 2) : KdsOk (upd kd (k + 1) c) (k + 1) := fun j a b => by
  by_cases e : j = k + 1
  · rw [e, upd_same]; exact hc
  · rw [upd_other _ _ e]; exact h j a (by omega)
theorem KdsOk.used (h : KdsOk kd k) {i : Nat} (h1 : 1 <= i) (h2 : i <= k + 1) : inK kd k i ≠ 0 := by
  unfold inK
  by_cases e : i = 1
  · rw [if_pos e]; decide
  · rw [if_neg e, if_pos (by omega)]
    rcases h (i - 1) (by omega) (by omega) with e | e <;> rw [e] <;> decide
theorem inT_one (L : List Rec) : inT L 1 = L := upd_same _ _ _
theorem inT_upd (L M : List Rec) : upd (inT L) 1 M = inT M := upd_upd _ _ _ _
theorem inT_not {L : List Rec} {q : Nat} (h : q ≠ 1) : inT L q = [] := upd_other _ _ h
theorem in_make (hc : c = 1 \/ c = 2) {s : List UInt8} {L : List Rec} {K : Nat -> Nat} {P P' : (Nat -> List Int) -> Nat -> Prop} {m id : Nat} (h : GnS fb hb xb N dd P K (inT L) lim w0 w) (hs : okB s = true) (hno : ∀ r ∈ L, r.s ≠ s) (hm : L.length = m) (hm1 : m <= 60) (h1 : 2 <= id) (h2 : id <= N) (hK1 : K 1 = 2) (hfree : K id = 0) (hlow : ∀ i, 1 <= i -> i < id -> K i ≠ 0) (hP : ∀ D f, P D f -> 74 <= f + bkL m) (hP' : ∀ D f f', P D f -> D id = [] -> f' + bkL (m + 1) = f + bkL m -> P' (upd D 1 (recsL (L ++ [⟨s, id⟩]))) f') (hlim : lim <= 300000000) :
    Calls Tryz.prog 34 #[ptr fb, .string (mkB (47 :: s)), .int .i64 (c : Nat)] w fun e w' => e = .returned .nilIface /\ GnS fb hb xb N dd P' (upd K id c) (inT (L ++ [⟨s, id⟩])) (lim + 1000) w0 w' := by
  refine h.step (R := fun e _ => e = .returned .nilIface) (fun E D f hR hp hz => ?_)
  have hb := bkL_one m (by omega)
  have hg := grow_bk m (by omega)
  have h74 := hP D f hp
  have e0z : growb 0 ((0 : Nat) : Int) = 0 := by simp [growb, blk]
  have hD0 : D id = [] := hz.s.to.noBytes (by omega) (by rw [hR.tn]; omega) hfree
  have hlen : (47 :: s).length <= 2000 := by have := okB_len hs; rw [List.length_cons]; omega
  have hd : dirT K (inT L) [] = .ok 1 := by simp [dirT, walkT, hK1]
  have kC := create_new hz (path := 47 :: s) (l := []) (s := s) (kind := c) hlen (split_one hs) (p := 1) hd (by rw [inT_one]; exact lookN hno) (by rw [inT_one]; omega) hc (id := id) (by omega) (by rw [hR.tn]; omega) hfree (fun _ => inT_not (by omega)) hlow
    (gn := bkL (m + 1) - bkL m) (by rw [inT_one, hm]; exact hg) (by rw [e0z]; unfold mayB; simp; omega) hlim
  rw [inT_one, inT_upd] at kC
  refine kC.mono ?_
  rintro e w' ⟨rfl, ⟨f', hf', hz'⟩, hT⟩
  exact ⟨rfl, ⟨_, f', hP' D f f' hp hD0 (by omega), hz'⟩, hT⟩
theorem inT_nil : inT [] = fun _ => [] := by
  funext j
  unfold inT upd
  split <;> rfl
theorem inK_nil (kd : Nat -> Nat) : inK kd 0 = rootK := by
  funext j
  unfold inK rootK
  by_cases e : j = 1
  · rw [if_pos e, e, upd_same]
  · rw [if_neg e, if_neg (by omega), upd_other _ _ e]
theorem in_create (hc : c = 1 \/ c = 2) (h : GnS fb hb xb N dd (inP dd k) (inK kd k) (inT (xsR k)) lim w0 w) (hkd : KdsOk kd k) (hk : k + 2 <= N) (hN : N <= 60) (hdd : 74 <= dd) (hlim : lim <= 300000000) :
    Calls Tryz.prog 34 #[ptr fb, .string (mkB (47 :: nmP 120 (k + 1))), .int .i64 (c : Nat)] w fun e w' => e = .returned .nilIface /\ GnS fb hb xb N dd (inP dd (k + 1)) (inK (upd kd (k + 1) c) (k + 1)) (inT (xsR (k + 1))) (lim + 1000) w0 w' := by
  have hf0 : inK kd k (k + 2) = 0 := by unfold inK; rw [if_neg (by omega), if_neg (by omega)]
  rw [<- inK_put, xsR_succ]
  exact in_make hc h (nm_okB (by omega)) (xsR_no (Nat.le_refl _) (by omega)) (xsR_len k) (by omega) (by omega) hk (by simp [inK]) hf0 (fun i a b => hkd.used a (by omega)) (fun D f hp => by have := hp.1; omega) (fun D f f' hp hD hf => ⟨by have := hp.1; omega, fun j a b => by
    rw [upd_other _ _ (by omega)]
    by_cases e : j = k + 2
    · rw [e]; exact hD
    · exact hp.2 j a (by omega)⟩) hlim
theorem in_drop {s : List UInt8} {L : List Rec} {K : Nat -> Nat} {P P' : (Nat -> List Int) -> Nat -> Prop} {m i id : Nat} (h : GnS fb hb xb N dd P K (inT L) lim w0 w) (hs : okB s = true) (hi : L[i]? = some ⟨s, id⟩) (hm : L.length = m + 1) (hm1 : m <= 60) (h1 : 2 <= id) (hK1 : K 1 = 2) (hkid : K id = 1 \/ K id = 2) (hnd : ∀ r ∈ dropR L i, r.id ≠ id) (hP : ∀ D f, P D f -> D id = []) (hP' : ∀ D f f', P D f -> f' + bkL m = f + bkL (m + 1) -> P' (upd (upd D 1 (recsL (dropR L i))) id []) f') (hlim : lim <= 300000000) :
    Calls Tryz.prog 37 #[ptr fb, .string (mkB (47 :: s))] w fun e w' => e = .returned .nilIface /\ GnS fb hb xb N dd P' (upd K id 0) (inT (dropR L i)) (lim + 1000) w0 w' := by
  refine h.step (R := fun e _ => e = .returned .nilIface) (fun E D f hR hp hz => ?_)
  have hlen : (47 :: s).length <= 2000 := by have := okB_len hs; rw [List.length_cons]; omega
  have hd : dirT K (inT L) [] = .ok 1 := by simp [dirT, walkT, hK1]
  have hil := (List.getElem?_eq_some_iff.1 hi).1
  have hDi := hP D f hp
  have hdl : (dropR L i).length = m := by rw [dropR_len hil, hm]; omega
  have hn : blk ((D id).length : Int) = ((0 : Nat) : Int) := by rw [hDi]; rfl
  have hu : ∀ q, 1 <= q -> q <= E.tn -> K q = 2 -> q ≠ id -> ∀ x ∈ upd (inT L) 1 (dropR (inT L 1) i) q, x.id ≠ id := fun q _ _ _ _ x hx => by
    rw [inT_one, inT_upd] at hx
    by_cases e : q = 1
    · rw [e, inT_one] at hx; exact hnd x hx
    · rw [inT_not e] at hx; simp at hx
  have hi' : (inT L 1)[i]? = some ⟨s, id⟩ := by rw [inT_one]; exact hi
  have kR : Calls Tryz.prog 37 #[ptr fb, .string (mkB (47 :: s))] w fun e w' => e = .returned .nilIface /\ (∃ f', f' + bkL (dropR (inT L 1) i).length = f + bkL (inT L 1).length + 0 /\ Fsz fb 0 hb E.rest (upd K id 0) (upd (upd D 1 (recsL (dropR (inT L 1) i))) id []) (upd (inT L) 1 (dropR (inT L 1) i)) f' (lim + 1000) w') /\ E.Turns fb w w' := by
    rcases hkid with hk | hk
    · exact remove_file hz hR.no (path := 47 :: s) (l := []) (s := s) hlen (split_one hs) (p := 1) (i := i) (r := ⟨s, id⟩) hd hi' rfl hk hn (by rw [inT_one]; omega) hu hlim
    · exact remove_dir hz hR.no (path := 47 :: s) (l := []) (s := s) hlen (split_one hs) (p := 1) (i := i) (r := ⟨s, id⟩) hd hi' rfl hk (by show id ≠ 1; omega) (by show id ≠ 1; omega) hDi hn (by rw [inT_one]; omega) hu hlim
  rw [inT_one, inT_upd, hdl, hm] at kR
  refine kR.mono ?_
  rintro e w' ⟨rfl, ⟨f', hf', hz'⟩, hT⟩
  exact ⟨rfl, ⟨_, f', hP' D f f' hp (by omega), hz'⟩, hT⟩
theorem in_remove (h : GnS fb hb xb N dd (inP dd (k + 1)) (inK kd (k + 1)) (inT (xsR (k + 1))) lim w0 w) (hkd : KdsOk kd (k + 1)) (hk : k <= 60) (hlim : lim <= 300000000) :
    Calls Tryz.prog 37 #[ptr fb, .string (mkB (47 :: nmP 120 (k + 1)))] w fun e w' => e = .returned .nilIface /\ GnS fb hb xb N dd (inP dd k) (inK kd k) (inT (xsR k)) (lim + 1000) w0 w' := by
  have hx := xsR_drop k
  have := in_drop (P' := inP dd k) (id := k + 2) (i := k) (m := k) h (nm_okB (by omega)) (xsR_get (by omega)) (xsR_len _) hk (by omega) (by simp [inK]) (by unfold inK; rw [if_neg (by omega), if_pos (by omega)]; exact hkd _ (by omega) (by omega)) (fun r hr => by
    rw [hx] at hr
    obtain ⟨j, hj, rfl⟩ := xsR_mem hr
    show j + 2 ≠ k + 2
    omega) (fun D f hp => hp.2 _ (by omega) (by omega)) (fun D f f' hp hf => ⟨by have := hp.1; omega, fun j a b => by rw [upd_other _ _ (by omega), upd_other _ _ (by omega)]; exact hp.2 j a (by omega)⟩) hlim
  rw [hx, inK_take] at this
  exact this
end
structure GrR (rs fb hb xb N dd : Nat) (P : (Nat -> List Int) -> Nat -> Prop) (K : Nat -> Nat) (T : Nat -> List Rec) (lim : Nat) (E : TE) (w : World) : Prop where
  st : ∃ D f, P D f /\ Fsz fb rs hb E K D T f lim w
  no : HNo fb hb E w
  x1 : w.cell? ⟨xb, 1, none⟩ = some (ptr fb)
  xn : xb ≠ E.d /\ xb ≠ E.g /\ xb ≠ E.mb /\ xb ≠ fb
  tn : E.tn = N
  k : E.k = dd
def GrS (rs fb hb xb N dd : Nat) (P : (Nat -> List Int) -> Nat -> Prop) (K : Nat -> Nat) (T : Nat -> List Rec) (lim : Nat) (w0 w : World) : Prop := (∃ E, GrR rs fb hb xb N dd P K T lim E w /\ E.w0 = w0) /\ GT w0
section
variable {rs fb hb xb N dd lim lim' : Nat} {P P' : (Nat -> List Int) -> Nat -> Prop} {K K' : Nat -> Nat} {T T' : Nat -> List Rec} {D D' : Nat -> List Int} {f f' : Nat} {E : TE} {w0 w w' : World}
theorem GrR.below (h : GrR rs fb hb xb N dd P K T lim E w) (hB : Below w.heap.size w w') : GrR rs fb hb xb N dd P K T lim E w' := by
  obtain ⟨⟨D, f, hp, h0⟩, h1, h2, h3, h4, h5⟩ := h
  exact ⟨⟨D, f, hp, h0.below hB⟩, h1.below hB, (hB.cell (p := ⟨xb, 1, none⟩) (lt_of_cell (a := ⟨xb, 1, none⟩) h2)).trans h2, h3, h4, h5⟩
theorem GrR.turn (h : GrR rs fb hb xb N dd P K T lim E w) (hT : E.Turns fb w w') (hP : P' D' f') (hz : Fsz fb rs hb E.rest K' D' T' f' lim' w') : GrR rs fb hb xb N dd P' K' T' lim' E.rest w' :=
  have hA : Apart [E.d, E.g, E.mb, fb] w w' := hT
  ⟨⟨D', f', hP, hz⟩, ⟨(h.no.turns hT).no, h.no.ne⟩, (hA.cell (p := ⟨xb, 1, none⟩) (lt_of_cell (a := ⟨xb, 1, none⟩) h.x1) (by have := h.xn; simp; omega)).trans h.x1, h.xn, h.tn, h.k⟩
theorem GrS.below (h : GrS rs fb hb xb N dd P K T lim w0 w) (hB : Below w.heap.size w w') : GrS rs fb hb xb N dd P K T lim w0 w' := by
  obtain ⟨⟨E, h1, h2⟩, h3⟩ := h
  exact ⟨⟨E, h1.below hB, h2⟩, h3⟩
theorem GrS.x1 (h : GrS rs fb hb xb N dd P K T lim w0 w) : w.cell? ⟨xb, 1, none⟩ = some (ptr fb) := by
  obtain ⟨⟨E, h1, h2⟩, h3⟩ := h
  exact h1.x1
theorem GrS.bel (h : GrS rs fb hb xb N dd P K T lim w0 w) : Below w0.heap.size w0 w := by
  obtain ⟨⟨E, ⟨⟨D, f, hp, h0⟩, -⟩, rfl⟩, h3⟩ := h
  exact h0.s.to.below
theorem GrS.gt (h : GrS rs fb hb xb N dd P K T lim w0 w) : GT w := h.2.below h.bel
theorem GrS.ground (h : GrS rs fb hb xb N dd P K T lim w0 w) : Ground w := by
  obtain ⟨⟨E, ⟨⟨D, f, hp, h0⟩, -⟩, rfl⟩, h3⟩ := h
  exact h0.s.to.ground
theorem GrS.up (h : GrS rs fb hb xb N dd P K T lim w0 w) (hl : lim <= lim') : GrS rs fb hb xb N dd P K T lim' w0 w := by
  obtain ⟨⟨E, ⟨⟨D, f, hp, h0⟩, h1, h2, h3, h4, h5⟩, he⟩, hg⟩ := h
  obtain ⟨mem, wr, M, z1, z2, z3, z4, z5⟩ := h0.s
  exact ⟨⟨E, ⟨⟨D, f, hp, ⟨h0.at_, ⟨mem, wr, M, z1, z2, z3, ⟨z4.1, Int.le_trans z4.2 (by omega)⟩, z5⟩, h0.pl, h0.far, h0.tree⟩⟩, h1, h2, h3, h4, h5⟩, he⟩, hg⟩
theorem gr_new {n i : Nat} (hN : New11 n i rs dd w0 E fb hb xb w) (hg : GT w0) (hP : P (fun _ => []) dd) : GrS rs fb hb xb i dd P rootK (fun _ => []) 6000 w0 w :=
  ⟨⟨E, ⟨⟨_, _, hP, hN.z⟩, hN.no, hN.x1, hN.xn, hN.tn, hN.k⟩, hN.w0⟩, hg⟩
theorem GrS.step {F : FuncId} {args : Array Value} {R : Ending -> World -> Prop} (h : GrS rs fb hb xb N dd P K T lim w0 w)
    (k : ∀ E D f, GrR rs fb hb xb N dd P K T lim E w -> P D f -> Fsz fb rs hb E K D T f lim w -> Calls Tryz.prog F args w fun e w' => R e w' /\ (∃ D' f', P' D' f' /\ Fsz fb rs hb E.rest K' D' T' f' lim' w') /\ E.Turns fb w w') :
    Calls Tryz.prog F args w fun e w' => R e w' /\ GrS rs fb hb xb N dd P' K' T' lim' w0 w' := by
  obtain ⟨⟨E, h1, h2⟩, h3⟩ := h
  obtain ⟨D, f, hp, hz⟩ := h1.st
  refine (k E D f h1 hp hz).mono ?_
  rintro e w' ⟨hR, ⟨D', f', hp', hz'⟩, hT⟩
  exact ⟨hR, ⟨⟨E.rest, h1.turn hT hp' hz', h2⟩, h3⟩⟩
theorem GrS.told {F : FuncId} {args : Array Value} {op nm : ByteArray} {m : Int} (h : GrS rs fb hb xb N dd P K T lim w0 w)
    (k : ∀ E D f, GrR rs fb hb xb N dd P K T lim E w -> P D f -> Fsz fb rs hb E K D T f lim w -> Calls Tryz.prog F args w fun e w' => ∃ ev, e = .returned ev /\ Told11 fb rs hb E K D T f lim op nm m w ev w') :
    Calls Tryz.prog F args w fun e w' => ∃ ev, e = .returned ev /\ ErN op nm m ev w' /\ GrS rs fb hb xb N dd P K T lim w0 w' := by
  obtain ⟨⟨E, h1, h2⟩, h3⟩ := h
  obtain ⟨D, f, hp, hz⟩ := h1.st
  refine (k E D f h1 hp hz).mono ?_
  rintro e w' ⟨ev, he, ⟨ll, b, q1, q2⟩, hz', hT⟩
  exact ⟨ev, he, ⟨ll, b, q1, q2⟩, ⟨⟨E.rest, h1.turn hT hp hz', h2⟩, h3⟩⟩
theorem gr_is (hS : GrS rs fb hb xb N dd P K T lim w0 w) {op nm : ByteArray} {m : Int} {ev : Value} (he : ErN op nm m ev w) (hm : (m == 0) = false) :
    Calls Tryz.prog 19 #[ev, .string op, .string nm, .int .i64 m] w fun e w' => e = .returned (.bool true) /\ GrS rs fb hb xb N dd P K T lim w0 w' := by
  obtain ⟨ll, b, rfl, hc⟩ := he
  refine (law_is m hm w op nm ll (flt b) hc hS.gt).mono ?_
  rintro e w' ⟨rfl, hB⟩
  exact ⟨rfl, hS.below hB⟩
end
section
variable {fb rs hb : Nat} {E : TE} {w w' : World} {K : Nat -> Nat} {D : Nat -> List Int} {T : Nat -> List Rec} {f u lim : Nat}
set_option maxHeartbeats 2000000 in
theorem add_poor (hF : FsAt fb E rs hb w) (h : S8 E K D f u lim w) (ok : E.Ok) (hkk : E.kk = E.k) {p db : Nat} {L : List Rec} (p1 : 1 <= p) (p2 : p <= E.tn) (hk : K p = 2) (hD : D p = recsL L) (hg : GoodL L) (hd : DirAt E db p w) (s : List UInt8) (hl : L.length < 120)
    (kind : Int) (id : Nat) (h1 : 1 <= id) (h2 : id <= E.tn) (hfree : K id = 0) (size : Nat) (all : Bool) (gn : Nat) (hgn : growb ((32 * L.length : Nat) : Int) ((32 * (L.length + 1) : Nat) : Int) = (gn : Int)) (hmay : mayB (f : Int) (rs : Int) ((gn : Int) + growb 0 (size : Int)) all = false) :
    Calls Tryz.prog 62 #[ptr fb, ptr db, .string (mkB s), .int .i64 kind, .int .i64 (size : Nat), .bool all] w fun e w' => e = .returned (.tuple #[.int .i64 0, num 15]) /\ Below w.heap.size w w' := by
  have htn := ok.tn
  have hfk : f <= 2100 := by
    obtain ⟨mem, wr, M, N, q1, q2, q3, q4, q5, q6, q7, q8⟩ := h
    have := freeN_le (bitM mem M E.ma) E.k
    have := ok.k
    omega
  have kWi := widen_calls (h.dl hD hg hd) (eok ok p1 p2 hk _) hl
  rw [hgn] at kWi
  replace kWi := hidden kWi
  have kLe := hidden (fun (wx : World) (hx : Below w.heap.size w wx) => S8.left ok (h.more hx))
  have kGr := hidden (fun (wx : World) => grow_calls 0 (size : Int) wx)
  have kMy := hidden (fun (wx : World) (hx : Below w.heap.size w wx) => fmay_calls (hF.below hx) (h.more hx) ok hkk ((gn : Int) + growb 0 (size : Int)) all (yes := false) (fun wy => by have := may_calls (f : Int) (rs : Int) ((gn : Int) + growb 0 (size : Int)) all (by omega) wy; rw [hmay] at this; exact this))
  have kFs := hidden (fun (wx : World) (hx : Below w.heap.size w wx) => (hF.below hx).c2)
  have hcnt := cnt_pos h1 hfree (E.tn + 1) (by omega)
  have hcn : ¬ ((cntN K (E.tn + 1) : Nat) : Int) = 0 := by omega
  have hgr := growb_range 0 (size : Int)
  have hgz : gn <= 100 := by have := growb_range ((32 * L.length : Nat) : Int) ((32 * (L.length + 1) : Nat) : Int); omega
  have hlt := hF.lt
  clear hF h hD hd hmay hgn
  generalize hcq : ((cntN K (E.tn + 1) : Nat) : Int) = CN at *
  generalize hgq : growb 0 (size : Int) = GS at *
  clear hcq hgq hcnt
  go_enter Tryz.func62, Tryz.ntmps62
  go_wp2_with fail
  refine (kWi.out).mono ?_
  rintro ev w1 ⟨rfl, hB1⟩
  have c21 := kFs.out _ hB1
  have hl1 : fb < w1.heap.size := lt_of_cell (a := ⟨fb, 2, none⟩) c21
  have kLe1 := hidden (kLe.out _ hB1)
  replace hB1 := hidden hB1
  clear kWi kLe
  go_wp2_with fail
  refine (kLe1.out).mono ?_
  rintro ev w2 ⟨rfl, hB2⟩
  have hb2 := hB1.out.trans (hB2.mono hB1.out.size)
  have kMy2 := hidden (kMy.out _ hb2)
  replace hb2 := hidden hb2
  clear kLe1 hB2 hB1 c21 kMy
  go_wp2_with fail
  refine (kGr.out _).mono ?_
  rintro ev wq ⟨rfl, hwq⟩
  subst wq
  go_wp2_with fail
  refine (kMy2.out).mono ?_
  rintro ev w3 ⟨rfl, hB3⟩
  have hE := hidden (hb2.out.trans (hB3.mono hb2.out.size))
  clear kMy2 hB3 hb2 kGr
  dsimp only [Bool.false_eq_true, if_false]
  go_wp2
  go_ret2
  exact ⟨rfl, hE.out⟩
set_option maxHeartbeats 2000000 in
theorem target_poor (hF : FsAt fb E rs hb w) (h : S8 E K D f u lim w) (ok : E.Ok) (hkk : E.kk = E.k) (ht : TreeOk E.tn K D T) (htn : 1 <= E.tn) {v : Value} {l : List (List UInt8)} (hv : TxtsAt w v l) (hll : l.length <= 1000) (hok : ∀ s ∈ l, okB s = true) {p : Nat} (hp : dirT K T l = .ok p) (s : List UInt8) (hs : okB s = true) (hno : lookT (T p) s = none) (hl : (T p).length < 120) (id : Nat) (h1 : 1 <= id) (h2 : id <= E.tn) (hfree : K id = 0) (size : Nat) (all : Bool) (gn : Nat) (hgn : growb ((32 * (T p).length : Nat) : Int) ((32 * ((T p).length + 1) : Nat) : Int) = (gn : Int)) (hmay : mayB (f : Int) (rs : Int) ((gn : Int) + growb 0 (size : Int)) all = false) :
    Calls Tryz.prog 64 #[ptr fb, v, .string (mkB s), .int .i64 (size : Nat), .bool all] w fun e w' => e = .returned (.tuple #[.int .i64 0, num 15]) /\ Below w.heap.size w w' := by
  have kDa := hidden (dirAt_calls hF h ok ht htn hv hll hok)
  have kCh := hidden (fun (wx : World) (db : Nat) (p1 : 1 <= p) (p2 : p <= E.tn) (hk : K p = 2) (hx : Below w.heap.size w wx) (hd : DirAt E db p wx) => child_none (fb := fb) (h.more hx) ok p1 p2 hk (ht.recs p p1 p2 hk).1 (ht.recs p p1 p2 hk).2 hd s hs (lookT_none hno))
  have kAd := hidden (fun (wx : World) (db : Nat) (p1 : 1 <= p) (p2 : p <= E.tn) (hk : K p = 2) (hx : Below w.heap.size w wx) (hd : DirAt E db p wx) => add_poor (hF.below hx) (h.more hx) ok hkk p1 p2 hk (ht.recs p p1 p2 hk).1 (ht.recs p p1 p2 hk).2 hd s hl 1 id h1 h2 hfree size all gn hgn hmay)
  obtain ⟨a, cap, rfl, -⟩ := hv
  replace hp := hidden hp
  clear hF h ok ht hok hgn hmay hfree hno
  generalize l.length = LL at *
  go_enter Tryz.func64, Tryz.ntmps64
  go_wp2_with fail
  refine (kDa.out).mono ?_
  rintro ev w1 ⟨(⟨q, db, hq, rfl, hd1, hdb, q1, q2, q3⟩ | ⟨m, bk, nm, hq, -⟩), hB1⟩
  rotate_left
  · rw [hp.out] at hq; cases hq
  obtain rfl : p = q := by rw [hp.out] at hq; exact Except.ok.inj hq
  have kC1 := hidden (kCh.out w1 db q1 q2 q3 hB1 hd1)
  have hA1 := hidden (And.intro hB1 hd1)
  clear kDa kCh hB1 hd1 hq
  go_wp2_with fail
  refine (kC1.out).mono ?_
  rintro ev w2 ⟨bk, rfl, hc, hB2⟩
  obtain ⟨w3, hw3, hB3, hN3⟩ : ∃ w3, w2.alloc (Obj.cells #[.int .i64 0, .int .i64 0] 105) = w3 /\ Below w2.heap.size w2 w3 /\ FnAt w3 w2.heap.size 0 0 := ⟨_, rfl, (Below.refl _ _).alloc (Nat.le_refl _) _, fn_new _ _ _⟩
  have kI := is_chain 11 11 w3 _ _ (Chain.below hB3 _ _ _ hc)
  have hb3 : Below w.heap.size w w3 := hA1.out.1.trans ((hB2.trans (hB3.mono hB2.size)).mono hA1.out.1.size)
  have hd3 : DirAt E db p w3 := (hA1.out.2.below hB2).below hB3
  have kA3 := hidden (kAd.out w3 db q1 q2 q3 hb3 hd3)
  replace kI := hidden kI
  replace hb3 := hidden hb3
  replace hw3 := hidden hw3
  clear hc hB2 hB3 hN3 kC1 kAd hd3 hA1
  go_upto_region 5 with fail
  rw [hw3.out]
  clear hw3
  go_wp2_with fail
  refine (kI.out).mono ?_
  rintro ev w4 ⟨rfl, hw4⟩
  subst w4
  dsimp only [Int.reduceBEq]
  go_wp2_with fail
  refine (kA3.out).mono ?_
  rintro ev w5 ⟨rfl, hB5⟩
  have hE := hidden (hb3.out.trans (hB5.mono hb3.out.size))
  clear hB5 kA3
  go_wp2
  go_ret2
  exact ⟨rfl, hE.out⟩
theorem put_poor (h : Fsz fb rs hb E K D T f lim w) {path s : List UInt8} {l : List (List UInt8)} (hlen : path.length <= 2000) (hp : splitB path = some (l ++ [s])) {bv : Value} {zs : List Int} (hbv : ∃ a c, bv = .slice a zs.length c) (hz : zs.length <= 4000) (all : Bool) {p : Nat} (hd : dirT K T l = .ok p) (hno : lookT (T p) s = none) (hl : (T p).length < 120) {id : Nat} (h1 : 1 <= id) (h2 : id <= E.tn) (hfree : K id = 0) {gn : Nat} (hgn : growb ((32 * (T p).length : Nat) : Int) ((32 * ((T p).length + 1) : Nat) : Int) = (gn : Int)) (hmay : mayB (f : Int) (rs : Int) ((gn : Int) + growb 0 (zs.length : Int)) all = false) :
    Calls Tryz.prog 35 #[ptr fb, .string (mkB path), bv, .bool all] w fun e w' => ∃ ev, e = .returned ev /\ Refused fb rs hb E K D T f lim 15 w ev w' := by
  have hmp := may_all (split_may hp)
  have hl6 : l.length <= 6 := by have := hmp.1; rw [List.length_append] at this; omega
  refine put_fail h hlen hp hbv hz all rfl (fun wx up hr hT => ?_)
  refine (target_poor hr.at_ hr.s.to h.pl.rest_ok h.pl.kk.symm hr.tree h.pl.tn1 hT (by omega) (fun x hx => hmp.2 x (List.mem_append.2 (Or.inl hx))) hd s (hmp.2 s (by simp)) hno hl id h1 h2 hfree zs.length all gn hgn hmay).mono ?_
  rintro e w' ⟨rfl, hB⟩
  exact ⟨[], _, rfl, rfl, hB⟩
end
section
variable {fb rs hb : Nat} {E : TE} {w w' : World} {K : Nat -> Nat} {D : Nat -> List Int} {T : Nat -> List Rec} {f u lim tn : Nat}
theorem fMake_ok {path : List UInt8} {Q : World -> Prop} (k : Calls Tryz.prog 34 #[ptr fb, .string (mkB path), .int .i64 ((1 : Nat) : Int)] w fun e w' => e = .returned .nilIface /\ Q w') :
    Calls Tryz.prog 27 #[ptr fb, .string (mkB path)] w fun e w' => e = .returned .nilIface /\ Q w' := by
  replace k := hidden k
  have kW := hidden (fun (wx : World) => wrap_nil sMake (mkB path) wx)
  unfold sMake at kW
  go_enter Tryz.func27, Tryz.ntmps27
  go_wp2_with fail
  refine (k.out).mono ?_
  rintro ev w1 ⟨rfl, hQ⟩
  replace hQ := hidden hQ
  go_wp2_with fail
  refine (kW.out _).mono ?_
  rintro ev w2 ⟨rfl, hw2⟩
  subst w2
  go_wp2
  go_ret
  exact ⟨rfl, hQ.out⟩
theorem rec_inj : ∀ {L : List Rec}, (L.map Rec.s).Nodup -> ∀ {a b : Rec}, a ∈ L -> b ∈ L -> a.s = b.s -> a = b
  | [], _, a, b, ha, _, _ => by simp at ha
  | x :: l, h, a, b, ha, hb, e => by
    rw [List.map_cons, List.nodup_cons] at h
    rcases List.mem_cons.1 ha with ha | ha <;> rcases List.mem_cons.1 hb with hb | hb
    · rw [ha, hb]
    · exact absurd (List.mem_map.2 ⟨b, hb, by rw [<- e, ha]⟩) h.1
    · exact absurd (List.mem_map.2 ⟨a, ha, by rw [e, hb]⟩) h.1
    · exact rec_inj h.2 ha hb e
theorem idT_at {L : List Rec} (h : (L.map Rec.s).Nodup) {r : Rec} (hr : r ∈ L) : idT L r.s = r.id := by
  obtain ⟨q, h1, h2⟩ := look_has (L := L) (s := r.s) ⟨r, hr, rfl⟩
  obtain ⟨e, i, hi⟩ := lookT_some h1
  rw [h2, rec_inj h (List.mem_of_getElem? hi) hr e]
theorem sound_root {L : List Rec} (htn : 1 <= tn) (hK1 : K 1 = 2) (hT : T 1 = L) (hL : (L.map Rec.s).Nodup) (hids : (L.map Rec.id).Nodup) (hne : L ≠ []) (hin : ∀ r ∈ L, 2 <= r.id /\ r.id <= tn) (hleaf : ∀ r ∈ L, T r.id = []) (hall : ∀ id, 1 <= id -> id <= tn -> K id ≠ 0 -> id = 1 \/ ∃ r ∈ L, r.id = id) :
    Sound K T tn [[1], kidsT K T 1] := by
  have hks : kidsT K T 1 = (namesT T 1).map (idT L) := by unfold kidsT; rw [if_pos hK1, hT]
  have hp : (kidsT K T 1).Perm (L.map Rec.id) := by
    rw [hks]
    have h1 : (namesT T 1).Perm (L.map Rec.s) := by unfold namesT; rw [hT]; exact List.mergeSort_perm _ _
    have h2 := h1.map (idT L)
    rw [List.map_map] at h2
    refine h2.trans (List.Perm.of_eq (List.map_congr_left fun r hr => ?_))
    exact idT_at hL hr
  have hmem : ∀ x, x ∈ kidsT K T 1 <-> ∃ r ∈ L, r.id = x := fun x => by rw [hp.mem_iff, List.mem_map]
  generalize hkk : kidsT K T 1 = ks at hp hmem
  have hkid : ∀ x ∈ ks, kidsT K T x = [] := fun x hx => by
    obtain ⟨r, hr, rfl⟩ := (hmem x).1 hx
    unfold kidsT namesT
    rw [hleaf r hr]
    split
    · simp [sortS]
    · rfl
  have hnk : ks ≠ [] := fun e => by rw [e] at hp; exact hne (List.map_eq_nil_iff.1 (List.nil_perm.1 hp))
  have hnd : (1 :: ks).Nodup := by
    refine List.nodup_cons.2 ⟨fun h1 => ?_, hp.nodup_iff.2 hids⟩
    obtain ⟨r, hr, e⟩ := (hmem 1).1 h1
    have := (hin r hr).1
    omega
  refine ⟨⟨rfl, fun j l hl => ?_, by simpa using hnd, fun i hi => ?_⟩, by simp, fun id a b c => ?_⟩
  · match j, hl with
    | 0, hl =>
      obtain rfl : [1] = l := by simpa using hl
      exact ⟨by simp, by simp [hkk]⟩
    | 1, hl =>
      obtain rfl : ks = l := by simpa using hl
      refine ⟨hnk, ?_⟩
      show ks.flatMap (kidsT K T) = []
      rw [List.flatMap_eq_nil_iff]
      exact hkid
    | j + 2, hl => simp at hl
  · simp only [List.flatten_cons, List.flatten_nil, List.append_nil, List.singleton_append, List.mem_cons] at hi
    rcases hi with rfl | hi
    · exact ⟨Nat.le_refl _, htn⟩
    · obtain ⟨r, hr, rfl⟩ := (hmem i).1 hi
      have := hin r hr
      omega
  · simp only [List.flatten_cons, List.flatten_nil, List.append_nil, List.singleton_append, List.mem_cons]
    rcases hall id a b c with e | e
    · exact Or.inl e
    · exact Or.inr ((hmem id).2 e)
end
def sMore : List UInt8 := [109, 111, 114, 101]
theorem more_ok : okB sMore = true := by decide
theorem more_no {r : Rec} {k : Nat} (h : r ∈ xsR k) : r.s ≠ sMore := by
  obtain ⟨j, hj, rfl⟩ := xsR_mem h
  exact fun e => absurd (List.cons.inj e).1 (by decide)
section
variable {fb hb xb N dd lim k : Nat} {kd : Nat -> Nat} {w0 w w' : World}
theorem in_fullMake (h : GnS fb hb xb N dd (inP dd k) (inK kd k) (inT (xsR k)) lim w0 w) (hkd : KdsOk kd k) (hk : k + 1 = N) (hN : N <= 60) :
    Calls Tryz.prog 27 #[ptr fb, .string ⟨#[47, 109, 111, 114, 101]⟩] w fun e w' => ∃ ev, e = .returned ev /\ ErN ⟨#[109, 97, 107, 101]⟩ ⟨#[47, 109, 111, 114, 101]⟩ 16 ev w' /\ GnS fb hb xb N dd (inP dd k) (inK kd k) (inT (xsR k)) lim w0 w' :=
  h.told (fun E D f hR hp hz => fMake_err (path := 47 :: sMore) (create_full hz (path := 47 :: sMore) (l := []) (s := sMore) (kind := 1) (by decide) (split_one more_ok) (p := 1) (by simp [dirT, walkT, inK]) (by rw [inT_one]; exact lookN fun r hr => more_no hr) (by rw [inT_one, xsR_len]; omega) (fun i a b => hkd.used a (by have := hR.tn; omega))))
theorem in_fullPut (h : GnS fb hb xb N dd (inP dd k) (inK kd k) (inT (xsR k)) lim w0 w) (hkd : KdsOk kd k) (hk : k + 1 = N) (hN : N <= 60) :
    Calls Tryz.prog 10 #[ptr fb, .string ⟨#[47, 109, 111, 114, 101]⟩, .slice none 0 0] w fun e w' => ∃ ev, e = .returned ev /\ ErN ⟨#[112, 117, 116]⟩ ⟨#[47, 109, 111, 114, 101]⟩ 16 ev w' /\ GnS fb hb xb N dd (inP dd k) (inK kd k) (inT (xsR k)) lim w0 w' :=
  h.told (fun E D f hR hp hz => fPut_err (path := 47 :: sMore) (put_full hz (path := 47 :: sMore) (l := []) (s := sMore) (by decide) (split_one more_ok) (zs := []) ⟨none, 0, rfl⟩ (by simp) false (p := 1) (by simp [dirT, walkT, inK]) (by rw [inT_one]; exact lookN fun r hr => more_no hr) (by rw [inT_one, xsR_len]; omega) (fun i a b => hkd.used a (by have := hR.tn; omega))))
theorem in_room (h : GnS fb hb xb N dd (inP dd k) (inK kd k) (inT (xsR k)) lim w0 w) (hkd : KdsOk kd k) (hk : k + 1 = N) (hlim : lim <= 300000000) :
    Calls Tryz.prog 8 #[ptr fb] w fun e w' => (∃ f : Nat, e = .returned (.tuple #[rmV f 0 0 dd, .nilIface])) /\ GnS fb hb xb N dd (inP dd k) (inK kd k) (inT (xsR k)) (lim + 1000) w0 w' :=
  h.step (R := fun e _ => ∃ f : Nat, e = .returned (.tuple #[rmV f 0 0 dd, .nilIface])) (fun E D f hR hp hz => (fRoom_ok hz hlim).mono fun e w' ⟨he, hz', hT⟩ => ⟨⟨f, by
    rw [he, cntN_none fun i a b => hkd.used a (by have := hR.tn; omega), hR.k]
    rfl⟩, ⟨D, f, hp, hz'⟩, hT⟩)
def inL (m : Nat) : List Rec := dropR (xsR (m + 1)) 2
theorem inL_mem {m : Nat} (h3 : 2 <= m) (hm : m < 110) {r : Rec} : r ∈ inL m <-> ∃ j, j <= m /\ j ≠ 2 /\ r = ⟨nmP 120 (j + 1), j + 2⟩ := by
  rw [inL, mem_dropR (xsR_nodup (by omega)) (xsR_get (by omega))]
  constructor
  · rintro ⟨h1, h2⟩
    obtain ⟨j, hj, rfl⟩ := xsR_mem h1
    exact ⟨j, by omega, fun e => h2 (by rw [e]), rfl⟩
  · rintro ⟨j, hj, hne, rfl⟩
    refine ⟨List.mem_of_getElem? (xsR_get (by omega)), fun e => hne ?_⟩
    have := nm_inj (c := 120) (i := j + 1) (j := 2 + 1) (by omega) (by omega) e
    omega
theorem inL_len {m : Nat} (h3 : 2 <= m) : (inL m).length = m := by rw [inL, dropR_len (by rw [xsR_len]; omega), xsR_len]; omega
theorem in_rm3 {m : Nat} (h : GnS fb hb xb N dd (inP dd (m + 1)) (inK kd (m + 1)) (inT (xsR (m + 1))) lim w0 w) (hkd : KdsOk kd (m + 1)) (h3 : 2 <= m) (hm : m <= 60) (hlim : lim <= 300000000) :
    Calls Tryz.prog 37 #[ptr fb, .string (mkB (47 :: nmP 120 3))] w fun e w' => e = .returned .nilIface /\ GnS fb hb xb N dd (fun _ f => f + bkL m = dd) (upd (inK kd (m + 1)) 4 0) (inT (inL m)) (lim + 1000) w0 w' :=
  in_drop (P' := fun _ f => f + bkL m = dd) (id := 4) (i := 2) (m := m) h (nm_okB (by omega)) (xsR_get (by omega)) (xsR_len _) hm (by omega) (by simp [inK]) (by unfold inK; rw [if_neg (by omega), if_pos (by omega)]; exact hkd _ (by omega) (by omega)) (fun r hr => by
    obtain ⟨j, hj, hne, rfl⟩ := (inL_mem h3 (by omega)).1 hr
    show j + 2 ≠ 4
    omega) (fun D f hp => hp.2 _ (by omega) (by omega)) (fun D f f' hp hf => by have := hp.1; omega) hlim
theorem in_more {m : Nat} (h : GnS fb hb xb N dd (fun _ f => f + bkL m = dd) (upd (inK kd (m + 1)) 4 0) (inT (inL m)) lim w0 w) (hkd : KdsOk kd (m + 1)) (h3 : 2 <= m) (hm : m <= 60) (hN : 4 <= N) (hdd : 74 <= dd) (hlim : lim <= 300000000) :
    Calls Tryz.prog 34 #[ptr fb, .string (mkB (47 :: sMore)), .int .i64 ((2 : Nat) : Int)] w fun e w' => e = .returned .nilIface /\ GnS fb hb xb N dd (fun _ _ => True) (upd (upd (inK kd (m + 1)) 4 0) 4 2) (inT (inL m ++ [⟨sMore, 4⟩])) (lim + 1000) w0 w' :=
  in_make (P' := fun _ _ => True) (Or.inr rfl) h more_ok (fun r hr => by
    obtain ⟨j, hj, hne, rfl⟩ := (inL_mem h3 (by omega)).1 hr
    exact fun e => absurd (List.cons.inj e).1 (by decide)) (inL_len h3) hm (by omega) hN (by simp [upd_other, inK]) (upd_same _ _ _) (fun i a b => by rw [upd_other _ _ (by omega)]; exact hkd.used a (by omega)) (fun D f hp => by omega) (fun D f f' hp hD hf => trivial) hlim
theorem in_check {m : Nat} (h : GnS fb hb xb N dd (fun _ _ => True) (upd (upd (inK kd (m + 1)) 4 0) 4 2) (inT (inL m ++ [⟨sMore, 4⟩])) lim w0 w) (h3 : 2 <= m) (hm : m <= 60) (hmN : m + 2 = N) (hdd : dd <= 500) (hlim : lim <= 300000000) :
    Calls Tryz.prog 16 #[ptr fb] w fun e w' => e = .returned .nilIface /\ GnS fb hb xb N dd (fun _ _ => True) (upd (upd (inK kd (m + 1)) 4 0) 4 2) (inT (inL m ++ [⟨sMore, 4⟩])) (lim + 1000) w0 w' := by
  have hmem : ∀ r, r ∈ inL m ++ [(⟨sMore, 4⟩ : Rec)] <-> (∃ j, j <= m /\ j ≠ 2 /\ r = ⟨nmP 120 (j + 1), j + 2⟩) \/ r = ⟨sMore, 4⟩ := fun r => by rw [List.mem_append, inL_mem h3 (by omega), List.mem_singleton]
  have hgood : (inL m).map Rec.s |>.Nodup := by
    have hs : ((xsR (m + 1)).map Rec.s).Nodup := xsR_nodup (by omega)
    exact (GoodL.drop (L := xsR (m + 1)) ⟨fun r hr => by
      obtain ⟨j, hj, rfl⟩ := xsR_mem hr
      exact ⟨nm_okB (by omega), by show 1 <= j + 2; omega, by show j + 2 < 4294967296; omega⟩, hs⟩ (i := 2) (by rw [xsR_len]; omega)).nodup
  have hS : Sound (upd (upd (inK kd (m + 1)) 4 0) 4 2) (inT (inL m ++ [⟨sMore, 4⟩])) N [[1], kidsT (upd (upd (inK kd (m + 1)) 4 0) 4 2) (inT (inL m ++ [⟨sMore, 4⟩])) 1] := by
    refine sound_root (L := inL m ++ [⟨sMore, 4⟩]) (by omega) (by simp [upd_other, inK]) (inT_one _) ?_ ?_ (by simp) (fun r hr => ?_) (fun r hr => ?_) (fun id a b c => ?_)
    · rw [List.map_append, List.nodup_append]
      refine ⟨hgood, by simp, fun a ha b hb => ?_⟩
      obtain ⟨r, hr, rfl⟩ := List.mem_map.1 ha
      obtain ⟨j, hj, hne, rfl⟩ := (inL_mem h3 (by omega)).1 hr
      simp only [List.map_cons, List.map_nil, List.mem_singleton] at hb
      subst hb
      exact fun e => absurd (List.cons.inj e).1 (by decide)
    · have hx : (inL m).map Rec.id |>.Nodup := by
        refine List.pairwise_map.2 (List.Pairwise.imp_of_mem ?_ (List.pairwise_map.1 hgood))
        intro a b ha hb hne e
        obtain ⟨i, hi, -, rfl⟩ := (inL_mem h3 (by omega)).1 ha
        obtain ⟨j, hj, -, rfl⟩ := (inL_mem h3 (by omega)).1 hb
        have e' : i + 2 = j + 2 := e
        obtain rfl : i = j := by omega
        exact hne rfl
      rw [List.map_append, List.nodup_append]
      refine ⟨hx, by simp, fun a ha b hb => ?_⟩
      obtain ⟨r, hr, rfl⟩ := List.mem_map.1 ha
      obtain ⟨j, hj, hne, rfl⟩ := (inL_mem h3 (by omega)).1 hr
      simp only [List.map_cons, List.map_nil, List.mem_singleton] at hb
      subst hb
      show j + 2 ≠ 4
      omega
    · rcases (hmem r).1 hr with ⟨j, hj, -, rfl⟩ | rfl
      · show 2 <= j + 2 /\ j + 2 <= N
        omega
      · show 2 <= 4 /\ 4 <= N
        omega
    · rcases (hmem r).1 hr with ⟨j, hj, -, rfl⟩ | rfl
      · exact inT_not (by show j + 2 ≠ 1; omega)
      · exact inT_not (by decide)
    · by_cases e1 : id = 1
      · exact Or.inl e1
      · refine Or.inr ?_
        by_cases e4 : id = 4
        · exact ⟨⟨sMore, 4⟩, (hmem _).2 (Or.inr rfl), e4.symm⟩
        · exact ⟨⟨nmP 120 (id - 2 + 1), id - 2 + 2⟩, (hmem _).2 (Or.inl ⟨id - 2, by omega, by omega, rfl⟩), by show id - 2 + 2 = id; omega⟩
  exact h.step (R := fun e _ => e = .returned .nilIface) (fun E D f hR hp hz => (fCheck_ok hz (by rw [hR.tn]; exact hS) (by rw [hR.k]; exact hdd) hlim).mono fun e w' ⟨he, hz', hT⟩ => ⟨he, ⟨D, f, trivial, hz'⟩, hT⟩)
end
section
variable {K : Nat -> Nat} {D : Nat -> List Int} {T : Nat -> List Rec} {tn : Nat}
theorem kids_perm {x : Nat} (hk : K x = 2) (hL : ((T x).map Rec.s).Nodup) : (kidsT K T x).Perm ((T x).map Rec.id) := by
  unfold kidsT
  rw [if_pos hk]
  have h1 : (namesT T x).Perm ((T x).map Rec.s) := by unfold namesT; exact List.mergeSort_perm _ _
  have h2 := h1.map (idT (T x))
  rw [List.map_map] at h2
  exact h2.trans (List.Perm.of_eq (List.map_congr_left fun r hr => idT_at hL hr))
def lvT (K : Nat -> Nat) (T : Nat -> List Rec) (x : Nat) : Nat -> List Nat
  | 0 => [x]
  | j + 1 => (lvT K T x j).flatMap (kidsT K T)
structure RankT (K : Nat -> Nat) (T : Nat -> List Rec) (tn : Nat) (rk : Nat -> Nat) : Prop where
  root : rk 1 = 0
  up : ∀ q, 1 <= q -> q <= tn -> K q = 2 -> ∀ r ∈ T q, rk r.id = rk q + 1
  few : ∀ q, 1 <= q -> q <= tn -> K q ≠ 0 -> rk q <= 6
  own : ∀ q, 1 <= q -> q <= tn -> K q = 2 -> ((T q).map Rec.id).Nodup
  one : ∀ q q', 1 <= q -> q <= tn -> K q = 2 -> 1 <= q' -> q' <= tn -> K q' = 2 -> ∀ r ∈ T q, ∀ r' ∈ T q', r.id = r'.id -> q = q'
  all : ∀ x, 1 <= x -> x <= tn -> K x ≠ 0 -> x ≠ 1 -> ∃ q, 1 <= q /\ q <= tn /\ K q = 2 /\ ∃ r ∈ T q, r.id = x
variable {rk : Nat -> Nat}
theorem kids_mem (ht : TreeOk tn K D T) {q y : Nat} (q1 : 1 <= q) (q2 : q <= tn) : y ∈ kidsT K T q <-> K q = 2 /\ ∃ r ∈ T q, r.id = y := by
  by_cases hk : K q = 2
  · rw [(kids_perm hk (ht.recs q q1 q2 hk).2.nodup).mem_iff, List.mem_map]
    exact ⟨fun h => ⟨hk, h⟩, fun h => h.2⟩
  · unfold kidsT
    rw [if_neg hk]
    exact ⟨fun h => by simp at h, fun h => absurd h.1 hk⟩
theorem lv_in (ht : TreeOk tn K D T) (m : RankT K T tn rk) {x : Nat} (x1 : 1 <= x) (x2 : x <= tn) (x3 : K x ≠ 0) : ∀ j y, y ∈ lvT K T x j -> 1 <= y /\ y <= tn /\ K y ≠ 0 /\ rk y = rk x + j
  | 0, y, h => by
    obtain rfl : y = x := by simpa [lvT] using h
    exact ⟨x1, x2, x3, rfl⟩
  | j + 1, y, h => by
    obtain ⟨q, hq, hy⟩ := List.mem_flatMap.1 h
    obtain ⟨q1, q2, q3, q4⟩ := lv_in ht m x1 x2 x3 j q hq
    obtain ⟨hk, r, hr, rfl⟩ := (kids_mem ht q1 q2).1 hy
    obtain ⟨u1, u2⟩ := ht.used q q1 q2 hk r hr
    exact ⟨((ht.recs q q1 q2 hk).2.each r hr).lo, u1, u2, by rw [m.up q q1 q2 hk r hr, q4]; omega⟩
theorem lv_all (ht : TreeOk tn K D T) (m : RankT K T tn rk) : ∀ n x, 1 <= x -> x <= tn -> K x ≠ 0 -> rk x = n -> x ∈ lvT K T 1 n
  | 0, x, x1, x2, x3, hx => by
    by_cases e : x = 1
    · simp [lvT, e]
    · obtain ⟨q, q1, q2, hk, r, hr, rfl⟩ := m.all x x1 x2 x3 e
      have := m.up q q1 q2 hk r hr
      omega
  | n + 1, x, x1, x2, x3, hx => by
    have e : x ≠ 1 := fun e => by rw [e, m.root] at hx; omega
    obtain ⟨q, q1, q2, hk, r, hr, rfl⟩ := m.all x x1 x2 x3 e
    have hu := m.up q q1 q2 hk r hr
    exact List.mem_flatMap.2 ⟨q, lv_all ht m n q q1 q2 (by rw [hk]; decide) (by omega), (kids_mem ht q1 q2).2 ⟨hk, r, hr, rfl⟩⟩
theorem lv_nodup (ht : TreeOk tn K D T) (m : RankT K T tn rk) {x : Nat} (x1 : 1 <= x) (x2 : x <= tn) (x3 : K x ≠ 0) : ∀ j, (lvT K T x j).Nodup
  | 0 => by simp [lvT]
  | j + 1 => by
    refine List.pairwise_flatMap.2 ⟨fun q hq => ?_, List.Pairwise.imp_of_mem (fun {a b} ha hb hne y hy z hz e => ?_) (lv_nodup ht m x1 x2 x3 j)⟩
    · obtain ⟨q1, q2, -, -⟩ := lv_in ht m x1 x2 x3 j q hq
      by_cases hk : K q = 2
      · exact (kids_perm hk (ht.recs q q1 q2 hk).2.nodup).nodup_iff.2 (m.own q q1 q2 hk)
      · unfold kidsT
        rw [if_neg hk]
        exact List.Pairwise.nil
    · obtain ⟨a1, a2, -, -⟩ := lv_in ht m x1 x2 x3 j a ha
      obtain ⟨b1, b2, -, -⟩ := lv_in ht m x1 x2 x3 j b hb
      obtain ⟨ka, r, hr, rfl⟩ := (kids_mem ht a1 a2).1 hy
      obtain ⟨kb, r', hr', e'⟩ := (kids_mem ht b1 b2).1 hz
      exact hne (m.one a b a1 a2 ka b1 b2 kb r hr r' hr' (by rw [e', e]))
theorem lv_up {x j : Nat} (h : lvT K T x j = []) : lvT K T x (j + 1) = [] := by
  show (lvT K T x j).flatMap _ = []
  rw [h]
  rfl
theorem lv_ups {x j i : Nat} (h : lvT K T x j = []) (hi : j <= i) : lvT K T x i = [] := by
  obtain ⟨d, rfl⟩ : ∃ d, i = j + d := ⟨i - j, by omega⟩
  induction d with
  | zero => exact h
  | succ d ih => exact lv_up (ih (by omega))
theorem lv_last {x : Nat} : ∀ n, lvT K T x (n + 1) = [] -> ∃ J, J <= n /\ lvT K T x (J + 1) = [] /\ ∀ j, j <= J -> lvT K T x j ≠ []
  | 0, h => ⟨0, Nat.le_refl _, h, fun j hj => by obtain rfl : j = 0 := by omega
                                                 simp [lvT]⟩
  | n + 1, h => by
    by_cases e : lvT K T x (n + 1) = []
    · obtain ⟨J, h1, h2, h3⟩ := lv_last n e
      exact ⟨J, by omega, h2, h3⟩
    · exact ⟨n + 1, Nat.le_refl _, h, fun j hj e' => e (lv_ups e' hj)⟩
theorem lv_mem {x J y : Nat} : y ∈ ((List.range (J + 1)).map (lvT K T x)).flatten <-> ∃ j, j <= J /\ y ∈ lvT K T x j := by
  rw [List.mem_flatten]
  constructor
  · rintro ⟨l, hl, hx⟩
    obtain ⟨j, hj, rfl⟩ := List.mem_map.1 hl
    exact ⟨j, by have := List.mem_range.1 hj; omega, hx⟩
  · rintro ⟨j, hj, hx⟩
    exact ⟨_, List.mem_map.2 ⟨j, List.mem_range.2 (by omega), rfl⟩, hx⟩
theorem lvok_rank (ht : TreeOk tn K D T) (m : RankT K T tn rk) {x J : Nat} (x1 : 1 <= x) (x2 : x <= tn) (x3 : K x ≠ 0) (hnil : lvT K T x (J + 1) = []) (hne : ∀ j, j <= J -> lvT K T x j ≠ []) : LvOk K T tn x ((List.range (J + 1)).map (lvT K T x)) := by
  have hget : ∀ j, ((List.range (J + 1)).map (lvT K T x))[j]? = if j <= J then some (lvT K T x j) else none := fun j => by
    by_cases e : j <= J
    · rw [if_pos e, List.getElem?_map, List.getElem?_range (by omega)]
      rfl
    · rw [if_neg e]
      exact List.getElem?_eq_none (by simp; omega)
  refine ⟨by rw [hget, if_pos (Nat.zero_le _)]; rfl, fun j l hl => ?_, ?_, fun y hy => ?_⟩
  · rw [hget] at hl
    by_cases e : j <= J
    · rw [if_pos e] at hl
      obtain rfl := Option.some.inj hl
      refine ⟨hne j e, ?_⟩
      show lvT K T x (j + 1) = _
      rw [hget]
      by_cases e' : j + 1 <= J
      · rw [if_pos e']; rfl
      · rw [if_neg e']
        obtain rfl : j = J := by omega
        exact hnil
    · rw [if_neg e] at hl; cases hl
  · rw [<- List.flatMap_def]
    refine List.pairwise_flatMap.2 ⟨fun j _ => lv_nodup ht m x1 x2 x3 j, List.Pairwise.imp (fun {a b} hab y hy z hz e => ?_) (List.nodup_range (n := J + 1))⟩
    have h1 := (lv_in ht m x1 x2 x3 a y hy).2.2.2
    have h2 := (lv_in ht m x1 x2 x3 b z hz).2.2.2
    rw [e] at h1
    exact hab (by omega)
  · obtain ⟨j, hj, hy⟩ := lv_mem.1 hy
    have := lv_in ht m x1 x2 x3 j y hy
    exact ⟨this.1, this.2.1⟩
theorem sound_rank (ht : TreeOk tn K D T) (htn : 1 <= tn) (m : RankT K T tn rk) : ∃ lv, Sound K T tn lv := by
  have k1 : K 1 ≠ 0 := by rw [ht.root]; decide
  have h7 : lvT K T 1 (6 + 1) = [] := List.eq_nil_iff_forall_not_mem.2 fun x hx => by
    obtain ⟨x1, x2, x3, x4⟩ := lv_in ht m (Nat.le_refl _) htn k1 7 x hx
    have := m.few x x1 x2 x3
    have := m.root
    omega
  obtain ⟨J, hJ, hnil, hne⟩ := lv_last 6 h7
  refine ⟨(List.range (J + 1)).map (lvT K T 1), lvok_rank ht m (Nat.le_refl _) htn k1 hnil hne, by simp; omega, fun x x1 x2 x3 => ?_⟩
  have hx := lv_all ht m (rk x) x x1 x2 x3 rfl
  refine lv_mem.2 ⟨rk x, ?_, hx⟩
  rcases Nat.lt_or_ge J (rk x) with h | h
  · rw [lv_ups hnil h] at hx
    simp at hx
  · exact h
end
end Go.Proofs.YtpofmiecjkghgaaGreatDoor
