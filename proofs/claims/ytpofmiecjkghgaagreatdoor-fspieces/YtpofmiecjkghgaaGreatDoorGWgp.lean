/- put, by its step. -/
import Derived.Test.YtpofmiecjkghgaaGreatDoorGWep
namespace Go.Proofs.YtpofmiecjkghgaaGreatDoor
open Go.RowKit Go.Extern.Stop Go.Stop Go.Extern Go.Maps Go.Sort Go.Shelf
set_option maxRecDepth 100000
set_option maxHeartbeats 4000000
section
variable {fb rs hb : Nat} {E : TE} {w w' : World} {K : Nat -> Nat} {D : Nat -> List Int} {T : Nat -> List Rec} {f u lim : Nat}
theorem put_via {path s : List UInt8} {l : List (List UInt8)} {bv : Value} {zs : List Int} {all : Bool} {Q : Value -> World -> Prop} (hlen : path.length <= 2000) (hp : splitB path = some (l ++ [s])) (hbv : ∃ a c, bv = .slice a zs.length c) (hz : zs.length <= 4000)
    (kS : ∀ (wx : World) (b0 b1 b2 b3 b4 : Nat) (up : Value), Below w.heap.size w wx -> PBox b0 b1 b2 b3 b4 fb up bv s all wx -> TxtsAt wx up l -> Calls Tryz.prog 54 #[ptr fb, .func (.func 63) #[] #[ptr b0, ptr b1, ptr b2, ptr b3, ptr b4]] wx fun e w' => ∃ ev, e = .returned ev /\ Q ev w') :
    Calls Tryz.prog 35 #[ptr fb, .string (mkB path), bv, .bool all] w fun e w' => ∃ ev, e = .returned ev /\ Q ev w' := by
  have hmf : ∀ (fn : Fn) (first cap : Array Value) (w : World), (Instr.makeFunc fn first cap).run Tryz.prog w = .ok (.func fn first cap) w := fun _ _ _ _ => rfl
  obtain ⟨ba, bc, rfl⟩ := hbv
  obtain ⟨w3, hw3, hB3, g0, g3, g4, hs3⟩ : ∃ w3, ((w.alloc (Obj.cells #[ptr fb] 31)).alloc (Obj.cells #[.slice ba zs.length bc] 38)).alloc (Obj.cells #[.bool all] 4) = w3 /\ Below w.heap.size w w3 /\ w3.cell? ⟨w.heap.size, 0, none⟩ = some (ptr fb) /\ w3.cell? ⟨w.heap.size + 1, 0, none⟩ = some (.slice ba zs.length bc) /\ w3.cell? ⟨w.heap.size + 1 + 1, 0, none⟩ = some (.bool all) /\ w3.heap.size = w.heap.size + 3 := by
    have up : ∀ (W : World) (o : Obj) (p : Addr) (v : Value), W.cell? p = some v -> (W.alloc o).cell? p = some v := fun W o p v h => (((Below.refl W.heap.size W).alloc (Nat.le_refl _) o).cell (lt_of_cell h)).trans h
    generalize e1 : w.alloc (Obj.cells #[ptr fb] 31) = W1
    have a1 : W1.cell? ⟨w.heap.size, 0, none⟩ = some (ptr fb) := by rw [<- e1]; simp
    have s1 : W1.heap.size = w.heap.size + 1 := by rw [<- e1]; simp
    have b1 : Below w.heap.size w W1 := by rw [<- e1]; exact (Below.refl _ _).alloc (Nat.le_refl _) _
    generalize e2 : W1.alloc (Obj.cells #[.slice ba zs.length bc] 38) = W2
    have a2 : W2.cell? ⟨w.heap.size + 1, 0, none⟩ = some (.slice ba zs.length bc) := by rw [<- e2, <- s1]; simp
    have s2 : W2.heap.size = w.heap.size + 2 := by rw [<- e2]; simp [s1]
    have b2 : Below w.heap.size w W2 := by rw [<- e2]; exact b1.alloc (by omega) _
    have a12 : W2.cell? ⟨w.heap.size, 0, none⟩ = some (ptr fb) := by rw [<- e2]; exact up _ _ _ _ a1
    exact ⟨_, rfl, b2.alloc (by omega) _, up _ _ _ _ a12, up _ _ _ _ a2, by rw [show w.heap.size + 1 + 1 = W2.heap.size by omega]; simp, by simp [s2]⟩
  have kA := hidden (apart_ok path hlen hp 13 w3)
  replace kS := hidden kS
  have hz4 : ¬ (4000 : Int) < (zs.length : Int) := by omega
  have hb3 := hidden hB3
  clear hB3
  generalize zs.length = ZL at *
  replace hw3 := hidden hw3
  go_enter Tryz.func35, Tryz.ntmps35
  go_upto_region 1 with fail
  rw [hw3.out]
  clear hw3
  go_wp2_with fail
  refine (kA.out).mono ?_
  rintro ev w4 ⟨up, rfl, hT, hB4⟩
  have hT4 := hT
  obtain ⟨ua, uc, rfl, -⟩ := hT
  have k0 := (hB4.cell (p := ⟨w.heap.size, 0, none⟩) (lt_of_cell (a := ⟨w.heap.size, 0, none⟩) g0)).trans g0
  have k3 := (hB4.cell (p := ⟨w.heap.size + 1, 0, none⟩) (lt_of_cell (a := ⟨w.heap.size + 1, 0, none⟩) g3)).trans g3
  have k4 := (hB4.cell (p := ⟨w.heap.size + 1 + 1, 0, none⟩) (lt_of_cell (a := ⟨w.heap.size + 1 + 1, 0, none⟩) g4)).trans g4
  obtain ⟨w6, hw6, hB6, n1, n2⟩ : ∃ w6, (w4.alloc (Obj.cells #[.slice ua l.length uc] 50)).alloc (Obj.cells #[.string (mkB s)] 9) = w6 /\ Below w4.heap.size w4 w6 /\ w6.cell? ⟨w4.heap.size, 0, none⟩ = some (.slice ua l.length uc) /\ w6.cell? ⟨w4.heap.size + 1, 0, none⟩ = some (.string (mkB s)) := by
    generalize e1 : w4.alloc (Obj.cells #[.slice ua l.length uc] 50) = W1
    have a1 : W1.cell? ⟨w4.heap.size, 0, none⟩ = some (.slice ua l.length uc) := by rw [<- e1]; simp
    have s1 : W1.heap.size = w4.heap.size + 1 := by rw [<- e1]; simp
    have b1 : Below w4.heap.size w4 W1 := by rw [<- e1]; exact (Below.refl _ _).alloc (Nat.le_refl _) _
    have hBx : Below W1.heap.size W1 (W1.alloc (Obj.cells #[.string (mkB s)] 9)) := (Below.refl _ _).alloc (Nat.le_refl _) _
    exact ⟨_, rfl, b1.trans (hBx.mono b1.size), (hBx.cell (p := ⟨w4.heap.size, 0, none⟩) (lt_of_cell a1)).trans a1, by rw [<- s1]; simp⟩
  have m0 := (hB6.cell (p := ⟨w.heap.size, 0, none⟩) (lt_of_cell (a := ⟨w.heap.size, 0, none⟩) k0)).trans k0
  have m3 := (hB6.cell (p := ⟨w.heap.size + 1, 0, none⟩) (lt_of_cell (a := ⟨w.heap.size + 1, 0, none⟩) k3)).trans k3
  have m4 := (hB6.cell (p := ⟨w.heap.size + 1 + 1, 0, none⟩) (lt_of_cell (a := ⟨w.heap.size + 1 + 1, 0, none⟩) k4)).trans k4
  have hb6 : Below w.heap.size w w6 := hb3.out.trans ((hB4.trans (hB6.mono hB4.size)).mono hb3.out.size)
  have kS6 := hidden (kS.out w6 w.heap.size w4.heap.size (w4.heap.size + 1) (w.heap.size + 1) (w.heap.size + 1 + 1) _ hb6 ⟨m0, n1, n2, m3, m4⟩ (hT4.below hB6))
  replace hw6 := hidden hw6
  clear hT4 hB4 hB6 hb6 kS kA g0 g3 g4 k0 k3 k4 hb3
  generalize l.length = LL at *
  go_upto_region 2 with fail
  rw [hw6.out]
  clear hw6
  go_wp2_with fail
  refine (kS6.out).mono ?_
  rintro ev w7 ⟨er, rfl, hQ⟩
  replace hQ := hidden hQ
  go_wp2
  go_ret
  exact ⟨er, rfl, hQ.out⟩
end
structure Fsz (fb rs hb : Nat) (E : TE) (K : Nat -> Nat) (D : Nat -> List Int) (T : Nat -> List Rec) (f lim : Nat) (w : World) : Prop where
  at_ : FsAt fb E rs hb w
  s : S8z E K D f 0 lim w
  pl : E.Pl
  far : FsAt.Far fb E
  tree : TreeOk E.tn K D T
def TE.Turns (E : TE) (fb : Nat) (w w' : World) : Prop := Apart [E.d, E.g, E.mb, fb] w w'
section
variable {fb rs hb : Nat} {E : TE} {w w' : World} {K : Nat -> Nat} {D : Nat -> List Int} {T : Nat -> List Rec} {f u lim : Nat}
theorem turns_of {wx w1 : World} (hx : Below w.heap.size w wx) (h1 : Apart [E.mb] wx w1) (h2 : Apart [E.d, E.g, E.mb] w1 w') : E.Turns fb w w' :=
  ((Apart.of_below hx).trans (h1.mono (fun x hx' _ => by simp only [List.mem_singleton] at hx'; subst hx'; simp))).trans (h2.mono (fun x hx' _ => by
    simp only [List.mem_cons, List.not_mem_nil, or_false] at hx'
    rcases hx' with rfl | rfl | rfl <;> simp))
theorem turns_err {wx w1 : World} (hx : Below w.heap.size w wx) (h1 : Below wx.heap.size wx w1) (h2 : Apart [E.mb, fb] w1 w') : E.Turns fb w w' :=
  ((Apart.of_below hx).trans (Apart.of_below h1)).trans (h2.mono (fun x hx' _ => by
    simp only [List.mem_cons, List.not_mem_nil, or_false] at hx'
    rcases hx' with rfl | rfl <;> simp))
theorem TreeOk.add {tn p id kind : Nat} {s : List UInt8} {zs : List Int} (ht : TreeOk tn K D T) (p1 : 1 <= p) (p2 : p <= tn) (hk : K p = 2) (h2 : id <= tn) (hid : K id = 0) (hkind : kind = 1) (hs : okB s = true) (h1 : 1 <= id) (htn : tn <= 200) (hno : lookT (T p) s = none) :
    TreeOk tn (upd K id kind) (upd (upd D p (recsL (T p ++ [⟨s, id⟩]))) id zs) (upd T p (T p ++ [⟨s, id⟩])) := by
  have hpi : p ≠ id := by rintro rfl; omega
  have h1i : (1 : Nat) ≠ id := by rintro rfl; have := ht.root; omega
  obtain ⟨hD, hG⟩ := ht.recs p p1 p2 hk
  refine ⟨by rw [upd_other _ _ h1i]; exact ht.root, fun q q1 q2 hq => ?_, fun q q1 q2 hq r hr => ?_⟩
  · have hqi : q ≠ id := by rintro rfl; rw [upd_same] at hq; omega
    rw [upd_other _ _ hqi] at hq
    rw [upd_other _ _ hqi]
    by_cases hqp : q = p
    · subst hqp
      rw [upd_same, upd_same]
      exact ⟨rfl, hG.put ⟨hs, h1, by show id < _; omega⟩ (lookT_none hno)⟩
    · rw [upd_other _ _ hqp, upd_other _ _ hqp]
      exact ht.recs q q1 q2 hq
  · have hqi : q ≠ id := by rintro rfl; rw [upd_same] at hq; omega
    rw [upd_other _ _ hqi] at hq
    have old : ∀ x : Rec, x.id <= tn -> K x.id ≠ 0 -> x.id <= tn /\ upd K id kind x.id ≠ 0 := fun x h h' => ⟨h, by rw [upd_other _ _ (by rintro e; rw [e] at h'; exact h' hid)]; exact h'⟩
    by_cases hqp : q = p
    · subst hqp
      rw [upd_same] at hr
      rcases List.mem_append.1 hr with hr | hr
      · have := ht.used q q1 q2 hq r hr
        exact old r this.1 this.2
      · obtain rfl := List.mem_singleton.1 hr
        exact ⟨h2, by show upd K id kind id ≠ 0; rw [upd_same]; omega⟩
    · rw [upd_other _ _ hqp] at hr
      have := ht.used q q1 q2 hq r hr
      exact old r this.1 this.2
theorem ent_fput1 : ∀ (args : Array Value) (w : World), (callFunc 63 args).run Tryz.prog w = .ok (.enter 63 args) w := enters_of Tryz.func63 (by kernel_rfl) rfl
theorem bkL_le {n : Nat} (h : n <= 120) : bkL n <= 31 := by
  have e := bkL_eq n
  unfold blk at e
  split at e <;> (try split at e) <;> (try split at e) <;> omega
theorem dirT_in {l : List (List UInt8)} {p tn : Nat} (ht : TreeOk tn K D T) (htn : 1 <= tn) (h : dirT K T l = .ok p) : 1 <= p /\ p <= tn /\ K p = 2 := by
  unfold dirT at h
  cases hw : walkT K T 1 l with
  | error m => rw [hw] at h; cases h
  | ok q =>
    rw [hw] at h
    have h' : (if K q = 2 then Except.ok q else Except.error (14 : Int)) = Except.ok p := h
    by_cases hk : K q = 2
    · rw [if_pos hk] at h'
      obtain rfl := Except.ok.inj h'
      have := walkT_in ht l 1 q (Nat.le_refl _) htn (by rw [ht.root]; decide) hw
      exact ⟨this.1, this.2.1, hk⟩
    · rw [if_neg hk] at h'; cases h'
theorem put_new (h : Fsz fb rs hb E K D T f lim w) {path s : List UInt8} {l : List (List UInt8)} (hlen : path.length <= 2000) (hp : splitB path = some (l ++ [s])) {bv : Value} {zs : List Int} (hbv : BytesC E.mb w bv zs) (hz : zs.length <= 4000) {p : Nat} (hd : dirT K T l = .ok p) (hno : lookT (T p) s = none) (hl : (T p).length < 120) {id : Nat} (h1 : 1 <= id) (h2 : id <= E.tn) (hfree : K id = 0) (hlow : ∀ i, 1 <= i -> i < id -> K i ≠ 0) (all : Bool) {gn bn : Nat} (hgn : growb ((32 * (T p).length : Nat) : Int) ((32 * ((T p).length + 1) : Nat) : Int) = (gn : Int)) (hbn : growb 0 (zs.length : Int) = (bn : Int)) (hmay : mayB (f : Int) (rs : Int) ((gn : Int) + (bn : Int)) all = true) (hlim : lim <= 300000000) :
    Calls Tryz.prog 35 #[ptr fb, .string (mkB path), bv, .bool all] w fun e w' => e = .returned .nilIface /\ (∃ f', f' + gn + bn = f /\ Fsz fb rs hb E.rest (upd K id 1) (upd (upd D p (recsL (T p ++ [⟨s, id⟩]))) id zs) (upd T p (T p ++ [⟨s, id⟩])) f' (lim + 1000) w') /\ E.Turns fb w w' := by
  have hpl := h.pl
  have htn1 := hpl.tn1
  obtain ⟨p1, p2, hk⟩ := dirT_in h.tree htn1 hd
  obtain ⟨hDp, hGp⟩ := h.tree.recs p p1 p2 hk
  have hD0 : D id = [] := h.s.to.noBytes h1 h2 hfree
  have hpi : p ≠ id := by rintro rfl; omega
  have hmp := may_all (split_may hp)
  have hl6 : l.length <= 6 := by have := hmp.1; rw [List.length_append] at this; omega
  have hlok : ∀ x ∈ l, okB x = true := fun x hx => hmp.2 x (List.mem_append.2 (Or.inl hx))
  have hsok : okB s = true := hmp.2 s (by simp)
  have hc : gn + bn <= f := by
    unfold mayB at hmay
    simp only [Bool.or_eq_true, Bool.and_eq_true, decide_eq_true_eq] at hmay
    omega
  have hrl : (D p).length = 32 * (T p).length := by rw [hDp, recsL_len hGp.each]
  have hsum : sumL D [p, id] = bkL (T p).length := by
    show (blk ((D p).length : Int)).toNat + ((blk ((D id).length : Int)).toNat + 0) = _
    rw [hrl, hD0]
    show bkL (T p).length + _ = _
    simp [blk]
  have hbound : bkL (T p).length + gn <= 31 := by
    have e0 := bkL_eq (T p).length
    have e1 := bkL_eq ((T p).length + 1)
    have e2 := bkL_le (n := (T p).length + 1) (by omega)
    have hup : blk ((32 * (T p).length : Nat) : Int) <= blk ((32 * ((T p).length + 1) : Nat) : Int) := blk_upD (by omega) (by omega) (by omega)
    unfold growb at hgn
    omega
  have hbl : (bn : Int) = blk (zs.length : Int) := by
    have := blk_range (zs.length : Int)
    have e : blk 0 = 0 := by simp [blk]
    unfold growb at hbn
    omega
  have hbn40 : bn <= 40 := by
    have : blk (zs.length : Int) <= 40 := by unfold blk; split <;> (try split) <;> (try split) <;> omega
    omega
  obtain ⟨A, U, ku, ok', -, hS'⟩ := h.s.re hpl [p, id] [p, id] (fun x hx => by simp at hx; rcases hx with rfl | rfl <;> omega) (fun x hx => by simp at hx; rcases hx with rfl | rfl <;> omega) (gn + bn) hc (by rw [hsum]; show 2 + 2 + _ + _ <= 87; omega)
  have hvE := hbv.at
  obtain ⟨ba, bc, rfl, -⟩ := hvE
  have hfar := h.far
  have hkk : E.kk = E.k := hpl.kk.symm
  refine (put_via (Q := fun ev w' => ev = .nilIface /\ (∃ f', f' + gn + bn = f /\ Fsz fb rs hb E.rest (upd K id 1) (upd (upd D p (recsL (T p ++ [⟨s, id⟩]))) id zs) (upd T p (T p ++ [⟨s, id⟩])) f' (lim + 1000) w') /\ E.Turns fb w w') hlen hp ⟨ba, bc, rfl⟩ hz (fun wx b0 b1 b2 b3 b4 up hx hbx hTx => ?_)).mono (fun e w' ⟨ev, h1, h2, h3⟩ => ⟨by rw [h1, h2], h3⟩)
  have hF' : FsAt fb (E.at A U (· ∈ [p, id]) (· ∈ [p, id]) ku) rs hb wx := (h.at_.below hx).at _ _ _ _ _
  have hSx := (hS'.more hx).to
  have kT := target_new hF' hSx ok' hkk h.tree htn1 hTx (by omega) hlok hd s hsok hno hl id h1 h2 hfree hlow (show id ∈ [p, id] by simp) (show p ∈ [p, id] by simp) (show p ∈ [p, id] by simp) zs.length all gn hgn (by omega) (by rw [hbn]; exact hmay)
  have kC := fput1_ok (Rel := fun f1 u1 => f1 + gn = f /\ gn + bn <= u1 + gn) (g := bn) (K1 := upd K id 1) (D1 := upd D p (recsL (T p ++ [⟨s, id⟩]))) hbx hF' hfar.1 hSx (hbv.keep (Apart.of_below (bs := [E.mb]) hx)) hz ok' h1 h2 (show id ∈ [p, id] by simp) (show id ∈ [p, id] by simp) (by rw [upd_same]; decide) (by rw [upd_other _ _ (Ne.symm hpi), hD0]; exact hbn) (fun f1 u1 hr => by omega) (kT.mono fun e w' ⟨q1, ⟨f1, u1, q2, q3, q4⟩, q5⟩ => ⟨q1, ⟨f1, u1, q2, q3, q4⟩, q5⟩)
  refine (step_ok (P := fun w1 => Apart [E.mb] wx w1) (K := upd K id 1) (D := upd (upd D p (recsL (T p ++ [⟨s, id⟩]))) id zs) (f := f - gn - bn) (u := 0) (lim := lim) ent_fput1 hF' hfar ok' hpl.far hpl.live (by show 1 <= E.most /\ E.most <= 200; rw [hpl.most]; omega) hlim (kC.mono ?_)).mono ?_
  · rintro e w1 ⟨rfl, ⟨f1, u1, f2, u2, ⟨r1, r2⟩, r3, r4, r5⟩, hA⟩
    have hf2 : f2 = f - gn - bn := by
      rw [upd_other _ _ (Ne.symm hpi), hD0] at r4
      have e : blk (([] : List Int).length : Int) = 0 := by simp [blk]
      rw [e] at r4
      omega
    rw [hf2] at r3
    exact ⟨rfl, hA, hF'.keep hA (fun hm => hfar.1 (List.mem_singleton.1 hm)), r3.low (Nat.zero_le _)⟩
  · rintro e w2 ⟨rfl, w1, hA1, hF2, hS2, hA2⟩
    refine ⟨_, rfl, rfl, ⟨f - gn - bn, by omega, ⟨⟨hF2.c0, hF2.c1, hF2.c2, hF2.c3, hF2.c4, hF2.c5, hF2.c6, hF2.c7, hF2.f7⟩, hS2.rest, hpl.at _ _ _ _ _, hfar, h.tree.add p1 p2 hk h2 hfree rfl hsok h1 hpl.tn hno⟩⟩, ?_⟩
    exact turns_of hx hA1 hA2
end
section
variable {fb rs hb : Nat} {E : TE} {w w' : World} {K : Nat -> Nat} {D : Nat -> List Int} {T : Nat -> List Rec} {f u lim : Nat}
theorem TreeOk.bytes {tn id : Nat} {zs : List Int} (ht : TreeOk tn K D T) (hk : K id ≠ 2) : TreeOk tn K (upd D id zs) T :=
  ⟨ht.root, fun q q1 q2 hq => by rw [upd_other _ _ (by rintro rfl; exact hk hq)]; exact ht.recs q q1 q2 hq, ht.used⟩
theorem Fsz.rest (h : Fsz fb rs hb E K D T f lim w) : Fsz fb rs hb E.rest K D T f lim w := ⟨⟨h.at_.c0, h.at_.c1, h.at_.c2, h.at_.c3, h.at_.c4, h.at_.c5, h.at_.c6, h.at_.c7, h.at_.f7⟩, h.s.rest, h.pl.at _ _ _ _ _, h.far, h.tree⟩
end
section
variable {fb rs hb : Nat} {E : TE} {w w' : World} {K : Nat -> Nat} {D : Nat -> List Int} {T : Nat -> List Rec} {f u lim : Nat}
def Refused (fb rs hb : Nat) (E : TE) (K : Nat -> Nat) (D : Nat -> List Int) (T : Nat -> List Rec) (f lim : Nat) (m : Int) (w : World) (ev : Value) (w' : World) : Prop :=
  (∃ ll, Chain w' ll (num m) ev) /\ Fsz fb rs hb E.rest K D T f lim w' /\ E.Turns fb w w'
theorem Fsz.below (h : Fsz fb rs hb E K D T f lim w) (hB : Below w.heap.size w w') : Fsz fb rs hb E K D T f lim w' := ⟨h.at_.below hB, h.s.more hB, h.pl, h.far, h.tree⟩
end
structure ABox (b0 b1 b2 fb : Nat) (names dv : Value) (w : World) : Prop where
  c0 : w.cell? ⟨b0, 0, none⟩ = some (ptr fb)
  c1 : w.cell? ⟨b1, 0, none⟩ = some names
  c2 : w.cell? ⟨b2, 0, none⟩ = some dv
section
variable {fb rs hb : Nat} {E : TE} {w w' : World} {K : Nat -> Nat} {D : Nat -> List Int} {T : Nat -> List Rec} {f u lim : Nat}
theorem at1_no {b0 b1 b2 : Nat} {names dv : Value} (hB : ABox b0 b1 b2 fb names dv w) {m : Int} (hF : FsAt fb E rs hb w) (h : S8 E K D f u lim w) (ok : E.Ok) (ht : TreeOk E.tn K D T) (htn : 1 <= E.tn) {l : List (List UInt8)} (hv : TxtsAt w names l) (hl : l.length <= 1000) (hok : ∀ s ∈ l, okB s = true) (hm : walkT K T 1 l = .error m) :
    Calls Tryz.prog 126 #[ptr b0, ptr b1, ptr b2] w fun e w' => ∃ ll ev, e = .returned ev /\ Chain w' ll (num m) ev /\ Below w.heap.size w w' := by
  have kW := hidden (fwalk_calls hF h ok ht htn hv hl hok)
  have c0 := hB.c0
  have c1 := hB.c1
  replace hm := hidden hm
  obtain ⟨a, cap, rfl, -⟩ := hv
  clear hB hF h ok ht hok
  generalize l.length = LL at *
  go_enter Tryz.func126, Tryz.ntmps126
  go_wp2_with fail
  refine (kW.out).mono ?_
  rintro ev w1 ⟨(⟨q, hq, -⟩ | ⟨m', bk, nm, hq, -, rfl, hc⟩), hB1⟩
  · rw [hm.out] at hq; cases hq
  obtain rfl : m = m' := by rw [hm.out] at hq; exact Except.error.inj hq
  have hBa : Below w1.heap.size w1 (w1.alloc (Obj.cells #[.int .i64 0, .int .i64 0] 105)) := (Below.refl _ _).alloc (Nat.le_refl _) _
  have hE := hidden (And.intro (Chain.below hBa _ _ _ hc) (hB1.trans (hBa.mono hB1.size)))
  clear hc hB1 hBa kW hq
  go_wp2
  go_ret
  exact ⟨_, _, rfl, hE.out⟩
theorem at1_ok {b0 b1 b2 c0 c1 : Nat} {fc : FuncId} (hent : ∀ (args : Array Value) (w : World), (callFunc fc args).run Tryz.prog w = .ok (.enter fc args) w) {names : Value} (hB : ABox b0 b1 b2 fb names (.func (.func fc) #[] #[ptr c0, ptr c1]) w) {q : Nat} (hF : FsAt fb E rs hb w) (h : S8 E K D f u lim w) (ok : E.Ok) (ht : TreeOk E.tn K D T) (htn : 1 <= E.tn) {l : List (List UInt8)} (hv : TxtsAt w names l) (hl : l.length <= 1000) (hok : ∀ s ∈ l, okB s = true) (hq0 : walkT K T 1 l = .ok q) {Q : Value -> World -> Prop}
    (kD : ∀ wx, Below w.heap.size w wx -> Calls Tryz.prog fc #[fnV (q : Nat) (K q : Nat), ptr c0, ptr c1] wx fun e w' => ∃ ev, e = .returned ev /\ Q ev w') :
    Calls Tryz.prog 126 #[ptr b0, ptr b1, ptr b2] w fun e w' => ∃ ev, e = .returned ev /\ Q ev w' := by
  have kW := hidden (fwalk_calls hF h ok ht htn hv hl hok)
  have d0 := hB.c0
  have d1 := hB.c1
  have d2 := hB.c2
  replace hq0 := hidden hq0
  replace kD := hidden kD
  obtain ⟨a, cap, rfl, -⟩ := hv
  clear hB hF h ok ht hok
  generalize l.length = LL at *
  go_enter Tryz.func126, Tryz.ntmps126
  go_wp2_with fail
  refine (kW.out).mono ?_
  rintro ev w1 ⟨(⟨q', hq, rfl⟩ | ⟨m', bk, nm, hq, -⟩), hB1⟩
  rotate_left
  · rw [hq0.out] at hq; cases hq
  obtain rfl : q = q' := by rw [hq0.out] at hq; exact Except.ok.inj hq
  obtain ⟨w2, hw2, hB2, hN2⟩ : ∃ w2, w1.alloc (Obj.cells #[.int .i64 (q : Nat), .int .i64 (K q : Nat)] 105) = w2 /\ Below w1.heap.size w1 w2 /\ FnAt w2 w1.heap.size (q : Nat) (K q : Nat) := ⟨_, rfl, (Below.refl _ _).alloc (Nat.le_refl _) _, fn_new _ _ _⟩
  have hb2 : Below w.heap.size w w2 := hB1.trans (hB2.mono hB1.size)
  have e2 := (hb2.cell (p := ⟨b2, 0, none⟩) (lt_of_cell (a := ⟨b2, 0, none⟩) d2)).trans d2
  have n0 := hN2.c0
  have n1 := hN2.c1
  have hlN := hN2.lt
  have kD2 := hidden (kD.out w2 hb2)
  replace hw2 := hidden hw2
  clear hB1 hB2 hN2 hb2 kW kD hq
  generalize ((K q : Nat) : Int) = KQ at *
  go_upto_region 2 with fail
  rw [hw2.out]
  clear hw2
  go_wp2_with fail
  refine (kD2.out).mono ?_
  rintro ev w3 ⟨er, rfl, hQ⟩
  replace hQ := hidden hQ
  go_wp2
  go_ret
  exact ⟨er, rfl, hQ.out⟩
end
section
variable {fb rs hb : Nat} {E : TE} {w w' : World} {K : Nat -> Nat} {D : Nat -> List Int} {T : Nat -> List Rec} {f u lim : Nat}
theorem boxes2 (w : World) (fb : Nat) (dv : Value) : ∃ w2, (w.alloc (Obj.cells #[ptr fb] 31)).alloc (Obj.cells #[dv] 111) = w2 /\ Below w.heap.size w w2 /\ w2.cell? ⟨w.heap.size, 0, none⟩ = some (ptr fb) /\ w2.cell? ⟨w.heap.size + 1, 0, none⟩ = some dv := by
  generalize e1 : w.alloc (Obj.cells #[ptr fb] 31) = W1
  have a1 : W1.cell? ⟨w.heap.size, 0, none⟩ = some (ptr fb) := by rw [<- e1]; simp
  have s1 : W1.heap.size = w.heap.size + 1 := by rw [<- e1]; simp
  have b1 : Below w.heap.size w W1 := by rw [<- e1]; exact (Below.refl _ _).alloc (Nat.le_refl _) _
  have hBx : Below W1.heap.size W1 (W1.alloc (Obj.cells #[dv] 111)) := (Below.refl _ _).alloc (Nat.le_refl _) _
  exact ⟨_, rfl, b1.trans (hBx.mono b1.size), (hBx.cell (p := ⟨w.heap.size, 0, none⟩) (lt_of_cell a1)).trans a1, by rw [<- s1]; simp⟩
theorem at_via {path : List UInt8} {l : List (List UInt8)} {fc : FuncId} {caps : Array Value} {Q : Value -> World -> Prop} (hlen : path.length <= 2000) (hp : splitB path = some l)
    (kS : ∀ (wx : World) (b0 b1 b2 : Nat) (names : Value), Below w.heap.size w wx -> ABox b0 b1 b2 fb names (.func (.func fc) #[] caps) wx -> TxtsAt wx names l -> Calls Tryz.prog 54 #[ptr fb, .func (.func 126) #[] #[ptr b0, ptr b1, ptr b2]] wx fun e w' => ∃ ev, e = .returned ev /\ Q ev w') :
    Calls Tryz.prog 67 #[ptr fb, .string (mkB path), .func (.func fc) #[] caps] w fun e w' => ∃ ev, e = .returned ev /\ Q ev w' := by
  have hmf : ∀ (fn : Fn) (first cap : Array Value) (w : World), (Instr.makeFunc fn first cap).run Tryz.prog w = .ok (.func fn first cap) w := fun _ _ _ _ => rfl
  obtain ⟨w2, hw2, hB2, g0, g2⟩ := boxes2 w fb (.func (.func fc) #[] caps)
  have kSp := split_calls path w2 hlen
  unfold ToldS at kSp
  rw [hp] at kSp
  replace kSp := hidden kSp
  replace kS := hidden kS
  replace hw2 := hidden hw2
  replace hB2 := hidden hB2
  go_enter Tryz.func67, Tryz.ntmps67
  go_upto_region 1 with fail
  rw [hw2.out]
  clear hw2
  go_wp2_with fail
  refine (kSp.out).mono ?_
  rintro ev w3 ⟨v, rfl, hT, hB3⟩
  have hT3 : TxtsAt w3 v l := hT
  obtain ⟨a, cap, rfl, -⟩ := hT
  obtain ⟨w4, hw4, hB4, n1⟩ : ∃ w4, w3.alloc (Obj.cells #[.slice a l.length cap] 50) = w4 /\ Below w3.heap.size w3 w4 /\ w4.cell? ⟨w3.heap.size, 0, none⟩ = some (.slice a l.length cap) := ⟨_, rfl, (Below.refl _ _).alloc (Nat.le_refl _) _, by simp⟩
  have hb4' : Below w2.heap.size w2 w4 := hB3.trans (hB4.mono hB3.size)
  have hb4 : Below w.heap.size w w4 := hB2.out.trans (hb4'.mono hB2.out.size)
  have m0 := (hb4'.cell (p := ⟨w.heap.size, 0, none⟩) (lt_of_cell (a := ⟨w.heap.size, 0, none⟩) g0)).trans g0
  have m2 := (hb4'.cell (p := ⟨w.heap.size + 1, 0, none⟩) (lt_of_cell (a := ⟨w.heap.size + 1, 0, none⟩) g2)).trans g2
  have kS4 := hidden (kS.out w4 w.heap.size w3.heap.size (w.heap.size + 1) _ hb4 ⟨m0, n1, m2⟩ (hT3.below hB4))
  replace hw4 := hidden hw4
  clear hT3 hB3 hB4 hb4 hb4' kS kSp g0 g2 hB2
  dsimp only [Option.isSome, Option.getD]
  generalize l.length = LL at *
  go_upto_region 2 with fail
  rw [hw4.out]
  clear hw4
  go_wp2_with fail
  refine (kS4.out).mono ?_
  rintro ev w7 ⟨er, rfl, hQ⟩
  replace hQ := hidden hQ
  go_wp2
  go_ret
  exact ⟨er, rfl, hQ.out⟩
end
theorem OwnV.keep {base : Nat} {w w' : World} {v : Value} {zs : List Int} {bs : List Nat} (h : OwnV base w v zs) (ha : Apart bs w w') (hb : ∀ k ∈ bs, k < base) : OwnV base w' v zs := by
  refine ⟨⟨h.row.1, ?_⟩, h.2⟩
  rcases h.row.2 with h2 | ⟨g', cap', cur, rfl, h1, hh, rest⟩
  · exact .inl h2
  · exact .inr ⟨g', cap', cur, rfl, h1, (ha.block g' (by rcases Nat.lt_or_ge g' w.heap.size with h | h; exact h; rw [Array.getElem?_eq_none h] at hh; cases hh) (fun hm => by have := hb _ hm; omega)).trans hh, rest⟩
section
variable {fb rs hb : Nat} {E : TE} {w w' : World} {K : Nat -> Nat} {D : Nat -> List Int} {T : Nat -> List Rec} {f u lim : Nat}
theorem get1_ok {c0 c1 q : Nat} {old : Value} (g0 : w.cell? ⟨c0, 0, none⟩ = some (ptr fb)) (g1 : w.cell? ⟨c1, 0, none⟩ = some old) (f1 : w.frozen? ⟨c1, 0, none⟩ = false) (hF : FsAt fb E rs hb w) (h : S8 E K D f u lim w) (ok : E.Ok) (h1 : 1 <= q) (h2 : q <= E.tn) (hk : K q = 1) :
    Calls Tryz.prog 85 #[fnV (q : Nat) 1, ptr c0, ptr c1] w fun e w' => e = .returned .nilIface /\ ∃ v w2, OwnV w.heap.size w2 v (D q) /\ Below w.heap.size w w2 /\ w' = w2.setCell ⟨c1, 0, none⟩ v := by
  obtain ⟨w1, hw1, hB1, hN1⟩ : ∃ w1, w.alloc (Obj.cells #[.int .i64 (q : Nat), .int .i64 1] 105) = w1 /\ Below w.heap.size w w1 /\ FnAt w1 w.heap.size (q : Nat) 1 := ⟨_, rfl, (Below.refl _ _).alloc (Nat.le_refl _) _, fn_new _ _ _⟩
  have hlen := h.len h1 h2
  have kR := hidden (fun (wx : World) (hx : Below w.heap.size w wx) => by
    have := S8.read ok (h.more hx) (id := q) h1 h2 (by rw [hk]; decide) 0 4000 (by omega) (by omega)
    rw [List.drop_zero, List.take_of_length_le hlen] at this
    exact this)
  have t2 := (hF.below hB1).c2
  have hltf := (hF.below hB1).lt
  have e0 := (hB1.cell (p := ⟨c0, 0, none⟩) (lt_of_cell (a := ⟨c0, 0, none⟩) g0)).trans g0
  have n0 := hN1.c0
  have n1 := hN1.c1
  have hlN := hN1.lt
  have kg := hidden (fun (wx : World) (hx : Below w.heap.size w wx) => (hx.cell (p := ⟨c1, 0, none⟩) (lt_of_cell (a := ⟨c1, 0, none⟩) g1)).trans g1)
  have kf := hidden (fun (wx : World) (hx : Below w.heap.size w wx) => ((Apart.of_below (bs := []) hx).frozen (p := ⟨c1, 0, none⟩) (lt_of_cell (a := ⟨c1, 0, none⟩) g1) (by simp)).trans f1)
  have hb1 := hidden hB1
  have hbd := hidden (hB1.trans ((below_drew1 w1).mono hB1.size))
  replace hw1 := hidden hw1
  clear hF h ok g0 g1 f1 hB1 hN1
  go_enter Tryz.func85, Tryz.ntmps85
  go_upto_region 1 with fail
  rw [hw1.out]
  clear hw1
  go_upto_region 3 with fail
  go_region_with (go_at_call 78; refine (kR.out _ hbd.out).mono ?_; rintro ev w2 ⟨v, rfl, hV, hB2⟩; have hb2 := hbd.out.trans (hB2.mono hbd.out.size); have k1 := kg.out _ hb2; have k2 := kf.out _ hb2; have hlc := lt_of_cell (a := ⟨c1, 0, none⟩) k1; have hE := hidden (And.intro (hV.mono (base' := w.heap.size) hbd.out.size) hb2); obtain ⟨va, vc, hve⟩ : ∃ a c, v = .slice a (D q).length c := (by obtain ⟨a, c, e, -⟩ := ownV_at hV; exact ⟨a, c, e⟩); subst hve; clear hV hB2 hb2)
  all_goals
    go_wp2
    go_ret
    exact ⟨rfl, _, w2, hE.out.1, hE.out.2, rfl⟩
end
section
variable {fb rs hb : Nat} {E : TE} {w w' : World} {K : Nat -> Nat} {D : Nat -> List Int} {T : Nat -> List Rec} {f u lim : Nat}
theorem boxesG (w : World) (fb : Nat) : ∃ w2, (w.alloc (Obj.cells #[ptr fb] 31)).alloc (Obj.cells #[.slice none 0 0] 38) = w2 /\ Below w.heap.size w w2 /\ w2.cell? ⟨w.heap.size, 0, none⟩ = some (ptr fb) /\ w2.cell? ⟨w.heap.size + 1, 0, none⟩ = some (.slice none 0 0) /\ w2.frozen? ⟨w.heap.size + 1, 0, none⟩ = false := by
  generalize e1 : w.alloc (Obj.cells #[ptr fb] 31) = W1
  have a1 : W1.cell? ⟨w.heap.size, 0, none⟩ = some (ptr fb) := by rw [<- e1]; simp
  have s1 : W1.heap.size = w.heap.size + 1 := by rw [<- e1]; simp
  have b1 : Below w.heap.size w W1 := by rw [<- e1]; exact (Below.refl _ _).alloc (Nat.le_refl _) _
  have hBx : Below W1.heap.size W1 (W1.alloc (Obj.cells #[.slice none 0 0] 38)) := (Below.refl _ _).alloc (Nat.le_refl _) _
  exact ⟨_, rfl, b1.trans (hBx.mono b1.size), (hBx.cell (p := ⟨w.heap.size, 0, none⟩) (lt_of_cell a1)).trans a1, by rw [<- s1]; simp, by rw [<- s1]; simp⟩
theorem get_via {path : List UInt8} {Q : Value -> Value -> World -> Prop}
    (kS : ∀ (wx : World) (c0 c1 : Nat), Below w.heap.size w wx -> w.heap.size <= c1 -> c1 < wx.heap.size -> wx.cell? ⟨c0, 0, none⟩ = some (ptr fb) -> wx.cell? ⟨c1, 0, none⟩ = some (.slice none 0 0) -> wx.frozen? ⟨c1, 0, none⟩ = false -> Calls Tryz.prog 67 #[ptr fb, .string (mkB path), .func (.func 85) #[] #[ptr c0, ptr c1]] wx fun e w' => ∃ ev v, e = .returned ev /\ w'.cell? ⟨c1, 0, none⟩ = some v /\ Q v ev w') :
    Calls Tryz.prog 43 #[ptr fb, .string (mkB path)] w fun e w' => ∃ v ev, e = .returned (.tuple #[v, ev]) /\ Q v ev w' := by
  have hmf : ∀ (fn : Fn) (first cap : Array Value) (w : World), (Instr.makeFunc fn first cap).run Tryz.prog w = .ok (.func fn first cap) w := fun _ _ _ _ => rfl
  obtain ⟨w2, hw2, hB2, g0, g1, f1⟩ := boxesG w fb
  have hl1 := lt_of_cell (a := ⟨w.heap.size + 1, 0, none⟩) g1
  have kA := hidden (kS w2 w.heap.size (w.heap.size + 1) hB2 (by omega) hl1 g0 g1 f1)
  replace hw2 := hidden hw2
  clear kS hB2 g1 f1
  go_enter Tryz.func43, Tryz.ntmps43
  go_upto_region 2 with fail
  rw [hw2.out]
  clear hw2
  go_wp2_with fail
  refine (kA.out).mono ?_
  rintro ev w3 ⟨er, v, rfl, hc, hQ⟩
  have hl3 := lt_of_cell (a := ⟨w.heap.size + 1, 0, none⟩) hc
  replace hQ := hidden hQ
  go_wp2
  go_ret2
  exact ⟨v, er, rfl, hQ.out⟩
theorem ent_at1 : ∀ (args : Array Value) (w : World), (callFunc 126 args).run Tryz.prog w = .ok (.enter 126 args) w := enters_of Tryz.func126 (by kernel_rfl) rfl
theorem ent_get1 : ∀ (args : Array Value) (w : World), (callFunc 85 args).run Tryz.prog w = .ok (.enter 85 args) w := enters_of Tryz.func85 (by kernel_rfl) rfl
theorem get_ok (h : Fsz fb rs hb E K D T f lim w) {path : List UInt8} {l : List (List UInt8)} (hlen : path.length <= 2000) (hp : splitB path = some l) {q : Nat} (hq : walkT K T 1 l = .ok q) (hk : K q = 1) (hlim : lim <= 300000000) :
    Calls Tryz.prog 43 #[ptr fb, .string (mkB path)] w fun e w' => ∃ v ev, e = .returned (.tuple #[v, ev]) /\ ev = .nilIface /\ OwnV w.heap.size w' v (D q) /\ Fsz fb rs hb E.rest K D T f (lim + 1000) w' /\ E.Turns fb w w' := by
  have hmp := may_all (split_may hp)
  have hpl := h.pl
  obtain ⟨q1, q2, -⟩ := walkT_in h.tree l 1 q (Nat.le_refl _) hpl.tn1 (by rw [h.tree.root]; decide) hq
  have hah := h.s.to.lts
  have hfar := h.far
  refine get_via (Q := fun v ev w' => ev = .nilIface /\ OwnV w.heap.size w' v (D q) /\ Fsz fb rs hb E.rest K D T f (lim + 1000) w' /\ E.Turns fb w w') (fun wx c0 c1 hx hc1 hc2 g0 g1 f1 => ?_)
  refine (at_via (w := wx) (fb := fb) (Q := fun ev w' => ev = .nilIface /\ ∃ v, w'.cell? ⟨c1, 0, none⟩ = some v /\ OwnV w.heap.size w' v (D q) /\ Fsz fb rs hb E.rest K D T f (lim + 1000) w' /\ E.Turns fb w w') hlen hp (fun wy b0 b1 b2 names hy hbx hT => ?_)).mono ?_
  rotate_left
  · rintro e w' ⟨ev, rfl, h1, v, h2, h3, h4, h5⟩
    exact ⟨ev, v, rfl, h2, h1, h3, h4, h5⟩
  have hxy : Below w.heap.size w wy := hx.trans (hy.mono hx.size)
  have hr := h.rest.below hxy
  have k0 := (hy.cell (p := ⟨c0, 0, none⟩) (lt_of_cell (a := ⟨c0, 0, none⟩) g0)).trans g0
  have k1 := (hy.cell (p := ⟨c1, 0, none⟩) hc2).trans g1
  have kf := ((Apart.of_below (bs := []) hy).frozen (p := ⟨c1, 0, none⟩) hc2 (by simp)).trans f1
  have hc1y : c1 < wy.heap.size := Nat.lt_of_lt_of_le hc2 hy.size
  have kD := fun (wz : World) (hz : Below wy.heap.size wy wz) => get1_ok (fb := fb) (E := E.rest) (K := K) (D := D) (c0 := c0) (c1 := c1) (q := q) ((hz.cell (p := ⟨c0, 0, none⟩) (lt_of_cell (a := ⟨c0, 0, none⟩) k0)).trans k0) ((hz.cell (p := ⟨c1, 0, none⟩) hc1y).trans k1) (((Apart.of_below (bs := []) hz).frozen (p := ⟨c1, 0, none⟩) hc1y (by simp)).trans kf) (hr.at_.below hz) (hr.s.to.more hz) hpl.rest_ok q1 q2 hk
  have kA := at1_ok (E := E.rest) (K := K) (D := D) (T := T) (q := q) ent_get1 hbx hr.at_ hr.s.to hpl.rest_ok hr.tree hpl.tn1 hT (by omega) hmp.2 hq (Q := fun ev w' => ev = .nilIface /\ ∃ v w2, OwnV wy.heap.size w2 v (D q) /\ Below wy.heap.size wy w2 /\ w' = w2.setCell ⟨c1, 0, none⟩ v) (fun wz hz => by
    have := kD wz hz
    rw [hk]
    refine this.mono ?_
    rintro e w' ⟨rfl, v, w2, r1, r2, r3⟩
    exact ⟨_, rfl, rfl, v, w2, r1.mono hz.size, hz.trans (r2.mono hz.size), r3⟩)
  refine (step_ok (E := E.rest) (P := fun w1 => ∃ v w2, OwnV wy.heap.size w2 v (D q) /\ Below wy.heap.size wy w2 /\ w1 = w2.setCell ⟨c1, 0, none⟩ v) (K := K) (D := D) (f := f) (u := 0) (lim := lim) ent_at1 hr.at_ hfar hpl.rest_ok hpl.far hpl.live (by show 1 <= E.most /\ E.most <= 200; rw [hpl.most]; omega) hlim (kA.mono ?_)).mono ?_
  · rintro e w1 ⟨ev, rfl, rfl, v, w2, r1, r2, rfl⟩
    have hb : Below w.heap.size w (w2.setCell ⟨c1, 0, none⟩ v) := (hxy.trans (r2.mono hxy.size)).setCell (p := ⟨c1, 0, none⟩) hc1 v
    have hz := h.rest.below hb
    exact ⟨rfl, ⟨v, w2, r1, r2, rfl⟩, hz.at_, hz.s.to⟩
  · rintro e w3 ⟨rfl, w1, ⟨v, w2, r1, r2, rfl⟩, hF3, hS3, hA3⟩
    have hb : Below w.heap.size w (w2.setCell ⟨c1, 0, none⟩ v) := (hxy.trans (r2.mono hxy.size)).setCell (p := ⟨c1, 0, none⟩) hc1 v
    have hc2' : c1 < w2.heap.size := Nat.lt_of_lt_of_le hc1y r2.size
    have hcv : (w2.setCell ⟨c1, 0, none⟩ v).cell? ⟨c1, 0, none⟩ = some v := World.cell?_setCell_same' _ _ _ (by rw [(r2.cell (p := ⟨c1, 0, none⟩) hc1y).trans k1]; rfl)
    unfold TE.Ahead at hah
    have hno : ∀ k ∈ [E.d, E.g, E.mb], k < w.heap.size := fun k hk => by
      simp only [List.mem_cons, List.not_mem_nil, or_false] at hk
      omega
    have hA3' : Apart [E.d, E.g, E.mb] (w2.setCell ⟨c1, 0, none⟩ v) w3 := hA3
    refine ⟨_, rfl, rfl, v, (hA3'.cell (p := ⟨c1, 0, none⟩) (lt_of_cell (a := ⟨c1, 0, none⟩) hcv) (fun hm => by have := hno _ hm; simp only at this; omega)).trans hcv, ?_, ⟨hF3, hS3, hpl.at _ _ _ _ _, hfar, h.tree⟩, ?_⟩
    · have o1 := r1.keep ((Apart.refl [c1] w2).setCell (p := ⟨c1, 0, none⟩) (by simp) v) (fun k hk => by rw [List.mem_singleton.1 hk]; exact hc1y)
      exact (o1.keep hA3' (fun k hk => Nat.lt_of_lt_of_le (hno k hk) hxy.size)).mono hxy.size
    · exact (Apart.of_below hb).trans (hA3'.mono (fun x hx' _ => by
        simp only [List.mem_cons, List.not_mem_nil, or_false] at hx'
        rcases hx' with rfl | rfl | rfl <;> simp))
end
section
variable {fb rs hb : Nat} {E : TE} {w w' : World} {K : Nat -> Nat} {D : Nat -> List Int} {T : Nat -> List Rec} {f u lim : Nat}
theorem Fsz.mfar (h : Fsz fb rs hb E K D T f lim w) : E.mb < w.heap.size /\ fb < w.heap.size := ⟨h.s.to.lts.2.2.2.2.1, h.at_.lt⟩
theorem get_fail (h : Fsz fb rs hb E K D T f lim w) {path : List UInt8} {l : List (List UInt8)} (hlen : path.length <= 2000) (hp : splitB path = some l) {m : Int} (hm : (m == 50) = false)
    (kA : ∀ (wy : World) (b0 b1 b2 c0 c1 : Nat) (names : Value), Fsz fb rs hb E.rest K D T f lim wy -> ABox b0 b1 b2 fb names (.func (.func 85) #[] #[ptr c0, ptr c1]) wy -> TxtsAt wy names l -> Calls Tryz.prog 126 #[ptr b0, ptr b1, ptr b2] wy fun e w' => ∃ ll ev, e = .returned ev /\ Chain w' ll (num m) ev /\ Below wy.heap.size wy w') :
    Calls Tryz.prog 43 #[ptr fb, .string (mkB path)] w fun e w' => ∃ v ev, e = .returned (.tuple #[v, ev]) /\ v = .slice none 0 0 /\ Refused fb rs hb E K D T f lim m w ev w' := by
  have hmf := h.mfar
  refine get_via (Q := fun v ev w' => v = .slice none 0 0 /\ Refused fb rs hb E K D T f lim m w ev w') (fun wx c0 c1 hx hc1 hc2 g0 g1 f1 => ?_)
  refine (at_via (w := wx) (fb := fb) (Q := fun ev w' => w'.cell? ⟨c1, 0, none⟩ = some (.slice none 0 0) /\ Refused fb rs hb E K D T f lim m w ev w') hlen hp (fun wy b0 b1 b2 names hy hbx hT => ?_)).mono ?_
  rotate_left
  · rintro e w' ⟨ev, rfl, h1, h2⟩
    exact ⟨ev, _, rfl, h1, rfl, h2⟩
  have hxy : Below w.heap.size w wy := hx.trans (hy.mono hx.size)
  have hr := h.rest.below hxy
  refine (step_err (E := E.rest) (K := K) (D := D) (f := f) (u := 0) (lim := lim) (P := fun w1 _ => Below wy.heap.size wy w1) hm ent_at1 hr.at_ hr.far h.pl.rest_ok ((kA wy b0 b1 b2 c0 c1 names hr hbx hT).mono ?_)).mono ?_
  · rintro e w1 ⟨ll, ev, rfl, hc, hB⟩
    exact ⟨ll, ev, rfl, hc, hB, hr.at_.below hB, hr.s.more hB⟩
  · rintro e w2 ⟨ll, ev, w1, rfl, hc, hB, hF2, hS2, hA⟩
    have hA' : Apart [E.mb, fb] w1 w2 := hA
    have hb1 : Below wx.heap.size wx w1 := hy.trans (hB.mono hy.size)
    refine ⟨ev, rfl, ?_, ⟨ll, hc⟩, ⟨hF2, hS2, h.pl.at _ _ _ _ _, h.far, h.tree⟩, turns_err hxy hB hA⟩
    have k1 := (hb1.cell (p := ⟨c1, 0, none⟩) hc2).trans g1
    refine (hA'.cell (p := ⟨c1, 0, none⟩) (lt_of_cell (a := ⟨c1, 0, none⟩) k1) (fun hm' => ?_)).trans k1
    simp only [List.mem_cons, List.not_mem_nil, or_false] at hm'
    omega
theorem get_no (h : Fsz fb rs hb E K D T f lim w) {path : List UInt8} {l : List (List UInt8)} (hlen : path.length <= 2000) (hp : splitB path = some l) {m : Int} (hm : (m == 50) = false) (hq : walkT K T 1 l = .error m) :
    Calls Tryz.prog 43 #[ptr fb, .string (mkB path)] w fun e w' => ∃ v ev, e = .returned (.tuple #[v, ev]) /\ v = .slice none 0 0 /\ Refused fb rs hb E K D T f lim m w ev w' := by
  have hmp := may_all (split_may hp)
  exact get_fail h hlen hp hm (fun wy b0 b1 b2 c0 c1 names hr hbx hT => at1_no hbx hr.at_ hr.s.to h.pl.rest_ok hr.tree h.pl.tn1 hT (by omega) hmp.2 hq)
end
def sPut : ByteArray := ⟨#[112, 117, 116]⟩
def sGet : ByteArray := ⟨#[103, 101, 116]⟩
def Told11 (fb rs hb : Nat) (E : TE) (K : Nat -> Nat) (D : Nat -> List Int) (T : Nat -> List Rec) (f lim : Nat) (op nm : ByteArray) (m : Int) (w : World) (ev : Value) (w' : World) : Prop :=
  (∃ ll b, ev = flt b /\ Chain w' ((op, nm) :: ll) (num m) (flt b)) /\ Fsz fb rs hb E.rest K D T f lim w' /\ E.Turns fb w w'
section
variable {fb rs hb : Nat} {E : TE} {w w' : World} {K : Nat -> Nat} {D : Nat -> List Int} {T : Nat -> List Rec} {f u lim : Nat}
theorem Refused.wrapped {op nm : ByteArray} {m : Int} {ll : List (ByteArray × ByteArray)} {ev : Value} (hc : Chain w' ll (num m) ev) (h2 : Fsz fb rs hb E.rest K D T f lim w') (h3 : E.Turns fb w w') : Told11 fb rs hb E K D T f lim op nm m w (flt w'.heap.size) (w'.alloc (fcells op nm ev)) :=
  have hB : Below w'.heap.size w' (w'.alloc (fcells op nm ev)) := (Below.refl _ _).alloc (Nat.le_refl _) _
  ⟨⟨ll, _, rfl, Chain.alloc op nm hc⟩, h2.below hB, h3.trans (Apart.of_below hB)⟩
theorem fPut_ok {path : List UInt8} {ba : Option Addr} {bl bc : Nat} {Q : World -> Prop} (k : Calls Tryz.prog 35 #[ptr fb, .string (mkB path), .slice ba bl bc, .bool false] w fun e w' => e = .returned .nilIface /\ Q w') :
    Calls Tryz.prog 10 #[ptr fb, .string (mkB path), .slice ba bl bc] w fun e w' => e = .returned .nilIface /\ Q w' := by
  replace k := hidden k
  have kW := hidden (fun (wx : World) => wrap_nil sPut (mkB path) wx)
  unfold sPut at kW
  go_enter Tryz.func10, Tryz.ntmps10
  go_wp2_with fail
  refine (k.out).mono ?_
  rintro ev w1 ⟨rfl, hQ⟩
  replace hQ := hidden hQ
  go_wp2_with fail
  refine (kW.out _).mono ?_
  rintro ev w2 ⟨rfl, hw2⟩
  subst w2
  go_wp2
  go_ret
  exact ⟨rfl, hQ.out⟩
end
section
variable {fb rs hb : Nat} {E : TE} {w w' : World} {K : Nat -> Nat} {D : Nat -> List Int} {T : Nat -> List Rec} {f u lim : Nat}
theorem fGet_ok {path : List UInt8} {Q : Value -> World -> Prop} (k : Calls Tryz.prog 43 #[ptr fb, .string (mkB path)] w fun e w' => ∃ v ev, e = .returned (.tuple #[v, ev]) /\ ev = .nilIface /\ Q v w') :
    Calls Tryz.prog 17 #[ptr fb, .string (mkB path)] w fun e w' => ∃ v, e = .returned (.tuple #[v, .nilIface]) /\ Q v w' := by
  replace k := hidden k
  have kW := hidden (fun (wx : World) => wrap_nil sGet (mkB path) wx)
  unfold sGet at kW
  go_enter Tryz.func17, Tryz.ntmps17
  go_wp2_with fail
  refine (k.out).mono ?_
  rintro ev w1 ⟨v, er, rfl, rfl, hQ⟩
  replace hQ := hidden hQ
  go_wp2_with fail
  refine (kW.out _).mono ?_
  rintro ev w2 ⟨rfl, hw2⟩
  subst w2
  go_wp2
  go_ret2
  exact ⟨v, rfl, hQ.out⟩
theorem fGet_err {path : List UInt8} {m : Int} (k : Calls Tryz.prog 43 #[ptr fb, .string (mkB path)] w fun e w' => ∃ v ev, e = .returned (.tuple #[v, ev]) /\ v = .slice none 0 0 /\ Refused fb rs hb E K D T f lim m w ev w') :
    Calls Tryz.prog 17 #[ptr fb, .string (mkB path)] w fun e w' => ∃ ev, e = .returned (.tuple #[.slice none 0 0, ev]) /\ Told11 fb rs hb E K D T f lim sGet (mkB path) m w ev w' := by
  replace k := hidden k
  have kW := hidden (fun (u : TypeId) (v : Value) (wx : World) => wrap_some sGet (mkB path) u v wx)
  have hsp : sGet = ⟨#[103, 101, 116]⟩ := rfl
  rw [hsp] at kW
  replace hsp := hidden hsp
  go_enter Tryz.func17, Tryz.ntmps17
  go_wp2_with fail
  refine (k.out).mono ?_
  rintro ev w1 ⟨v, er, rfl, rfl, ⟨ll, hc⟩, h2, h3⟩
  obtain ⟨ut, uv, rfl⟩ := Chain.held hc (Or.inr ⟨_, _, rfl⟩)
  have hE := hidden (Refused.wrapped (op := sGet) (nm := mkB path) hc h2 h3)
  rw [hsp.out] at hE
  clear hc h2 h3
  go_wp2_with fail
  refine (kW.out _ _ _).mono ?_
  rintro ev w2 ⟨rfl, hw2⟩
  subst w2
  go_wp2
  go_ret2
  rw [hsp.out]
  exact ⟨_, rfl, hE.out⟩
end
end Go.Proofs.YtpofmiecjkghgaaGreatDoor
