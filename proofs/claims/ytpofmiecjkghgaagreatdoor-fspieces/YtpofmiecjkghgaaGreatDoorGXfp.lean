/- Nothing is held: holds, lose. -/
import Derived.Test.YtpofmiecjkghgaaGreatDoorGXep
import Derived.Test.YtpofmiecjkghgaaGreatDoorGXdp
import Derived.Test.YtpofmiecjkghgaaGreatDoorGXbp
namespace Go.Proofs.YtpofmiecjkghgaaGreatDoor
open Go.RowKit Go.Extern.Stop Go.Stop Go.Extern Go.Maps Go.Sort Go.Shelf
set_option maxRecDepth 100000
set_option maxHeartbeats 8000000
theorem look_none {w : World} {hb : Nat} (h : w.heap[hb]? = some (.map #[] 0)) (i : Int) (hi : i64 i) (c : Bool) : (Instr.lookup 95 (.map (some hb)) (.int .i64 i) c).run Tryz.prog w = .ok (if c then .tuple #[.agg #[.int .i64 0, .bool false], .bool false] else .agg #[.int .i64 0, .bool false]) w := by
  have hz : (zeroValue 113).run Tryz.prog w = .ok (.agg #[.int .i64 0, .bool false]) w := Tryz.zeroValue113 w
  obtain ⟨es, clock, h2, F, hs, hD⟩ := World.ownsMap_made (H := List Int) w Tryz.prog 3 rowR
  have e2 : (w.alloc (.map #[] 0)).heap[w.heap.size]? = some (.map #[] 0) := heap_alloc_new _ _
  rw [e2] at h2
  obtain ⟨rfl, rfl⟩ := Obj.map.inj (Option.some.inj h2)
  rcases Maps.fit_look c keyedI Tryz.underlying95 hz h F (keyI i hi) with ⟨hrun, -⟩ | ⟨e0, y, hm, -⟩
  · exact hrun
  · simp at hm
section
variable {fb rs hb : Nat} {E : TE} {w w' : World}
theorem lose_no (hF : FsAt fb E rs hb w) (hn : HNo fb hb E w) (id k : Int) (hi : i64 id) :
    Calls Tryz.prog 72 #[ptr fb, fnV id k] w fun e w' => e = .returned (.tuple #[]) /\ Below w.heap.size w w' := by
  obtain ⟨w1, hw1, hB1, hN1⟩ : ∃ w1, w.alloc (.cells #[.int .i64 id, .int .i64 k] 105) = w1 /\ Below w.heap.size w w1 /\ FnAt w1 w.heap.size id k := ⟨_, rfl, (Below.refl _ _).alloc (Nat.le_refl _) _, fn_new _ _ _⟩
  have hF1 := hF.below hB1
  have c6 := hF1.c6
  have hlt := hF1.lt
  have n0 := hN1.c0
  have hltn := hN1.lt
  have hn1 := hn.below hB1
  have hlk0 := look_none hn1.no id hi true
  have hlk1 := look_none (w := w1.drew) hn1.no id hi true
  have hlk2 := look_none (w := (w1.alloc (Obj.cells #[.int .i64 0, .bool false] 113)).drew) (((Below.refl w1.heap.size w1).alloc (Nat.le_refl _) _).block hb hn1.lt |>.trans hn1.no) id hi true
  simp only [if_true] at hlk0 hlk1 hlk2
  replace hB1 := hidden hB1
  clear hF hn hF1 hN1 hn1
  go_enter Tryz.func72, Tryz.ntmps72
  go_upto_region 1 with fail
  go_region_with fail
  all_goals
    go_wp2
    go_end0
    exact ⟨rfl, hB1.out.trans ((Below.refl _ _).alloc hB1.out.size _).drew⟩
end
def sRename : ByteArray := ⟨#[114, 101, 110, 97, 109, 101]⟩
structure RBox (b0 b1 b2 b3 fb : Nat) (a b : List UInt8) (x k : Int) (w : World) : Prop where
  c0 : w.cell? ⟨b0, 0, none⟩ = some (ptr fb)
  c1 : w.cell? ⟨b1, 0, none⟩ = some (.string (mkB a))
  c2 : w.cell? ⟨b2, 0, none⟩ = some (.string (mkB b))
  n : FnAt w b3 x k
section
variable {fb rs hb : Nat} {E : TE} {w w' : World} {K : Nat -> Nat} {D : Nat -> List Int} {T : Nat -> List Rec} {f u lim : Nat}
theorem ent_rename1 : ∀ (args : Array Value) (w : World), (callFunc 74 args).run Tryz.prog w = .ok (.enter 74 args) w := enters_of Tryz.func74 (by kernel_rfl) rfl
theorem rename1_ok {b0 b1 b2 b3 : Nat} {a b : List UInt8} {x k : Int} {Q : World -> Prop} (hB : RBox b0 b1 b2 b3 fb a b 0 0 w)
    (kM : Calls Tryz.prog 75 #[ptr fb, .string (mkB a), .string (mkB b)] w fun e w1 => e = .returned (.tuple #[fnV x k, .nilIface]) /\ FnAt w1 b3 0 0 /\ Q ((w1.setCell ⟨b3, 0, none⟩ (.int .i64 x)).setCell ⟨b3, 1, none⟩ (.int .i64 k))) :
    Calls Tryz.prog 74 #[ptr b0, ptr b1, ptr b2, ptr b3] w fun e w' => e = .returned .nilIface /\ FnAt w' b3 x k /\ Q w' := by
  have c0 := hB.c0
  have c1 := hB.c1
  have c2 := hB.c2
  have l0 := lt_of_cell (a := ⟨b0, 0, none⟩) c0
  have l1 := lt_of_cell (a := ⟨b1, 0, none⟩) c1
  have l2 := lt_of_cell (a := ⟨b2, 0, none⟩) c2
  replace kM := hidden kM
  clear hB
  go_enter Tryz.func74, Tryz.ntmps74
  go_wp2_with fail
  refine (kM.out).mono ?_
  rintro ev w1 ⟨rfl, hN, hQ⟩
  have d0 := hN.c0
  have d1 := hN.c1
  have e0 := hN.f0
  have e1 := hN.f1
  have l3 := hN.lt
  have hE := hidden (And.intro (fn_stored (i' := x) (k' := k) hN) hQ)
  clear hN hQ kM
  go_wp2
  go_ret
  exact ⟨rfl, hE.out⟩
theorem boxesR (w : World) (fb : Nat) (a b : List UInt8) : ∃ w2, ((w.alloc (Obj.cells #[ptr fb] 31)).alloc (Obj.cells #[.string (mkB a)] 9)).alloc (Obj.cells #[.string (mkB b)] 9) = w2 /\ Below w.heap.size w w2 /\ w2.cell? ⟨w.heap.size, 0, none⟩ = some (ptr fb) /\ w2.cell? ⟨w.heap.size + 1, 0, none⟩ = some (.string (mkB a)) /\ w2.cell? ⟨w.heap.size + 1 + 1, 0, none⟩ = some (.string (mkB b)) := by
  have up : ∀ (W : World) (o : Obj) (p : Addr) (v : Value), W.cell? p = some v -> (W.alloc o).cell? p = some v := fun W o p v h => (((Below.refl W.heap.size W).alloc (Nat.le_refl _) o).cell (lt_of_cell h)).trans h
  generalize e1 : w.alloc (Obj.cells #[ptr fb] 31) = W1
  have a1 : W1.cell? ⟨w.heap.size, 0, none⟩ = some (ptr fb) := by rw [<- e1]; simp
  have s1 : W1.heap.size = w.heap.size + 1 := by rw [<- e1]; simp
  have b1 : Below w.heap.size w W1 := by rw [<- e1]; exact (Below.refl _ _).alloc (Nat.le_refl _) _
  generalize e2 : W1.alloc (Obj.cells #[.string (mkB a)] 9) = W2
  have a2 : W2.cell? ⟨w.heap.size + 1, 0, none⟩ = some (.string (mkB a)) := by rw [<- e2, <- s1]; simp
  have s2 : W2.heap.size = w.heap.size + 2 := by rw [<- e2]; simp [s1]
  have b2 : Below w.heap.size w W2 := by rw [<- e2]; exact b1.alloc (by omega) _
  have a12 : W2.cell? ⟨w.heap.size, 0, none⟩ = some (ptr fb) := by rw [<- e2]; exact up _ _ _ _ a1
  exact ⟨_, rfl, b2.alloc (by omega) _, up _ _ _ _ a12, up _ _ _ _ a2, by rw [show w.heap.size + 1 + 1 = W2.heap.size by omega]; simp⟩
theorem rename_via {a b : List UInt8} {la lb : List (List UInt8)} (hla : a.length <= 2000) (hlb : b.length <= 2000) (hpa : splitB a = some la) (hpb : splitB b = some lb) (na : la ≠ []) (nb : lb ≠ []) {Q : World -> Prop} (hQ : ∀ w1 w2, Q w1 -> Below w1.heap.size w1 w2 -> Q w2)
    (kS : ∀ (wx : World) (b0 b1 b2 b3 : Nat), Below w.heap.size w wx -> w.heap.size <= b0 -> w.heap.size <= b3 -> RBox b0 b1 b2 b3 fb a b 0 0 wx -> Calls Tryz.prog 54 #[ptr fb, .func (.func 74) #[] #[ptr b0, ptr b1, ptr b2, ptr b3]] wx fun e w' => e = .returned .nilIface /\ w'.cell? ⟨b0, 0, none⟩ = some (ptr fb) /\ ∃ x k, i64 x /\ FnAt w' b3 x k /\ FsAt fb E rs hb w' /\ HNo fb hb E w' /\ Q w') :
    Calls Tryz.prog 38 #[ptr fb, .string (mkB a), .string (mkB b)] w fun e w' => e = .returned .nilIface /\ Q w' := by
  have hmf : ∀ (fn : Fn) (first cap : Array Value) (w : World), (Instr.makeFunc fn first cap).run Tryz.prog w = .ok (.func fn first cap) w := fun _ _ _ _ => rfl
  obtain ⟨w1, hw1, hB1, g0, g1, g2⟩ := boxesR w fb a b
  have l0 := lt_of_cell (a := ⟨w.heap.size, 0, none⟩) g0
  have l1 := lt_of_cell (a := ⟨w.heap.size + 1, 0, none⟩) g1
  have l2 := lt_of_cell (a := ⟨w.heap.size + 1 + 1, 0, none⟩) g2
  have kA := split_calls a w1 hla
  unfold ToldS at kA
  rw [hpa] at kA
  replace kA := hidden kA
  have kB := fun wx => split_calls b wx hlb
  unfold ToldS at kB
  rw [hpb] at kB
  replace kB := hidden kB
  have hna : ((la.length : Int) == 0) = false := by have := List.length_pos_iff.2 na; simp; omega
  have hnb : ((lb.length : Int) == 0) = false := by have := List.length_pos_iff.2 nb; simp; omega
  have hb1 := hidden hB1
  replace kS := hidden kS
  replace hQ := hidden hQ
  replace hw1 := hidden hw1
  clear hB1
  go_enter Tryz.func38, Tryz.ntmps38
  go_upto_region 1 with fail
  rw [hw1.out]
  clear hw1
  go_wp2_with fail
  refine (kA.out).mono ?_
  rintro ev w2 ⟨v2, rfl, hT2, hB2⟩
  have hT2' : TxtsAt w2 v2 la := hT2
  obtain ⟨a2, c2, rfl, -⟩ := hT2'
  have k0 := (hB2.cell (p := ⟨w.heap.size, 0, none⟩) l0).trans g0
  have k1 := (hB2.cell (p := ⟨w.heap.size + 1, 0, none⟩) l1).trans g1
  have k2 := (hB2.cell (p := ⟨w.heap.size + 1 + 1, 0, none⟩) l2).trans g2
  have m2 := lt_of_cell (a := ⟨w.heap.size + 1 + 1, 0, none⟩) k2
  have m0 := lt_of_cell (a := ⟨w.heap.size, 0, none⟩) k0
  have m1 := lt_of_cell (a := ⟨w.heap.size + 1, 0, none⟩) k1
  have hb2 := hidden (hb1.out.trans (hB2.mono hb1.out.size))
  clear hT2 hB2 kA g0 g1 g2 l0 l1 l2
  dsimp only [Option.isSome]
  go_wp2_with fail
  refine (kB.out _).mono ?_
  rintro ev w3 ⟨v3, rfl, hT3, hB3⟩
  have hT3' : TxtsAt w3 v3 lb := hT3
  obtain ⟨a3, c3, rfl, -⟩ := hT3'
  have hb3 : Below w.heap.size w w3 := hb2.out.trans (hB3.mono hb2.out.size)
  have n0 := (hB3.cell (p := ⟨w.heap.size, 0, none⟩) m0).trans k0
  have n1 := (hB3.cell (p := ⟨w.heap.size + 1, 0, none⟩) m1).trans k1
  have n2 := (hB3.cell (p := ⟨w.heap.size + 1 + 1, 0, none⟩) m2).trans k2
  obtain ⟨w4, hw4, hB4, hN4⟩ : ∃ w4, w3.alloc (Obj.cells #[.int .i64 0, .int .i64 0] 105) = w4 /\ Below w3.heap.size w3 w4 /\ FnAt w4 w3.heap.size 0 0 := ⟨_, rfl, (Below.refl _ _).alloc (Nat.le_refl _) _, fn_new _ _ _⟩
  have o0 := (hB4.cell (p := ⟨w.heap.size, 0, none⟩) (lt_of_cell (a := ⟨w.heap.size, 0, none⟩) n0)).trans n0
  have o1 := (hB4.cell (p := ⟨w.heap.size + 1, 0, none⟩) (lt_of_cell (a := ⟨w.heap.size + 1, 0, none⟩) n1)).trans n1
  have o2 := (hB4.cell (p := ⟨w.heap.size + 1 + 1, 0, none⟩) (lt_of_cell (a := ⟨w.heap.size + 1 + 1, 0, none⟩) n2)).trans n2
  have hl0 := lt_of_cell (a := ⟨w.heap.size, 0, none⟩) o0
  have kS4 := hidden (kS.out w4 w.heap.size (w.heap.size + 1) (w.heap.size + 1 + 1) w3.heap.size (hb3.trans (hB4.mono hb3.size)) (Nat.le_refl _) hb3.size ⟨o0, o1, o2, hN4⟩)
  clear hT3 hB3 hb3 hB4 hN4 kB kS k0 k1 k2 n0 n1 n2 o1 o2 m0 m1 m2 hb1 hb2
  dsimp only [Option.isSome]
  generalize la.length = LA at *
  generalize lb.length = LB at *
  generalize hf3 : w3.heap.size = b3 at *
  replace hw4 := hidden hw4
  go_upto_region 8 with fail
  rw [hw4.out]
  clear hw4
  go_wp2_with fail
  refine (kS4.out).mono ?_
  rintro ev w5 ⟨rfl, q0, x, k, hx, hN5, hF5, hH5, hQ5⟩
  have kL := hidden (lose_no hF5 hH5 x k hx)
  have x0 := hN5.c0
  have x1 := hN5.c1
  have l5 := hN5.lt
  have l6 := lt_of_cell (a := ⟨w.heap.size, 0, none⟩) q0
  replace hQ5 := hidden hQ5
  clear hN5 hF5 hH5 kS4 hx
  go_wp2_with fail
  refine (kL.out).mono ?_
  rintro ev w6 ⟨rfl, hB6⟩
  have hE := hidden (hQ.out _ _ hQ5.out hB6)
  clear hB6 kL
  go_wp2
  go_ret
  exact ⟨rfl, hE.out⟩
theorem TreeOk.turn {tn p i : Nat} {r : Rec} {t : List UInt8} (ht : TreeOk tn K D T) (p1 : 1 <= p) (p2 : p <= tn) (hk : K p = 2) (hr : (T p)[i]? = some r) (hok : okB t = true) (hno : lookT (T p) t = none) :
    TreeOk tn K (upd D p (recsL ((T p).set i ⟨t, r.id⟩))) (upd T p ((T p).set i ⟨t, r.id⟩)) := by
  obtain ⟨hD, hG⟩ := ht.recs p p1 p2 hk
  have hrg := hG.each r (List.mem_of_getElem? hr)
  refine ⟨ht.root, fun q q1 q2 hq => ?_, fun q q1 q2 hq x hx => ?_⟩
  · by_cases hqp : q = p
    · subst hqp
      rw [upd_same, upd_same]
      exact ⟨rfl, hG.set (r := ⟨t, r.id⟩) ⟨hok, hrg.lo, hrg.hi⟩ (fun j y hy _ => lookT_none hno y (List.mem_of_getElem? hy))⟩
    · rw [upd_other _ _ hqp, upd_other _ _ hqp]
      exact ht.recs q q1 q2 hq
  · by_cases hqp : q = p
    · subst hqp
      rw [upd_same] at hx
      rcases List.mem_or_eq_of_mem_set hx with h | h
      · exact ht.used q q1 q2 hq x h
      · subst h
        exact ht.used q q1 q2 hq r (List.mem_of_getElem? hr)
    · rw [upd_other _ _ hqp] at hx
      exact ht.used q q1 q2 hq x hx
theorem rename_turn (h : Fsz fb rs hb E K D T f lim w) (hno : HNo fb hb E w) {a b s t : List UInt8} {l : List (List UInt8)} {p i : Nat} {r : Rec} {lv : List (List Nat)} (m : TurnsT K T E.tn a b l s t p i r lv) (hlim : lim <= 300000000) :
    Calls Tryz.prog 38 #[ptr fb, .string (mkB a), .string (mkB b)] w fun e w' => e = .returned .nilIface /\ Fsz fb rs hb E.rest K (upd D p (recsL ((T p).set i ⟨t, r.id⟩))) (upd T p ((T p).set i ⟨t, r.id⟩)) f (lim + 1000) w' /\ E.Turns fb w w' := by
  have hpl := h.pl
  have htn1 := hpl.tn1
  obtain ⟨p1, p2, hk⟩ := dirT_in h.tree htn1 m.dir
  obtain ⟨hDp, hGp⟩ := h.tree.recs p p1 p2 hk
  have htok : okB t = true := (may_all (split_may m.pb)).2 t (by simp)
  have hlen : (T p).length <= 125 := by
    have := h.s.to.len p1 p2
    rw [hDp, recsL_len hGp.each] at this
    omega
  have hsum : sumL D [p] = bkL (T p).length := by
    show (blk ((D p).length : Int)).toNat + 0 = _
    rw [hDp, recsL_len hGp.each]
    rfl
  have hbk : bkL (T p).length <= 40 := by
    have e := bkL_eq (T p).length
    unfold blk at e
    split at e <;> (try split at e) <;> (try split at e) <;> omega
  obtain ⟨A, U, ku, ok', -, hS'⟩ := h.s.re hpl [p] [p] (fun x hx => by simp at hx; subst hx; exact ⟨p1, p2⟩) (fun x hx => by simp at hx; subst hx; exact ⟨p1, p2⟩) 0 (Nat.zero_le _) (by rw [hsum]; show 2 + 1 + _ + 0 <= 87; omega)
  have hfar := h.far
  have hah := h.s.to.lts
  refine rename_via (E := E.rest) (rs := rs) (hb := hb) (Q := fun w' => Fsz fb rs hb E.rest K (upd D p (recsL ((T p).set i ⟨t, r.id⟩))) (upd T p ((T p).set i ⟨t, r.id⟩)) f (lim + 1000) w' /\ E.Turns fb w w') m.la m.lb m.pa m.pb (by simp) (by simp) (fun w1 w2 hq hB => ⟨hq.1.below hB, hq.2.trans (Apart.of_below hB)⟩) (fun wx b0 b1 b2 b3 hx hb0 hb3 hbx => ?_)
  have hF' : FsAt fb (E.at A U (· ∈ [p]) (· ∈ [p]) ku) rs hb wx := (h.at_.below hx).at _ _ _ _ _
  have hSx := (hS'.more hx).to
  have kM := move_turn hF' hSx ok' h.tree htn1 m (show p ∈ [p] by simp) (show p ∈ [p] by simp)
  have hmb3 : b3 ≠ E.mb := by unfold TE.Ahead at hah; omega
  have kR := rename1_ok (x := 0) (k := 0) (Q := fun w1 => Apart [E.mb] wx w1 /\ FsAt fb (E.at A U (· ∈ [p]) (· ∈ [p]) ku) rs hb w1 /\ S8 (E.at A U (· ∈ [p]) (· ∈ [p]) ku) K (upd D p (recsL ((T p).set i ⟨t, r.id⟩))) f 0 lim w1) hbx (kM.mono (by
    rintro e w1 ⟨rfl, hS1, hA1⟩
    have hA1' : Apart [E.mb] wx w1 := hA1
    have hN1 := hbx.n.keep hA1' (by simpa using hmb3)
    refine ⟨rfl, hN1, ?_⟩
    have e0 := setCell_self hN1.c0
    rw [e0, setCell_self hN1.c1]
    exact ⟨hA1', hF'.keep hA1' (fun hm => hfar.1 (List.mem_singleton.1 hm)), hS1⟩))
  refine (step_ok (P := fun w1 => Apart [E.mb] wx w1 /\ FnAt w1 b3 0 0) (K := K) (D := upd D p (recsL ((T p).set i ⟨t, r.id⟩))) (f := f) (u := 0) (lim := lim) ent_rename1 hF' hfar ok' hpl.far hpl.live (by show 1 <= E.most /\ E.most <= 200; rw [hpl.most]; omega) hlim (kR.mono ?_)).mono ?_
  · rintro e w1 ⟨rfl, hN1, hA1, hF1, hS1⟩
    exact ⟨rfl, ⟨hA1, hN1⟩, hF1, hS1⟩
  · rintro e w2 ⟨rfl, w1, ⟨hA1, hN1⟩, hF2, hS2, hA2⟩
    have hA2' : Apart [E.d, E.g, E.mb] w1 w2 := hA2
    have hlow : ∀ k ∈ [E.d, E.g, E.mb], k < w.heap.size := fun k hk => by
      unfold TE.Ahead at hah
      simp only [List.mem_cons, List.not_mem_nil, or_false] at hk
      omega
    have hturn : E.Turns fb w w2 := turns_of hx hA1 hA2'
    have c0 := hbx.c0
    have l0 := lt_of_cell (a := ⟨b0, 0, none⟩) c0
    have d0 := (hA1.cell (p := ⟨b0, 0, none⟩) l0 (fun hm => by have := hlow b0 (by simp at hm ⊢; omega); omega)).trans c0
    refine ⟨rfl, ?_, 0, 0, by decide, hN1.keep hA2' (fun hm => by have := hlow _ hm; omega), ⟨hF2.c0, hF2.c1, hF2.c2, hF2.c3, hF2.c4, hF2.c5, hF2.c6, hF2.c7, hF2.f7⟩, ?_, ⟨⟨⟨hF2.c0, hF2.c1, hF2.c2, hF2.c3, hF2.c4, hF2.c5, hF2.c6, hF2.c7, hF2.f7⟩, hS2.rest, hpl.at _ _ _ _ _, hfar, h.tree.turn p1 p2 hk m.at_ htok m.no⟩, hturn⟩⟩
    · exact (hA2'.cell (p := ⟨b0, 0, none⟩) (lt_of_cell (a := ⟨b0, 0, none⟩) d0) (fun hm => by have := hlow _ hm; simp only at this; omega)).trans d0
    · exact ⟨(hno.turns hturn).no, hno.ne⟩
end
theorem lit_c (m : Nat) (w : World) (zs : List Int) (hr : ∀ z ∈ zs, 0 <= z /\ z <= 255) (hl : zs.length <= 1000) (hm : m < w.heap.size) (fz : Nat × Nat) (o : Obj) (ho : o = .cells (zs.map (Value.int .u8)).toArray 5 fz) : BytesC m (w.alloc o) (.slice (some ⟨w.heap.size, 0, none⟩) zs.length zs.length) zs := by
  subst ho
  obtain ⟨a, c, e, q1, q2, q3, q4⟩ := lit_bytes w zs hr hl fz
  obtain ⟨rfl, -, rfl⟩ := Value.slice.inj e
  refine ⟨_, _, rfl, Nat.le_refl _, q2, q1, q3, fun hne => ?_⟩
  obtain ⟨b, off, eb, hb, hk⟩ := q4 hne
  simp only [Option.some.injEq, Addr.mk.injEq] at eb
  obtain ⟨rfl, rfl, -⟩ := eb
  exact ⟨_, 0, rfl, hb, by omega, hk⟩
section
variable {fb rs hb : Nat} {E : TE} {w w' : World} {K : Nat -> Nat} {D : Nat -> List Int} {T : Nat -> List Rec} {f u lim : Nat}
theorem fRename_ok {a b : List UInt8} {Q : World -> Prop} (k : Calls Tryz.prog 38 #[ptr fb, .string (mkB a), .string (mkB b)] w fun e w' => e = .returned .nilIface /\ Q w') :
    Calls Tryz.prog 13 #[ptr fb, .string (mkB a), .string (mkB b)] w fun e w' => e = .returned .nilIface /\ Q w' := by
  replace k := hidden k
  have kW := hidden (fun (wx : World) => wrap_nil sRename (mkB a) wx)
  unfold sRename at kW
  go_enter Tryz.func13, Tryz.ntmps13
  go_wp2_with fail
  refine (k.out).mono ?_
  rintro ev w1 ⟨rfl, hQ⟩
  replace hQ := hidden hQ
  go_wp2_with fail
  refine (kW.out _).mono ?_
  rintro ev w2 ⟨rfl, hw2⟩
  subst w2
  go_wp2
  go_ret
  exact ⟨rfl, hQ.out⟩
theorem lv_file {tn x : Nat} (h1 : 1 <= x) (h2 : x <= tn) (hk : K x ≠ 2) : LvOk K T tn x [[x]] := by
  have hkid : kidsT K T x = [] := by unfold kidsT; rw [if_neg hk]
  refine ⟨rfl, fun j l hl => ?_, by simp, fun i hi => by simp at hi; subst hi; exact ⟨h1, h2⟩⟩
  match j, hl with
  | 0, hl =>
    obtain rfl : [x] = l := by simpa using hl
    exact ⟨by simp, by simp [hkid]⟩
  | j + 1, hl => simp at hl
theorem sound_flat {tn : Nat} {ks : List Nat} (htn : 1 <= tn) (hk1 : kidsT K T 1 = ks) (hne : ks ≠ []) (hnd : (1 :: ks).Nodup) (hin : ∀ x ∈ ks, 1 <= x /\ x <= tn /\ K x ≠ 2) (hall : ∀ id, 1 <= id -> id <= tn -> K id ≠ 0 -> id ∈ 1 :: ks) : Sound K T tn [[1], ks] := by
  have hkid : ∀ x ∈ ks, kidsT K T x = [] := fun x hx => by unfold kidsT; rw [if_neg (hin x hx).2.2]
  refine ⟨⟨rfl, fun j l hl => ?_, by simpa using hnd, fun i hi => ?_⟩, by simp, fun id a b c => by simpa using hall id a b c⟩
  · match j, hl with
    | 0, hl =>
      obtain rfl : [1] = l := by simpa using hl
      exact ⟨by simp, by simp [hk1]⟩
    | 1, hl =>
      obtain rfl : ks = l := by simpa using hl
      refine ⟨hne, ?_⟩
      show ks.flatMap (kidsT K T) = []
      rw [List.flatMap_eq_nil_iff]
      exact hkid
    | j + 2, hl => simp at hl
  · rcases (by simpa using hi : i = 1 \/ i ∈ ks) with rfl | h
    · exact ⟨Nat.le_refl _, htn⟩
    · exact ⟨(hin i h).1, (hin i h).2.1⟩
end
def helloL : List Int := [104, 101, 108, 108, 111]
theorem fmt200 : FmtN 200 10 2 93 := ⟨by omega, by omega, by omega, by omega, by omega, by omega, by omega, by omega⟩
def aK1 : Nat -> Nat := upd rootK 2 1
def aT1 : Nat -> List Rec := upd (fun _ => []) 1 ([] ++ [⟨[97], 2⟩])
def aT2 : Nat -> List Rec := upd aT1 1 ((aT1 1).set 0 ⟨[98], 2⟩)
theorem aKids : kidsT aK1 aT2 1 = [2] := by
  have e : namesT aT2 1 = [[98]] := by
    have e1 : (aT2 1).map Rec.s = [[98]] := rfl
    unfold namesT
    rw [e1]
    simp [sortS]
  unfold kidsT
  rw [e]
  rfl
theorem aUsed : ∀ id, 1 <= id -> aK1 id ≠ 0 -> id = 1 \/ id = 2 := by
  intro id h1 hk
  by_cases h2 : id = 2
  · exact Or.inr h2
  · by_cases h3 : id = 1
    · exact Or.inl h3
    · refine absurd ?_ hk
      unfold aK1 rootK
      rw [upd_other _ _ h2, upd_other _ _ h3]
theorem aSound : Sound aK1 aT2 10 [[1], [2]] := sound_flat (by omega) aKids (by simp) (by simp) (fun x hx => by simp at hx; subst hx; exact ⟨by omega, by omega, by decide⟩) (fun id a _ c => by rcases aUsed id a c with rfl | rfl <;> simp)
theorem awake11_calls (w : World) (hG : Ground w) (hgt : GT w) :
    Calls Tryz.prog 21 #[] w fun e w' => e = .returned (.bool true) /\ Below w.heap.size w w' := by
  have kN := hidden (New11_calls fmt200 w hG)
  replace hgt := hidden hgt
  clear hG
  go_enter Tryz.func21, Tryz.ntmps21
  go_wp2_with fail
  refine (kN.out).mono ?_
  rintro ev w1 ⟨E, fb, hb, xb, rfl, hN⟩
  have hm1 : E.mb < w1.heap.size := hN.z.s.to.lts.2.2.2.2.1
  have x1 := hN.x1
  have l1 := lt_of_cell (a := ⟨xb, 1, none⟩) x1
  have htn := hN.tn
  have hcv : (convert 38 38 (.slice (some ⟨w1.heap.size, 0, none⟩) 5 5)).run Tryz.prog (w1.alloc (.cells #[.int .u8 104, .int .u8 101, .int .u8 108, .int .u8 108, .int .u8 111] 5)) = .ok (.slice (some ⟨w1.heap.size, 0, none⟩) 5 5) (w1.alloc (.cells #[.int .u8 104, .int .u8 101, .int .u8 108, .int .u8 108, .int .u8 111] 5 (5, 6))) := Lib.run_convert_bytes_const w1 _ _ _ 5 5 Tryz.underlying38 Tryz.underlying5
  have hB2 : Below w1.heap.size w1 (w1.alloc (.cells #[.int .u8 104, .int .u8 101, .int .u8 108, .int .u8 108, .int .u8 111] 5 (5, 6))) := (Below.refl _ _).alloc (Nat.le_refl _) _
  have hc2 : BytesC E.mb (w1.alloc (.cells #[.int .u8 104, .int .u8 101, .int .u8 108, .int .u8 108, .int .u8 111] 5 (5, 6))) (.slice (some ⟨w1.heap.size, 0, none⟩) 5 5) helloL := lit_c E.mb w1 helloL (by simp [helloL]) (by simp [helloL]) hm1 _ _ rfl
  have kP := put_new (hN.z.below hB2) (path := [47, 97]) (l := []) (s := [97]) (by simp) (by decide) hc2 (by simp [helloL]) (p := 1) (by rfl) (by rfl) (by simp) (id := 2) (by omega) (by rw [htn]; omega) (by rfl) (fun i a b => by have e : i = 1 := (by omega); rw [e]; decide) false (gn := 1) (bn := 1) (by decide) (by decide) (by decide) (by omega)
  have kP' : Calls Tryz.prog 10 #[ptr fb, .string ⟨#[47, 97]⟩, .slice (some ⟨w1.heap.size, 0, none⟩) 5 5] _ _ := fPut_ok (path := [47, 97]) (Q := fun w' => (∃ f', f' + 1 + 1 = 93 /\ Fsz fb 2 hb E.rest aK1 (upd (upd (fun _ => []) 1 (recsL [⟨[97], 2⟩])) 2 helloL) aT1 f' (6000 + 1000) w') /\ E.Turns fb _ w') kP
  replace kP' := hidden kP'
  have hH := hidden (And.intro hN hB2)
  clear hN hB2 hc2 kP kN
  go_wp2_with fail
  refine (kP'.out).mono ?_
  rintro ev w2 ⟨rfl, ⟨f2, hf2, hz2⟩, hT2⟩
  obtain rfl : f2 = 91 := by omega
  have hno2 : HNo fb hb E w2 := (hH.out.1.no.below hH.out.2).turns hT2
  have hxb2 : w2.cell? ⟨xb, 1, none⟩ = some (ptr fb) := by
    have c := (hH.out.2.cell (p := ⟨xb, 1, none⟩) l1).trans x1
    exact (hT2.cell (p := ⟨xb, 1, none⟩) (lt_of_cell (a := ⟨xb, 1, none⟩) c) (by have := hH.out.1.xn; simp; omega)).trans c
  have l2 := lt_of_cell (a := ⟨xb, 1, none⟩) hxb2
  have kR := fRename_ok (rename_turn hz2 (by exact hno2.at _ _ _ _ _) (a := [47, 97]) (b := [47, 98]) (s := [97]) (t := [98]) (l := []) (p := 1) (i := 0) (r := ⟨[97], 2⟩) (lv := [[2]]) ⟨by simp, by simp, by decide, by decide, by decide, by decide, by rfl, by rfl, rfl, by rfl, by rfl, lv_file (by show 1 <= 2; omega) (by show 2 <= E.tn; rw [hH.out.1.tn]; omega) (by decide), by simp⟩ (by omega))
  have kR' : Calls Tryz.prog 13 #[ptr fb, .string ⟨#[47, 97]⟩, .string ⟨#[47, 98]⟩] w2 _ := kR
  replace kR' := hidden kR'
  have hbel2 := hidden (show Below w.heap.size w w2 from by have := hz2.s.to.below; rw [show E.rest.w0 = w from hH.out.1.w0] at this; exact this)
  have hH2 := hidden (And.intro hno2 hH.out.1.xn)
  clear hz2 hT2 hno2 kP' kR hcv
  go_wp2_with fail
  refine (kR'.out).mono ?_
  rintro ev w3 ⟨rfl, hz3, hT3⟩
  have hz3' : Fsz fb 2 hb E.rest aK1 (upd (upd (upd (fun _ => []) 1 (recsL [⟨[97], 2⟩])) 2 helloL) 1 (recsL ((aT1 1).set 0 ⟨[98], 2⟩))) aT2 91 (6000 + 1000 + 1000) w3 := hz3
  have hxb3 : w3.cell? ⟨xb, 1, none⟩ = some (ptr fb) := (hT3.cell (p := ⟨xb, 1, none⟩) l2 (by have hx : xb ≠ E.d /\ xb ≠ E.g /\ xb ≠ E.mb /\ xb ≠ fb := hH2.out.2; show xb ∉ [E.d, E.g, E.mb, fb]; simp; omega)).trans hxb2
  have l3 := lt_of_cell (a := ⟨xb, 1, none⟩) hxb3
  have hlow := hidden (show ∀ k ∈ [E.d, E.g, E.mb, fb], k < w3.heap.size from fun k hk => by
    have h1 : E.d < w3.heap.size /\ E.g < w3.heap.size /\ E.jb < w3.heap.size /\ E.cb < w3.heap.size /\ E.mb < w3.heap.size /\ E.ab < w3.heap.size /\ E.tb < w3.heap.size /\ E.w0.heap.size <= w3.heap.size := hz3'.s.to.lts
    have h2 := hz3'.at_.lt
    simp only [List.mem_cons, List.not_mem_nil, or_false] at hk
    omega)
  have kG := fGet_ok (get_ok hz3' (path := [47, 98]) (l := [[98]]) (by simp) (by decide) (q := 2) (by rfl) (by rfl) (by omega))
  have kG' : Calls Tryz.prog 17 #[ptr fb, .string ⟨#[47, 98]⟩] w3 _ := kG
  replace kG' := hidden kG'
  clear hz3 hT3 kR' kG hxb2 l2
  go_wp2_with fail
  refine (kG'.out).mono ?_
  rintro ev w4 ⟨v4, rfl, hV4, hz4, hT4⟩
  have hxb4 : w4.cell? ⟨xb, 1, none⟩ = some (ptr fb) := (hT4.cell (p := ⟨xb, 1, none⟩) l3 (by have hx : xb ≠ E.d /\ xb ≠ E.g /\ xb ≠ E.mb /\ xb ≠ fb := hH2.out.2; show xb ∉ [E.d, E.g, E.mb, fb]; simp; omega)).trans hxb3
  have l4 := lt_of_cell (a := ⟨xb, 1, none⟩) hxb4
  have kA := fGet_err (get_no hz4 (path := [47, 97]) (l := [[97]]) (by simp) (by decide) (m := 11) (by rfl) (by rfl))
  have kA' : Calls Tryz.prog 17 #[ptr fb, .string ⟨#[47, 97]⟩] w4 _ := kA
  replace kA' := hidden kA'
  have hV4' : OwnV w3.heap.size w4 v4 helloL := hV4
  have hV := hidden hV4'
  clear hz4 hT4 kG' kA hxb3 l3 hV4 hz3' hV4'
  go_wp2_with fail
  refine (kA'.out).mono ?_
  rintro ev w5 ⟨er, rfl, ⟨ll, bk, rfl, hc5⟩, hz5, hT5⟩
  have hT5' : Apart [E.d, E.g, E.mb, fb] w4 w5 := hT5
  have hxb5 : w5.cell? ⟨xb, 1, none⟩ = some (ptr fb) := (hT5'.cell (p := ⟨xb, 1, none⟩) l4 (by have hx : xb ≠ E.d /\ xb ≠ E.g /\ xb ≠ E.mb /\ xb ≠ fb := hH2.out.2; show xb ∉ [E.d, E.g, E.mb, fb]; simp; omega)).trans hxb4
  have l5 := lt_of_cell (a := ⟨xb, 1, none⟩) hxb5
  have hV5 := hV.out.keep hT5' hlow.out
  have hcv := conv_bytes _ _ _ (ownV_at hV5)
  have heq : ofBytes helloL = ⟨#[104, 101, 108, 108, 111]⟩ := rfl
  rw [heq] at hcv
  have hbel5 : Below w.heap.size w w5 := by have := hz5.s.to.below; rw [show E.rest.rest.rest.w0 = w from hH.out.1.w0] at this; exact this
  have kI := law_is 11 (by decide) w5 sGet (mkB [47, 97]) ll (flt bk) hc5 (hgt.out.below (hbel5.mono (Nat.le_refl _)))
  have kI' : Calls Tryz.prog 19 #[flt bk, .string ⟨#[103, 101, 116]⟩, .string ⟨#[47, 97]⟩, .int .i64 11] w5 _ := kI
  replace kI' := hidden kI'
  obtain ⟨va, vc, rfl⟩ : ∃ va vc, v4 = .slice va 5 vc := by
    obtain ⟨a, c, e, -⟩ := ownV_at hV5
    exact ⟨a, c, e⟩
  have kx5 := hidden (fun (wx : World) (hx : Below w5.heap.size w5 wx) => (hx.cell (p := ⟨xb, 1, none⟩) l5).trans hxb5)
  have kC := hidden (fun (wx : World) (hx : Below w5.heap.size w5 wx) => fCheck_ok (hz5.below hx) (lv := [[1], [2]]) (by rw [show E.rest.rest.rest.tn = 10 from hH.out.1.tn]; exact aSound) (by show E.k <= 500; rw [hH.out.1.k]; omega) (by omega))
  clear hz5 hT5 hT5' kA' hxb4 l4 hV5 hc5 kI hV hbel5
  go_wp2_with fail
  refine (kI'.out).mono ?_
  rintro ev w6 ⟨rfl, hB6⟩
  have y1 := kx5.out w6 hB6
  have l6 := lt_of_cell (a := ⟨xb, 1, none⟩) y1
  have kC6 := hidden (kC.out w6 hB6)
  clear hB6 kC kx5 hxb5 l5 kI'
  go_wp2_with fail
  refine (kC6.out).mono ?_
  rintro ev w7 ⟨rfl, hz7, hT7⟩
  have hE := hidden (show Below w.heap.size w w7 from by have := hz7.s.to.below; rw [show E.rest.rest.rest.rest.w0 = w from hH.out.1.w0] at this; exact this)
  clear hz7 hT7 kC6
  go_wp2
  go_ret
  exact ⟨rfl, hE.out⟩
end Go.Proofs.YtpofmiecjkghgaaGreatDoor
