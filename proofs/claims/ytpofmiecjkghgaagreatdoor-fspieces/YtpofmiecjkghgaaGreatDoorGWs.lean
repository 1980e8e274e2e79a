/- List, Hold, Stat refused. -/
import Derived.Test.YtpofmiecjkghgaaGreatDoorGWp
import Derived.Test.YtpofmiecjkghgaaGreatDoorGWg
import Derived.Test.YtpofmiecjkghgaaGreatDoorGXi
import Derived.Test.YtpofmiecjkghgaaGreatDoorGXf
import Derived.Test.YtpofmiecjkghgaaGreatDoorGXa
import Derived.Test.YtpofmiecjkghgaaGreatDoorGXd
import Derived.Test.YtpofmiecjkghgaaGreatDoorGWm
import Derived.Test.YtpofmiecjkghgaaGreatDoorGWc
import Derived.Test.YtpofmiecjkghgaaGreatDoorGWq
namespace Go.Proofs.YtpofmiecjkghgaaGreatDoor
open Go.RowKit Go.Extern.Stop Go.Stop Go.Extern Go.Maps Go.Sort Go.Shelf
set_option maxRecDepth 100000
theorem ent_list1 : ∀ (args : Array Value) (w : World), (callFunc 100 args).run Tryz.prog w = .ok (.enter 100 args) w := enters_of Tryz.func100 (by kernel_rfl) rfl
theorem ent_hold1 : ∀ (args : Array Value) (w : World), (callFunc 68 args).run Tryz.prog w = .ok (.enter 68 args) w := enters_of Tryz.func68 (by kernel_rfl) rfl
section
variable {fb rs hb : Nat} {E : TE} {w w' : World} {K : Nat -> Nat} {D : Nat -> List Int} {T : Nat -> List Rec} {f u lim : Nat}
set_option maxHeartbeats 2000000 in
theorem list1_file {c0 c1 q : Nat} (g0 : w.cell? ⟨c0, 0, none⟩ = some (ptr fb)) (hF : FsAt fb E rs hb w) (h : S8 E K D f u lim w) (ok : E.Ok) (h1 : 1 <= q) (h2 : q <= E.tn) (hk : K q ≠ 2) :
    Calls Tryz.prog 100 #[fnV (q : Nat) (K q : Nat), ptr c0, ptr c1] w fun e w' => ∃ ll ev, e = .returned ev /\ Chain w' ll (num 14) ev /\ Below w.heap.size w w' := by
  obtain ⟨w1, hw1, hB1, hN1⟩ : ∃ w1, w.alloc (.cells #[.int .i64 (q : Nat), .int .i64 (K q : Nat)] 105) = w1 /\ Below w.heap.size w w1 /\ FnAt w1 w.heap.size (q : Nat) (K q : Nat) := ⟨_, rfl, (Below.refl _ _).alloc (Nat.le_refl _) _, fn_new _ _ _⟩
  have kO := hidden (fun (wx : World) (hx : Below w1.heap.size w1 wx) => of_kind ok (h.more (hB1.trans (hx.mono hB1.size))) h1 h2 hk)
  have hF1 := hF.below hB1
  have c2 := hF1.c2
  have hlt := hF1.lt
  have l0 := lt_of_cell (a := ⟨c0, 0, none⟩) g0
  have e0 := (hB1.cell (p := ⟨c0, 0, none⟩) l0).trans g0
  have l1 := lt_of_cell (a := ⟨c0, 0, none⟩) e0
  have n0 := hN1.c0
  have ln := hN1.lt
  replace hB1 := hidden hB1
  replace hw1 := hidden hw1
  clear hF h ok hF1 hN1
  generalize ((K q : Nat) : Int) = KQ at *
  go_enter Tryz.func100, Tryz.ntmps100
  go_upto_region 1 with fail
  rw [hw1.out]
  clear hw1
  go_region_with (go_at_call 101; refine (kO.out _ (below_drew1 w1)).mono ?_; rintro ev w4 ⟨bk, rfl, hc, hB4⟩)
  all_goals
    have hE := hidden (And.intro hc (hB1.out.trans (((below_drew1 w1).trans hB4).mono hB1.out.size)))
    clear hc hB4
    go_wp2
    go_ret
    exact ⟨_, _, rfl, hE.out⟩
theorem boxesL (w : World) (fb : Nat) : ∃ w2, (w.alloc (Obj.cells #[ptr fb] 31)).alloc (Obj.cells #[.slice none 0 0] 50) = w2 /\ Below w.heap.size w w2 /\ w2.cell? ⟨w.heap.size, 0, none⟩ = some (ptr fb) /\ w2.cell? ⟨w.heap.size + 1, 0, none⟩ = some (.slice none 0 0) := boxes_two w _ _ _ _
theorem list_fail (h : Fsz fb rs hb E K D T f lim w) {path : List UInt8} {l : List (List UInt8)} (hlen : path.length <= 2000) (hp : splitB path = some l) {q : Nat} (hq : walkT K T 1 l = .ok q) (hk : K q ≠ 2) :
    Calls Tryz.prog 49 #[ptr fb, .string (mkB path)] w fun e w' => ∃ ev, e = .returned (.tuple #[.slice none 0 0, ev]) /\ Refused fb rs hb E K D T f lim 14 w ev w' := by
  have hmf : ∀ (fn : Fn) (first cap : Array Value) (w : World), (Instr.makeFunc fn first cap).run Tryz.prog w = .ok (.func fn first cap) w := fun _ _ _ _ => rfl
  have hmp := may_all (split_may hp)
  have hmfar := h.mfar
  obtain ⟨q1, q2, -⟩ := walkT_in h.tree l 1 q (Nat.le_refl _) h.pl.tn1 (by rw [h.tree.root]; decide) hq
  obtain ⟨wx, hw2, hx, g0, g1⟩ := boxesL w fb
  have hc2 := lt_of_cell (a := ⟨w.heap.size + 1, 0, none⟩) g1
  have kA := hidden (at_via (w := wx) (fb := fb) (fc := 100) (caps := #[ptr w.heap.size, ptr (w.heap.size + 1)]) (Q := fun ev w' => w'.cell? ⟨w.heap.size + 1, 0, none⟩ = some (.slice none 0 0) /\ Refused fb rs hb E K D T f lim 14 w ev w') hlen hp (fun wy b0 b1 b2 names hy hbx hT => by
    have hxy : Below w.heap.size w wy := hx.trans (hy.mono hx.size)
    have hr := h.rest.below hxy
    have k0 := (hy.cell (p := ⟨w.heap.size, 0, none⟩) (lt_of_cell (a := ⟨w.heap.size, 0, none⟩) g0)).trans g0
    have kC := at1_ok (E := E.rest) (K := K) (D := D) (T := T) (q := q) ent_list1 hbx hr.at_ hr.s.to h.pl.rest_ok hr.tree h.pl.tn1 hT (by omega) hmp.2 hq (Q := fun ev w' => ∃ ll, Chain w' ll (num 14) ev /\ Below wy.heap.size wy w') (fun wz hz => by
      refine (list1_file (E := E.rest) (K := K) (D := D) (f := f) (u := 0) (lim := lim) ((hz.cell (p := ⟨w.heap.size, 0, none⟩) (lt_of_cell (a := ⟨w.heap.size, 0, none⟩) k0)).trans k0) (hr.at_.below hz) (hr.s.to.more hz) h.pl.rest_ok q1 q2 hk).mono ?_
      rintro e w' ⟨ll, ev, rfl, hc, hB⟩
      exact ⟨ev, rfl, ll, hc, hz.trans (hB.mono hz.size)⟩)
    refine (step_err (E := E.rest) (K := K) (D := D) (f := f) (u := 0) (lim := lim) (P := fun w1 _ => Below wy.heap.size wy w1) (m := 14) rfl ent_at1 hr.at_ hr.far h.pl.rest_ok (kC.mono ?_)).mono ?_
    · rintro e w1 ⟨ev, rfl, ll, hc, hB⟩
      exact ⟨ll, ev, rfl, hc, hB, hr.at_.below hB, hr.s.more hB⟩
    · rintro e w2 ⟨ll, ev, w1, rfl, hc, hB, hF2, hS2, hA⟩
      have hA' : Apart [E.mb, fb] w1 w2 := hA
      have hb1 : Below wx.heap.size wx w1 := hy.trans (hB.mono hy.size)
      refine ⟨ev, rfl, ?_, ⟨ll, hc⟩, ⟨hF2, hS2, h.pl.at _ _ _ _ _, h.far, h.tree⟩, turns_err hxy hB hA⟩
      have k1 := (hb1.cell (p := ⟨w.heap.size + 1, 0, none⟩) hc2).trans g1
      refine (hA'.cell (p := ⟨w.heap.size + 1, 0, none⟩) (lt_of_cell (a := ⟨w.heap.size + 1, 0, none⟩) k1) (fun hm' => ?_)).trans k1
      simp only [List.mem_cons, List.not_mem_nil, or_false] at hm'
      omega))
  replace hw2 := hidden hw2
  clear h g1 hx hmp
  go_enter Tryz.func49, Tryz.ntmps49
  go_upto_region 2 with fail
  rw [hw2.out]
  clear hw2
  go_wp2_with fail
  refine (kA.out).mono ?_
  rintro ev w3 ⟨er, rfl, hc, hQ⟩
  have hl3 := lt_of_cell (a := ⟨w.heap.size + 1, 0, none⟩) hc
  replace hQ := hidden hQ
  go_wp2
  go_ret2
  exact ⟨er, rfl, hQ.out⟩
set_option maxHeartbeats 1000000 in
theorem hold1_dir {c0 q : Nat} :
    Calls Tryz.prog 68 #[fnV (q : Nat) 2, ptr c0] w fun e w' => e = .returned (num 13) /\ Below w.heap.size w w' := by
  have hB : Below w.heap.size w (w.alloc (.cells #[.int .i64 (q : Nat), .int .i64 2] 105)) := (Below.refl _ _).alloc (Nat.le_refl _) _
  replace hB := hidden hB
  go_enter Tryz.func68, Tryz.ntmps68
  go_wp2
  go_ret
  exact ⟨rfl, hB.out⟩
set_option maxHeartbeats 2000000 in
theorem at1_one {b0 b1 b2 c0 : Nat} {fc : FuncId} (hent : ∀ (args : Array Value) (w : World), (callFunc fc args).run Tryz.prog w = .ok (.enter fc args) w) {names : Value} (hB : ABox b0 b1 b2 fb names (.func (.func fc) #[] #[ptr c0]) w) {q : Nat} (hF : FsAt fb E rs hb w) (h : S8 E K D f u lim w) (ok : E.Ok) (ht : TreeOk E.tn K D T) (htn : 1 <= E.tn) {l : List (List UInt8)} (hv : TxtsAt w names l) (hl : l.length <= 1000) (hok : ∀ s ∈ l, okB s = true) (hq0 : walkT K T 1 l = .ok q) {Q : Value -> World -> Prop}
    (kD : ∀ wx, Below w.heap.size w wx -> Calls Tryz.prog fc #[fnV (q : Nat) (K q : Nat), ptr c0] wx fun e w' => ∃ ev, e = .returned ev /\ Q ev w') :
    Calls Tryz.prog 126 #[ptr b0, ptr b1, ptr b2] w fun e w' => ∃ ev, e = .returned ev /\ Q ev w' := by
  have kW := hidden (fwalk_calls hF h ok ht htn hv hl hok)
  have d0 := hB.c0
  have d1 := hB.c1
  have d2 := hB.c2
  replace hq0 := hidden hq0
  replace kD := hidden kD
  obtain ⟨a, cap, rfl, -⟩ := hv
  clear hB hF h ok ht hok
  generalize l.length = LL at *
  go_enter Tryz.func126, Tryz.ntmps126
  go_wp2_with fail
  refine (kW.out).mono ?_
  rintro ev w1 ⟨(⟨q', hq, rfl⟩ | ⟨m', bk, nm, hq, -⟩), hB1⟩
  rotate_left
  · rw [hq0.out] at hq; cases hq
  obtain rfl : q = q' := by rw [hq0.out] at hq; exact Except.ok.inj hq
  obtain ⟨w2, hw2, hB2, hN2⟩ : ∃ w2, w1.alloc (Obj.cells #[.int .i64 (q : Nat), .int .i64 (K q : Nat)] 105) = w2 /\ Below w1.heap.size w1 w2 /\ FnAt w2 w1.heap.size (q : Nat) (K q : Nat) := ⟨_, rfl, (Below.refl _ _).alloc (Nat.le_refl _) _, fn_new _ _ _⟩
  have hb2 : Below w.heap.size w w2 := hB1.trans (hB2.mono hB1.size)
  have e2 := (hb2.cell (p := ⟨b2, 0, none⟩) (lt_of_cell (a := ⟨b2, 0, none⟩) d2)).trans d2
  have n0 := hN2.c0
  have n1 := hN2.c1
  have hlN := hN2.lt
  have kD2 := hidden (kD.out w2 hb2)
  replace hw2 := hidden hw2
  clear hB1 hB2 hN2 hb2 kW kD hq
  generalize ((K q : Nat) : Int) = KQ at *
  go_upto_region 2 with fail
  rw [hw2.out]
  clear hw2
  go_wp2_with fail
  refine (kD2.out).mono ?_
  rintro ev w3 ⟨er, rfl, hQ⟩
  replace hQ := hidden hQ
  go_wp2
  go_ret
  exact ⟨er, rfl, hQ.out⟩
theorem hold_dir (h : Fsz fb rs hb E K D T f lim w) {path : List UInt8} {l : List (List UInt8)} (hlen : path.length <= 2000) (hp : splitB path = some l) {q : Nat} (hq : walkT K T 1 l = .ok q) (hk : K q = 2) :
    Calls Tryz.prog 36 #[ptr fb, .string (mkB path)] w fun e w' => ∃ ev, e = .returned (.tuple #[.int .i64 0, ev]) /\ Refused fb rs hb E K D T f lim 13 w ev w' := by
  have hmf : ∀ (fn : Fn) (first cap : Array Value) (w : World), (Instr.makeFunc fn first cap).run Tryz.prog w = .ok (.func fn first cap) w := fun _ _ _ _ => rfl
  have hmp := may_all (split_may hp)
  obtain ⟨wx, hw2, hx⟩ : ∃ wx, w.alloc (Obj.cells #[.int .i64 0] 3) = wx /\ Below w.heap.size w wx := ⟨_, rfl, (Below.refl _ _).alloc (Nat.le_refl _) _⟩
  have kA := hidden (at_via (w := wx) (fb := fb) (fc := 68) (caps := #[ptr w.heap.size]) (Q := fun ev w' => Refused fb rs hb E K D T f lim 13 w ev w') hlen hp (fun wy b0 b1 b2 names hy hbx hT => by
    have hxy : Below w.heap.size w wy := hx.trans (hy.mono hx.size)
    have hr := h.rest.below hxy
    have kC := at1_one (E := E.rest) (K := K) (D := D) (T := T) (q := q) ent_hold1 hbx hr.at_ hr.s.to h.pl.rest_ok hr.tree h.pl.tn1 hT (by omega) hmp.2 hq (Q := fun ev w' => ev = num 13 /\ Below wy.heap.size wy w') (fun wz hz => by
      rw [hk]
      refine (hold1_dir (w := wz) (q := q)).mono ?_
      rintro e w' ⟨rfl, hB⟩
      exact ⟨_, rfl, rfl, hz.trans (hB.mono hz.size)⟩)
    refine (step_err (E := E.rest) (K := K) (D := D) (f := f) (u := 0) (lim := lim) (P := fun w1 _ => Below wy.heap.size wy w1) (m := 13) rfl ent_at1 hr.at_ hr.far h.pl.rest_ok (kC.mono ?_)).mono ?_
    · rintro e w1 ⟨ev, rfl, rfl, hB⟩
      exact ⟨[], _, rfl, rfl, hB, hr.at_.below hB, hr.s.more hB⟩
    · rintro e w2 ⟨ll, ev, w1, rfl, hc, hB, hF2, hS2, hA⟩
      exact ⟨ev, rfl, ⟨ll, hc⟩, ⟨hF2, hS2, h.pl.at _ _ _ _ _, h.far, h.tree⟩, turns_err hxy hB hA⟩))
  replace hw2 := hidden hw2
  clear h hx hmp
  go_enter Tryz.func36, Tryz.ntmps36
  go_upto_region 2 with fail
  rw [hw2.out]
  clear hw2
  go_wp2_with fail
  refine (kA.out).mono ?_
  rintro ev w3 ⟨er, rfl, ⟨ll, hc⟩, hQ⟩
  obtain ⟨ut, uv, rfl⟩ := Chain.held hc (Or.inr ⟨_, _, rfl⟩)
  have hE := hidden (And.intro hc hQ)
  clear hc hQ
  go_wp2
  go_ret2
  exact ⟨_, rfl, ⟨ll, hE.out.1⟩, hE.out.2⟩
end
section
variable {fb rs hb : Nat} {E : TE} {w w' : World} {K : Nat -> Nat} {D : Nat -> List Int} {T : Nat -> List Rec} {f u lim : Nat}
theorem refused_none (h : Fsz fb rs hb E K D T f lim w) (hB : Below w.heap.size w w') (m : Int) : Refused fb rs hb E K D T f lim m w (num m) w' := ⟨⟨[], rfl⟩, h.rest.below hB, Apart.of_below hB⟩
set_option maxHeartbeats 1000000 in
theorem remove_root (h : Fsz fb rs hb E K D T f lim w) {path : List UInt8} (hlen : path.length <= 2000) (hp : splitB path = some []) :
    Calls Tryz.prog 37 #[ptr fb, .string (mkB path)] w fun e w' => ∃ ev, e = .returned ev /\ Refused fb rs hb E K D T f lim 1 w ev w' := by
  obtain ⟨w3, hw3, hB3⟩ : ∃ w3, w.alloc (Obj.cells #[ptr fb] 31) = w3 /\ Below w.heap.size w w3 := ⟨_, rfl, (Below.refl _ _).alloc (Nat.le_refl _) _⟩
  have kA := hidden (apart_root path hlen hp 1 w3)
  have hfin := hidden (fun (wx : World) (hx : Below w.heap.size w wx) => refused_none h hx 1)
  replace hB3 := hidden hB3
  replace hw3 := hidden hw3
  clear h
  go_enter Tryz.func37, Tryz.ntmps37
  go_upto_region 1 with fail
  rw [hw3.out]
  clear hw3
  go_wp2_with fail
  refine (kA.out).mono ?_
  rintro ev w4 ⟨rfl, hB4⟩
  obtain ⟨w6, hw6, hB6, n1, n2⟩ := boxes_two w4 (.slice none 0 0) (.string ⟨#[]⟩) 50 9
  have hE := hidden (hfin.out w6 (hB3.out.trans ((hB4.trans (hB6.mono hB4.size)).mono hB3.out.size)))
  replace hw6 := hidden hw6
  clear hB4 hB6 n1 n2 kA hB3 hfin
  go_upto_region 2 with fail
  rw [hw6.out]
  clear hw6
  go_wp2
  go_ret
  exact ⟨_, rfl, hE.out⟩
set_option maxHeartbeats 1000000 in
theorem put_root (h : Fsz fb rs hb E K D T f lim w) {path : List UInt8} (hlen : path.length <= 2000) (hp : splitB path = some []) :
    Calls Tryz.prog 35 #[ptr fb, .string (mkB path), .slice none 0 0, .bool false] w fun e w' => ∃ ev, e = .returned ev /\ Refused fb rs hb E K D T f lim 13 w ev w' := by
  obtain ⟨w3, hw3, hB3⟩ : ∃ w3, ((w.alloc (Obj.cells #[ptr fb] 31)).alloc (Obj.cells #[.slice none 0 0] 38)).alloc (Obj.cells #[.bool false] 4) = w3 /\ Below w.heap.size w w3 := ⟨_, rfl, (((Below.refl _ _).alloc (Nat.le_refl _) _).alloc (by simp) _).alloc (by simp; omega) _⟩
  have kA := hidden (apart_root path hlen hp 13 w3)
  have hfin := hidden (fun (wx : World) (hx : Below w.heap.size w wx) => refused_none h hx 13)
  replace hB3 := hidden hB3
  replace hw3 := hidden hw3
  clear h
  go_enter Tryz.func35, Tryz.ntmps35
  go_upto_region 1 with fail
  rw [hw3.out]
  clear hw3
  go_wp2_with fail
  refine (kA.out).mono ?_
  rintro ev w4 ⟨rfl, hB4⟩
  obtain ⟨w6, hw6, hB6, n1, n2⟩ := boxes_two w4 (.slice none 0 0) (.string ⟨#[]⟩) 50 9
  have hE := hidden (hfin.out w6 (hB3.out.trans ((hB4.trans (hB6.mono hB4.size)).mono hB3.out.size)))
  replace hw6 := hidden hw6
  clear hB4 hB6 n1 n2 kA hB3 hfin
  go_upto_region 2 with fail
  rw [hw6.out]
  clear hw6
  go_wp2
  go_ret
  exact ⟨_, rfl, hE.out⟩
set_option maxHeartbeats 2000000 in
theorem rename_root (h : Fsz fb rs hb E K D T f lim w) {a b : List UInt8} {lb : List (List UInt8)} (hla : a.length <= 2000) (hlb : b.length <= 2000) (hpa : splitB a = some []) (hpb : splitB b = some lb) :
    Calls Tryz.prog 38 #[ptr fb, .string (mkB a), .string (mkB b)] w fun e w' => ∃ ev, e = .returned ev /\ Refused fb rs hb E K D T f lim 1 w ev w' := by
  obtain ⟨w1, hw1, hB1, g0, g1, g2⟩ := boxesR w fb a b
  have l1 := lt_of_cell (a := ⟨w.heap.size + 1, 0, none⟩) g1
  have l2 := lt_of_cell (a := ⟨w.heap.size + 1 + 1, 0, none⟩) g2
  have kA := split_calls a w1 hla
  unfold ToldS at kA
  rw [hpa] at kA
  replace kA := hidden kA
  have kB := fun wx => split_calls b wx hlb
  unfold ToldS at kB
  rw [hpb] at kB
  replace kB := hidden kB
  have hfin := hidden (fun (wx : World) (hx : Below w.heap.size w wx) => refused_none h hx 1)
  have hb1 := hidden hB1
  replace hw1 := hidden hw1
  clear hB1 h g0
  go_enter Tryz.func38, Tryz.ntmps38
  go_upto_region 1 with fail
  rw [hw1.out]
  clear hw1
  go_wp2_with fail
  refine (kA.out).mono ?_
  rintro ev w2 ⟨v2, rfl, hT2, hB2⟩
  obtain ⟨a2, c2, rfl, -⟩ := (show TxtsAt w2 v2 ([] : List (List UInt8)) from hT2)
  have k2 := (hB2.cell (p := ⟨w.heap.size + 1 + 1, 0, none⟩) l2).trans g2
  have m2 := lt_of_cell (a := ⟨w.heap.size + 1 + 1, 0, none⟩) k2
  have hb2 := hidden (hb1.out.trans (hB2.mono hb1.out.size))
  clear hT2 hB2 kA g1 g2 l1 l2
  dsimp only [Option.isSome, List.length_nil]
  go_wp2_with fail
  refine (kB.out _).mono ?_
  rintro ev w3 ⟨v3, rfl, hT3, hB3⟩
  obtain ⟨a3, c3, rfl, -⟩ := (show TxtsAt w3 v3 lb from hT3)
  have hE := hidden (hfin.out w3 (hb2.out.trans (hB3.mono hb2.out.size)))
  clear hT3 hB3 kB k2 m2 hb1 hb2 hfin
  dsimp only [Option.isSome]
  generalize lb.length = LB at *
  go_wp2
  go_ret
  exact ⟨_, rfl, hE.out⟩
end
def sList : ByteArray := ⟨#[108, 105, 115, 116]⟩
def sHold : ByteArray := ⟨#[104, 111, 108, 100]⟩
section
variable {fb rs hb : Nat} {E : TE} {w w' : World} {K : Nat -> Nat} {D : Nat -> List Int} {T : Nat -> List Rec} {f u lim : Nat}
set_option maxHeartbeats 1000000 in
theorem fList_err {path : List UInt8} {m : Int} (k : Calls Tryz.prog 49 #[ptr fb, .string (mkB path)] w fun e w' => ∃ ev, e = .returned (.tuple #[.slice none 0 0, ev]) /\ Refused fb rs hb E K D T f lim m w ev w') :
    Calls Tryz.prog 25 #[ptr fb, .string (mkB path)] w fun e w' => ∃ ev, e = .returned (.tuple #[.slice none 0 0, ev]) /\ Told11 fb rs hb E K D T f lim sList (mkB path) m w ev w' := by
  replace k := hidden k
  have kW := hidden (fun (u : TypeId) (v : Value) (wx : World) => wrap_some sList (mkB path) u v wx)
  have hsp : sList = ⟨#[108, 105, 115, 116]⟩ := rfl
  rw [hsp] at kW
  replace hsp := hidden hsp
  go_enter Tryz.func25, Tryz.ntmps25
  go_wp2_with fail
  refine (k.out).mono ?_
  rintro ev w1 ⟨er, rfl, ⟨ll, hc⟩, h2, h3⟩
  obtain ⟨ut, uv, rfl⟩ := Chain.held hc (Or.inr ⟨_, _, rfl⟩)
  have hE := hidden (Refused.wrapped (op := sList) (nm := mkB path) hc h2 h3)
  rw [hsp.out] at hE
  clear hc h2 h3
  go_wp2_with fail
  refine (kW.out _ _ _).mono ?_
  rintro ev w2 ⟨rfl, hw2⟩
  subst w2
  go_wp2
  go_ret2
  rw [hsp.out]
  exact ⟨_, rfl, hE.out⟩
set_option maxHeartbeats 1000000 in
theorem fHold_err {path : List UInt8} {m : Int} (k : Calls Tryz.prog 36 #[ptr fb, .string (mkB path)] w fun e w' => ∃ ev, e = .returned (.tuple #[.int .i64 0, ev]) /\ Refused fb rs hb E K D T f lim m w ev w') :
    Calls Tryz.prog 11 #[ptr fb, .string (mkB path)] w fun e w' => ∃ ev, e = .returned (.tuple #[.int .i64 0, ev]) /\ Told11 fb rs hb E K D T f lim sHold (mkB path) m w ev w' := by
  replace k := hidden k
  have kW := hidden (fun (u : TypeId) (v : Value) (wx : World) => wrap_some sHold (mkB path) u v wx)
  have hsp : sHold = ⟨#[104, 111, 108, 100]⟩ := rfl
  rw [hsp] at kW
  replace hsp := hidden hsp
  go_enter Tryz.func11, Tryz.ntmps11
  go_wp2_with fail
  refine (k.out).mono ?_
  rintro ev w1 ⟨er, rfl, ⟨ll, hc⟩, h2, h3⟩
  obtain ⟨ut, uv, rfl⟩ := Chain.held hc (Or.inr ⟨_, _, rfl⟩)
  have hE := hidden (Refused.wrapped (op := sHold) (nm := mkB path) hc h2 h3)
  rw [hsp.out] at hE
  clear hc h2 h3
  go_wp2_with fail
  refine (kW.out _ _ _).mono ?_
  rintro ev w2 ⟨rfl, hw2⟩
  subst w2
  go_wp2
  go_ret2
  rw [hsp.out]
  exact ⟨_, rfl, hE.out⟩
set_option maxHeartbeats 1000000 in
theorem fRemove_err {path : List UInt8} {m : Int} (k : Calls Tryz.prog 37 #[ptr fb, .string (mkB path)] w fun e w' => ∃ ev, e = .returned ev /\ Refused fb rs hb E K D T f lim m w ev w') :
    Calls Tryz.prog 12 #[ptr fb, .string (mkB path)] w fun e w' => ∃ ev, e = .returned ev /\ Told11 fb rs hb E K D T f lim sRemove (mkB path) m w ev w' := by
  replace k := hidden k
  have kW := hidden (fun (u : TypeId) (v : Value) (wx : World) => wrap_some sRemove (mkB path) u v wx)
  have hsp : sRemove = ⟨#[114, 101, 109, 111, 118, 101]⟩ := rfl
  rw [hsp] at kW
  replace hsp := hidden hsp
  go_enter Tryz.func12, Tryz.ntmps12
  go_wp2_with fail
  refine (k.out).mono ?_
  rintro ev w1 ⟨er, rfl, ⟨ll, hc⟩, h2, h3⟩
  obtain ⟨ut, uv, rfl⟩ := Chain.held hc (Or.inr ⟨_, _, rfl⟩)
  have hE := hidden (Refused.wrapped (op := sRemove) (nm := mkB path) hc h2 h3)
  rw [hsp.out] at hE
  clear hc h2 h3
  go_wp2_with fail
  refine (kW.out _ _ _).mono ?_
  rintro ev w2 ⟨rfl, hw2⟩
  subst w2
  go_wp2
  go_ret
  rw [hsp.out]
  exact ⟨_, rfl, hE.out⟩
set_option maxHeartbeats 1000000 in
theorem fRename_err {path b : List UInt8} {m : Int} (k : Calls Tryz.prog 38 #[ptr fb, .string (mkB path), .string (mkB b)] w fun e w' => ∃ ev, e = .returned ev /\ Refused fb rs hb E K D T f lim m w ev w') :
    Calls Tryz.prog 13 #[ptr fb, .string (mkB path), .string (mkB b)] w fun e w' => ∃ ev, e = .returned ev /\ Told11 fb rs hb E K D T f lim sRename (mkB path) m w ev w' := by
  replace k := hidden k
  have kW := hidden (fun (u : TypeId) (v : Value) (wx : World) => wrap_some sRename (mkB path) u v wx)
  have hsp : sRename = ⟨#[114, 101, 110, 97, 109, 101]⟩ := rfl
  rw [hsp] at kW
  replace hsp := hidden hsp
  go_enter Tryz.func13, Tryz.ntmps13
  go_wp2_with fail
  refine (k.out).mono ?_
  rintro ev w1 ⟨er, rfl, ⟨ll, hc⟩, h2, h3⟩
  obtain ⟨ut, uv, rfl⟩ := Chain.held hc (Or.inr ⟨_, _, rfl⟩)
  have hE := hidden (Refused.wrapped (op := sRename) (nm := mkB path) hc h2 h3)
  rw [hsp.out] at hE
  clear hc h2 h3
  go_wp2_with fail
  refine (kW.out _ _ _).mono ?_
  rintro ev w2 ⟨rfl, hw2⟩
  subst w2
  go_wp2
  go_ret
  rw [hsp.out]
  exact ⟨_, rfl, hE.out⟩
end
theorem KeptT.keep {base : Nat} {w w' : World} {v : Value} {l : List (List UInt8)} {bs : List Nat} (h : KeptT base w v l) (ha : Apart bs w w') (hlt : ∀ k ∈ bs, k < base) : KeptT base w' v l := by
  refine ⟨h.row.1, ?_⟩
  rcases h.row.2 with h0 | ⟨g, cap, cur, hv, h1, hh, rest⟩
  · exact Or.inl h0
  · have hg : g < w.heap.size := by
      rcases Nat.lt_or_ge g w.heap.size with h | h
      · exact h
      · rw [Array.getElem?_eq_none h] at hh; cases hh
    exact Or.inr ⟨g, cap, cur, hv, h1, (ha.block g hg (fun hm => by have := hlt g hm; omega)).trans hh, rest⟩
section
variable {fb rs hb : Nat} {E : TE} {w w' : World} {K : Nat -> Nat} {D : Nat -> List Int} {T : Nat -> List Rec} {f u lim : Nat}
theorem boxesL2 (w : World) (fb : Nat) : ∃ w2, (w.alloc (Obj.cells #[ptr fb] 31)).alloc (Obj.cells #[.slice none 0 0] 50) = w2 /\ Below w.heap.size w w2 /\ w2.cell? ⟨w.heap.size, 0, none⟩ = some (ptr fb) /\ w2.cell? ⟨w.heap.size + 1, 0, none⟩ = some (.slice none 0 0) /\ w2.frozen? ⟨w.heap.size + 1, 0, none⟩ = false := by
  generalize e1 : w.alloc (Obj.cells #[ptr fb] 31) = W1
  have a1 : W1.cell? ⟨w.heap.size, 0, none⟩ = some (ptr fb) := by rw [<- e1]; simp
  have s1 : W1.heap.size = w.heap.size + 1 := by rw [<- e1]; simp
  have b1 : Below w.heap.size w W1 := by rw [<- e1]; exact (Below.refl _ _).alloc (Nat.le_refl _) _
  have hBx : Below W1.heap.size W1 (W1.alloc (Obj.cells #[.slice none 0 0] 50)) := (Below.refl _ _).alloc (Nat.le_refl _) _
  exact ⟨_, rfl, b1.trans (hBx.mono b1.size), (hBx.cell (p := ⟨w.heap.size, 0, none⟩) (lt_of_cell a1)).trans a1, by rw [<- s1]; simp, by rw [<- s1]; simp⟩
set_option maxHeartbeats 1000000 in
theorem list_via {path : List UInt8} {Q : Value -> Value -> World -> Prop}
    (kS : ∀ (wx : World) (c0 c1 : Nat), Below w.heap.size w wx -> w.heap.size <= c1 -> c1 < wx.heap.size -> wx.cell? ⟨c0, 0, none⟩ = some (ptr fb) -> wx.cell? ⟨c1, 0, none⟩ = some (.slice none 0 0) -> wx.frozen? ⟨c1, 0, none⟩ = false -> Calls Tryz.prog 67 #[ptr fb, .string (mkB path), .func (.func 100) #[] #[ptr c0, ptr c1]] wx fun e w' => ∃ ev v, e = .returned ev /\ w'.cell? ⟨c1, 0, none⟩ = some v /\ Q v ev w') :
    Calls Tryz.prog 49 #[ptr fb, .string (mkB path)] w fun e w' => ∃ v ev, e = .returned (.tuple #[v, ev]) /\ Q v ev w' := by
  have hmf : ∀ (fn : Fn) (first cap : Array Value) (w : World), (Instr.makeFunc fn first cap).run Tryz.prog w = .ok (.func fn first cap) w := fun _ _ _ _ => rfl
  obtain ⟨w2, hw2, hB2, g0, g1, f1⟩ := boxesL2 w fb
  have hl1 := lt_of_cell (a := ⟨w.heap.size + 1, 0, none⟩) g1
  have kA := hidden (kS w2 w.heap.size (w.heap.size + 1) hB2 (by omega) hl1 g0 g1 f1)
  replace hw2 := hidden hw2
  clear kS hB2 g1 f1
  go_enter Tryz.func49, Tryz.ntmps49
  go_upto_region 2 with fail
  rw [hw2.out]
  clear hw2
  go_wp2_with fail
  refine (kA.out).mono ?_
  rintro ev w3 ⟨er, v, rfl, hc, hQ⟩
  have hl3 := lt_of_cell (a := ⟨w.heap.size + 1, 0, none⟩) hc
  replace hQ := hidden hQ
  go_wp2
  go_ret2
  exact ⟨v, er, rfl, hQ.out⟩
set_option maxHeartbeats 2000000 in
theorem list1_ok {c0 c1 q : Nat} {old : Value} (g0 : w.cell? ⟨c0, 0, none⟩ = some (ptr fb)) (g1 : w.cell? ⟨c1, 0, none⟩ = some old) (f1 : w.frozen? ⟨c1, 0, none⟩ = false) (hF : FsAt fb E rs hb w) (h : S8 E K D f u lim w) (ok : E.Ok) (ht : TreeOk E.tn K D T) (h1 : 1 <= q) (h2 : q <= E.tn) (hk : K q = 2) :
    Calls Tryz.prog 100 #[fnV (q : Nat) 2, ptr c0, ptr c1] w fun e w' => e = .returned .nilIface /\ ∃ v w2, KeptT w.heap.size w2 v (namesT T q) /\ Below w.heap.size w w2 /\ w' = w2.setCell ⟨c1, 0, none⟩ v := by
  obtain ⟨w1, hw1, hB1, hN1⟩ : ∃ w1, w.alloc (Obj.cells #[.int .i64 (q : Nat), .int .i64 2] 105) = w1 /\ Below w.heap.size w w1 /\ FnAt w1 w.heap.size (q : Nat) 2 := ⟨_, rfl, (Below.refl _ _).alloc (Nat.le_refl _) _, fn_new _ _ _⟩
  obtain ⟨hD, hG⟩ := ht.recs q h1 h2 hk
  have hlen := h.len h1 h2
  have kO := hidden (fun (wx : World) (hx : Below w1.heap.size w1 wx) => of_ok ok (h.more (hB1.trans (hx.mono hB1.size))) h1 h2 hk)
  have kL := hidden (fun (wx : World) (db : Nat) (hx : Below w.heap.size w wx) (hd : DirAt E db q wx) => by
    have hdl := (h.more hx).dl hD hG hd
    have hL : (T q).length <= 200 := by rw [hD, recsL_len hG.each] at hlen; omega
    exact dList_calls hdl.b ⟨ok, h1, h2, hk⟩ (parse_recs hG) hL)
  have hF1 := hF.below hB1
  have c2 := hF1.c2
  have hlt := hF1.lt
  have l0 := lt_of_cell (a := ⟨c0, 0, none⟩) g0
  have e0 := (hB1.cell (p := ⟨c0, 0, none⟩) l0).trans g0
  have l1 := lt_of_cell (a := ⟨c0, 0, none⟩) e0
  have n0 := hN1.c0
  have ln := hN1.lt
  have kg := hidden (fun (wx : World) (hx : Below w.heap.size w wx) => (hx.cell (p := ⟨c1, 0, none⟩) (lt_of_cell (a := ⟨c1, 0, none⟩) g1)).trans g1)
  have kf := hidden (fun (wx : World) (hx : Below w.heap.size w wx) => ((Apart.of_below (bs := []) hx).frozen (p := ⟨c1, 0, none⟩) (lt_of_cell (a := ⟨c1, 0, none⟩) g1) (by simp)).trans f1)
  replace hB1 := hidden hB1
  replace hw1 := hidden hw1
  clear hF h ok hF1 hN1 hD hG ht g1 f1 g0
  generalize hX : ((q : Nat) : Int) = X at *
  go_enter Tryz.func100, Tryz.ntmps100
  go_upto_region 1 with fail
  rw [hw1.out]
  clear hw1
  go_region_with (go_at_call 101; refine (kO.out _ (below_drew1 w1)).mono ?_; rintro ev w4 ⟨db, rfl, hdb, d0, d1, hB4⟩)
  all_goals
    have hB14 : Below w.heap.size w w4 := hB1.out.trans (((below_drew1 w1).trans hB4).mono hB1.out.size)
    have kL4 := hidden (kL.out w4 db hB14 ⟨d0, by rw [hX]; exact d1⟩)
    replace hB14 := hidden hB14
    clear hB4 d0 d1
    go_wp2_with fail
    refine (kL4.out).mono ?_
    rintro ev w5 ⟨v, rfl, hV, hB5⟩
    have hb5 := hB14.out.trans (hB5.mono hB14.out.size)
    have k1 := kg.out _ hb5
    have k2 := kf.out _ hb5
    have hlc := lt_of_cell (a := ⟨c1, 0, none⟩) k1
    obtain ⟨va, vc, hve⟩ := hV.form
    have hE := hidden (And.intro (hV.mono (base' := w.heap.size) hB14.out.size) hb5)
    subst hve
    clear hB5 hB14 hV hb5
    generalize hLN : (sortS ((T q).map Rec.s)).length = LN at *
    go_wp2
    go_ret
    exact ⟨rfl, _, w5, hE.out.1, hE.out.2, rfl⟩
set_option maxHeartbeats 2000000 in
theorem list_ok (h : Fsz fb rs hb E K D T f lim w) {path : List UInt8} {l : List (List UInt8)} (hlen : path.length <= 2000) (hp : splitB path = some l) {q : Nat} (hq : walkT K T 1 l = .ok q) (hk : K q = 2) (hlim : lim <= 300000000) :
    Calls Tryz.prog 49 #[ptr fb, .string (mkB path)] w fun e w' => ∃ v ev, e = .returned (.tuple #[v, ev]) /\ ev = .nilIface /\ KeptT w.heap.size w' v (namesT T q) /\ Fsz fb rs hb E.rest K D T f (lim + 1000) w' /\ E.Turns fb w w' := by
  have hmp := may_all (split_may hp)
  have hpl := h.pl
  obtain ⟨q1, q2, -⟩ := walkT_in h.tree l 1 q (Nat.le_refl _) hpl.tn1 (by rw [h.tree.root]; decide) hq
  have hah := h.s.to.lts
  have hfar := h.far
  refine list_via (Q := fun v ev w' => ev = .nilIface /\ KeptT w.heap.size w' v (namesT T q) /\ Fsz fb rs hb E.rest K D T f (lim + 1000) w' /\ E.Turns fb w w') (fun wx c0 c1 hx hc1 hc2 g0 g1 f1 => ?_)
  refine (at_via (w := wx) (fb := fb) (Q := fun ev w' => ev = .nilIface /\ ∃ v, w'.cell? ⟨c1, 0, none⟩ = some v /\ KeptT w.heap.size w' v (namesT T q) /\ Fsz fb rs hb E.rest K D T f (lim + 1000) w' /\ E.Turns fb w w') hlen hp (fun wy b0 b1 b2 names hy hbx hT => ?_)).mono ?_
  rotate_left
  · rintro e w' ⟨ev, rfl, h1, v, h2, h3, h4, h5⟩
    exact ⟨ev, v, rfl, h2, h1, h3, h4, h5⟩
  have hxy : Below w.heap.size w wy := hx.trans (hy.mono hx.size)
  have hr := h.rest.below hxy
  have k0 := (hy.cell (p := ⟨c0, 0, none⟩) (lt_of_cell (a := ⟨c0, 0, none⟩) g0)).trans g0
  have k1 := (hy.cell (p := ⟨c1, 0, none⟩) hc2).trans g1
  have kf := ((Apart.of_below (bs := []) hy).frozen (p := ⟨c1, 0, none⟩) hc2 (by simp)).trans f1
  have hc1y : c1 < wy.heap.size := Nat.lt_of_lt_of_le hc2 hy.size
  have kD := fun (wz : World) (hz : Below wy.heap.size wy wz) => list1_ok (fb := fb) (E := E.rest) (K := K) (D := D) (c0 := c0) (c1 := c1) (q := q) ((hz.cell (p := ⟨c0, 0, none⟩) (lt_of_cell (a := ⟨c0, 0, none⟩) k0)).trans k0) ((hz.cell (p := ⟨c1, 0, none⟩) hc1y).trans k1) (((Apart.of_below (bs := []) hz).frozen (p := ⟨c1, 0, none⟩) hc1y (by simp)).trans kf) (hr.at_.below hz) (hr.s.to.more hz) hpl.rest_ok hr.tree q1 q2 hk
  have kA := at1_ok (E := E.rest) (K := K) (D := D) (T := T) (q := q) ent_list1 hbx hr.at_ hr.s.to hpl.rest_ok hr.tree hpl.tn1 hT (by omega) hmp.2 hq (Q := fun ev w' => ev = .nilIface /\ ∃ v w2, KeptT wy.heap.size w2 v (namesT T q) /\ Below wy.heap.size wy w2 /\ w' = w2.setCell ⟨c1, 0, none⟩ v) (fun wz hz => by
    have := kD wz hz
    rw [hk]
    refine this.mono ?_
    rintro e w' ⟨rfl, v, w2, r1, r2, r3⟩
    exact ⟨_, rfl, rfl, v, w2, r1.mono hz.size, hz.trans (r2.mono hz.size), r3⟩)
  refine (step_ok (E := E.rest) (P := fun w1 => ∃ v w2, KeptT wy.heap.size w2 v (namesT T q) /\ Below wy.heap.size wy w2 /\ w1 = w2.setCell ⟨c1, 0, none⟩ v) (K := K) (D := D) (f := f) (u := 0) (lim := lim) ent_at1 hr.at_ hfar hpl.rest_ok hpl.far hpl.live (by show 1 <= E.most /\ E.most <= 200; rw [hpl.most]; omega) hlim (kA.mono ?_)).mono ?_
  · rintro e w1 ⟨ev, rfl, rfl, v, w2, r1, r2, rfl⟩
    have hb : Below w.heap.size w (w2.setCell ⟨c1, 0, none⟩ v) := (hxy.trans (r2.mono hxy.size)).setCell (p := ⟨c1, 0, none⟩) hc1 v
    have hz := h.rest.below hb
    exact ⟨rfl, ⟨v, w2, r1, r2, rfl⟩, hz.at_, hz.s.to⟩
  · rintro e w3 ⟨rfl, w1, ⟨v, w2, r1, r2, rfl⟩, hF3, hS3, hA3⟩
    have hb : Below w.heap.size w (w2.setCell ⟨c1, 0, none⟩ v) := (hxy.trans (r2.mono hxy.size)).setCell (p := ⟨c1, 0, none⟩) hc1 v
    have hc2' : c1 < w2.heap.size := Nat.lt_of_lt_of_le hc1y r2.size
    have hcv : (w2.setCell ⟨c1, 0, none⟩ v).cell? ⟨c1, 0, none⟩ = some v := World.cell?_setCell_same' _ _ _ (by rw [(r2.cell (p := ⟨c1, 0, none⟩) hc1y).trans k1]; rfl)
    unfold TE.Ahead at hah
    have hno : ∀ k ∈ [E.d, E.g, E.mb], k < w.heap.size := fun k hk => by
      simp only [List.mem_cons, List.not_mem_nil, or_false] at hk
      omega
    have hA3' : Apart [E.d, E.g, E.mb] (w2.setCell ⟨c1, 0, none⟩ v) w3 := hA3
    refine ⟨_, rfl, rfl, v, (hA3'.cell (p := ⟨c1, 0, none⟩) (lt_of_cell (a := ⟨c1, 0, none⟩) hcv) (fun hm => by have := hno _ hm; simp only at this; omega)).trans hcv, ?_, ⟨hF3, hS3, hpl.at _ _ _ _ _, hfar, h.tree⟩, ?_⟩
    · have o1 := r1.keep ((Apart.refl [c1] w2).setCell (p := ⟨c1, 0, none⟩) (by simp) v) (fun k hk => by rw [List.mem_singleton.1 hk]; exact hc1y)
      exact (o1.keep hA3' (fun k hk => Nat.lt_of_lt_of_le (hno k hk) hxy.size)).mono hxy.size
    · exact (Apart.of_below hb).trans (hA3'.mono (fun x hx' _ => by
        simp only [List.mem_cons, List.not_mem_nil, or_false] at hx'
        rcases hx' with rfl | rfl | rfl <;> simp))
theorem fList_ok {path : List UInt8} {Q : Value -> World -> Prop} (k : Calls Tryz.prog 49 #[ptr fb, .string (mkB path)] w fun e w' => ∃ v ev, e = .returned (.tuple #[v, ev]) /\ ev = .nilIface /\ Q v w') :
    Calls Tryz.prog 25 #[ptr fb, .string (mkB path)] w fun e w' => ∃ v, e = .returned (.tuple #[v, .nilIface]) /\ Q v w' := by
  replace k := hidden k
  have kW := hidden (fun (wx : World) => wrap_nil sList (mkB path) wx)
  unfold sList at kW
  go_enter Tryz.func25, Tryz.ntmps25
  go_wp2_with fail
  refine (k.out).mono ?_
  rintro ev w1 ⟨v, er, rfl, rfl, hQ⟩
  replace hQ := hidden hQ
  go_wp2_with fail
  refine (kW.out _).mono ?_
  rintro ev w2 ⟨rfl, hw2⟩
  subst w2
  go_wp2
  go_ret2
  exact ⟨v, rfl, hQ.out⟩
end
section
variable {fb rs hb : Nat} {E : TE} {w w' : World} {K : Nat -> Nat} {D : Nat -> List Int} {T : Nat -> List Rec} {f u lim : Nat}
set_option maxHeartbeats 4000000 in
theorem carry_other (h : S8 E K D f u lim w) (ok : E.Ok) {p q db db2 : Nat} {L M : List Rec} (p1 : 1 <= p) (p2 : p <= E.tn) (hk : K p = 2) (hD : D p = recsL L) (hg : GoodL L) (hdir : DirAt E db p w) (q1 : 1 <= q) (q2 : q <= E.tn) (hkq : K q = 2) (hDq : D q = recsL M) (hgq : GoodL M) (hqp : q ≠ p) (hdir2 : DirAt E db2 q w) {i : Nat} {r : Rec} (hr : L[i]? = some r) (hid : r.id <= 200) (t : List UInt8) (ht : okB t = true) (hno : ∀ x ∈ M, x.s ≠ t) (hR : E.R p) (hW : E.W p) (hRq : E.R q) (hWq : E.W q) (hm : M.length < 120) (hfit : bkL (M.length + 1) <= bkL M.length + u) (k : Int) (va va2 : Option Addr) (vn vc vn2 vc2 : Nat) :
    Calls Tryz.prog 185 #[fnV (r.id : Nat) k, spV (.slice va vn vc) (mkB r.s) (ptr db), spV (.slice va2 vn2 vc2) (mkB t) (ptr db2)] w fun e w' => e = .returned .nilIface /\ (∃ f', f' + bkL (dropR L i).length + bkL (M.length + 1) = f + bkL L.length + bkL M.length /\ S8 E K (upd (upd D p (recsL (dropR L i))) q (recsL (M ++ [⟨t, r.id⟩]))) f' 0 lim w') /\ Apart [E.mb] w w' := by
  have hi : i < L.length := (List.getElem?_eq_some_iff.1 hr).1
  have hr1 : 1 <= r.id := (hg.each r (List.mem_of_getElem? hr)).lo
  obtain ⟨w1, hw1, hB1, hN1⟩ : ∃ w1, w.alloc (.cells #[.int .i64 (r.id : Nat), .int .i64 k] 105) = w1 /\ Below w.heap.size w w1 /\ FnAt w1 w.heap.size (r.id : Nat) k := ⟨_, rfl, (Below.refl _ _).alloc (Nat.le_refl _) _, fn_new _ _ _⟩
  obtain ⟨w2, hw2, hB2, hS2⟩ : ∃ w2, w1.alloc (.cells #[.slice va vn vc, .string (mkB r.s), ptr db] 166) = w2 /\ Below w1.heap.size w1 w2 /\ SpAt w2 w1.heap.size (.slice va vn vc) (mkB r.s) (ptr db) := ⟨_, rfl, (Below.refl _ _).alloc (Nat.le_refl _) _, sp_new _ _ _ _⟩
  obtain ⟨w3, hw3, hB3, hS3⟩ : ∃ w3, w2.alloc (.cells #[.slice va2 vn2 vc2, .string (mkB t), ptr db2] 166) = w3 /\ Below w2.heap.size w2 w3 /\ SpAt w3 w2.heap.size (.slice va2 vn2 vc2) (mkB t) (ptr db2) := ⟨_, rfl, (Below.refl _ _).alloc (Nat.le_refl _) _, sp_new _ _ _ _⟩
  have hmb : E.mb < w.heap.size := h.lts.2.2.2.2.1
  have hs1 := hB1.size
  have hs2 := hB2.size
  have hb3 : Below w.heap.size w w3 := (hB1.trans (hB2.mono hB1.size)).trans (hB3.mono (Nat.le_trans hB1.size hB2.size))
  have hS2' := hS2.below hB3
  have hN3 := (hN1.below hB2).below hB3
  have a1 := hS2'.c1
  have a2 := hS2'.c2
  have la := hS2'.lt
  have kD := hidden (dDropU (h.more hb3) ok p1 p2 hk hD hg (hdir.below hb3) hr hR hW)
  have hdm2 : db2 ∉ [E.mb] := by have := hdir2.ne h; simpa using this
  have kP := hidden (fun (wx : World) (hA : Apart [E.mb] w3 wx) (f' : Nat) (hx : S8 E K (upd D p (recsL (dropR L i))) f' u lim wx) => dPut_ok (hx.dl (by rw [upd_other _ _ hqp]; exact hDq) hgq ((hdir2.below hb3).keep hA hdm2)) (eok ok q1 q2 hkq _) ⟨hRq, hWq⟩ (Or.inr ⟨by
      show ((bkL M.length : Nat) : Int) <= blk ((recsL M).length : Int)
      rw [recsL_len hgq.each]
      exact Int.le_of_eq (bkL_eq _), by
      show blk ((32 * (M.length + 1) : Nat) : Int) <= ((bkL M.length : Nat) : Int) + ((u : Nat) : Int)
      rw [<- bkL_eq]
      omega⟩) t r.id ht hr1 hid hno hm)
  have hfin : Hid (∀ (f1 : Nat) (wx : World), f1 + bkL (dropR L i).length = f + bkL L.length -> DL (dx E q K (upd D p (recsL (dropR L i))) M.length f1 u lim) db2 (M ++ [⟨t, r.id⟩]) wx -> ∃ f', f' + bkL (dropR L i).length + bkL (M.length + 1) = f + bkL L.length + bkL M.length /\ S8 E K (upd (upd D p (recsL (dropR L i))) q (recsL (M ++ [⟨t, r.id⟩]))) f' 0 lim wx) := hidden (fun f1 wx hf hDL => by
    obtain ⟨f2, u2, s1, s2, -⟩ := hDL.s8
    rw [List.length_append, List.length_singleton] at s2
    exact ⟨f2, by omega, s1.low (Nat.zero_le _)⟩)
  have hkeep := hidden (And.intro hN3 hS3)
  have hb3' := hidden hb3
  have hnb : w.heap.size ∉ [E.mb] := by simp; omega
  have hnb2 : w2.heap.size ∉ [E.mb] := by simp; omega
  clear h ok hdir hdir2 hg hno hR hW hB1 hB2 hB3 hN1 hS2 hS3 hS2' hb3 hD hN3 hfit hRq hWq hgq hDq
  generalize hb6 : w1.heap.size = b6 at *
  generalize hb7 : w2.heap.size = b7 at *
  generalize hRI : ((r.id : Nat) : Int) = RI at *
  go_enter Tryz.func185, Tryz.ntmps185
  go_wp2_with fail
  refine (kD.out).mono ?_
  rintro ev w4 ⟨rfl, ⟨f1, hS4, hf4⟩, hA4⟩
  have hN4 := hkeep.out.1.keep hA4 hnb
  have hT4 := hkeep.out.2.keep hA4 hnb2
  have n0 := hN4.c0
  have l4 := hN4.lt
  have c1 := hT4.c1
  have c2 := hT4.c2
  have l5 := hT4.lt
  have kP4 := hidden (kP.out w4 hA4 f1 hS4)
  replace hA4 := hidden ((Apart.of_below (bs := [E.mb]) hb3'.out).trans hA4)
  replace hf4 := hidden hf4
  clear hN4 hT4 hS4 kD kP hw1 hw2 hw3 a1 a2 la
  go_wp2_with fail
  refine (kP4.out).mono ?_
  rintro ev w5 ⟨rfl, hDL, hA5⟩
  have hE := hidden (And.intro (hfin.out f1 w5 hf4.out hDL) (show Apart [E.mb] w w5 from hA4.out.trans hA5))
  clear hDL hA5 kP4
  go_wp2
  go_ret
  exact ⟨rfl, hE.out⟩
set_option maxHeartbeats 4000000 in
theorem enter_other (hF : FsAt fb E rs hb w) (h : S8 E K D f u lim w) (ok : E.Ok) (hkk : E.kk = E.k) {p q db db2 : Nat} {L M : List Rec} (p1 : 1 <= p) (p2 : p <= E.tn) (hk : K p = 2) (hD : D p = recsL L) (hg : GoodL L) (hdir : DirAt E db p w) (q1 : 1 <= q) (q2 : q <= E.tn) (hkq : K q = 2) (hDq : D q = recsL M) (hgq : GoodL M) (hqp : q ≠ p) (hdir2 : DirAt E db2 q w) {v v2 : Value} {l l2 : List (List UInt8)} (hv : TxtsAt w v l) (hv2 : TxtsAt w v2 l2) (hl : l.length <= 6) (hl2 : l2.length <= 6) (hll : l ≠ l2) {i : Nat} {r : Rec} (hr : L[i]? = some r) (hid : r.id <= 200) (t : List UInt8) (ht : okB t = true) (hno : ∀ x ∈ M, x.s ≠ t) (hR : E.R p) (hW : E.W p) (hRq : E.R q) (hWq : E.W q) (hm : M.length < 120) (hfit : bkL (M.length + 1) <= bkL M.length + u) {gn : Nat} (hgn : growb ((32 * M.length : Nat) : Int) ((32 * (M.length + 1) : Nat) : Int) = (gn : Int)) (hmay : mayB (f : Int) (rs : Int) (gn : Int) false = true) (k : Int) :
    Calls Tryz.prog 136 #[ptr fb, fnV (r.id : Nat) k, spV v (mkB r.s) (ptr db), spV v2 (mkB t) (ptr db2)] w fun e w' => e = .returned .nilIface /\ (∃ f', f' + bkL (dropR L i).length + bkL (M.length + 1) = f + bkL L.length + bkL M.length /\ S8 E K (upd (upd D p (recsL (dropR L i))) q (recsL (M ++ [⟨t, r.id⟩]))) f' 0 lim w') /\ Apart [E.mb] w w' := by
  have hvh := hidden hv
  have hv2h := hidden hv2
  obtain ⟨va, vc, rfl, -⟩ := hv
  obtain ⟨v2a, v2c, rfl, -⟩ := hv2
  have hfk : f <= 2100 := by
    obtain ⟨mem, wr, M, N, q1, q2, q3, q4, q5, q6, q7, q8⟩ := h
    have := freeN_le (bitM mem M E.ma) E.k
    have := ok.k
    omega
  obtain ⟨w1, hw1, hB1, hN1⟩ : ∃ w1, w.alloc (.cells #[.int .i64 (r.id : Nat), .int .i64 k] 105) = w1 /\ Below w.heap.size w w1 /\ FnAt w1 w.heap.size (r.id : Nat) k := ⟨_, rfl, (Below.refl _ _).alloc (Nat.le_refl _) _, fn_new _ _ _⟩
  obtain ⟨w2, hw2, hB2, hS2⟩ : ∃ w2, w1.alloc (.cells #[.slice va l.length vc, .string (mkB r.s), ptr db] 166) = w2 /\ Below w1.heap.size w1 w2 /\ SpAt w2 w1.heap.size (.slice va l.length vc) (mkB r.s) (ptr db) := ⟨_, rfl, (Below.refl _ _).alloc (Nat.le_refl _) _, sp_new _ _ _ _⟩
  obtain ⟨w3, hw3, hB3, hS3⟩ : ∃ w3, w2.alloc (.cells #[.slice v2a l2.length v2c, .string (mkB t), ptr db2] 166) = w3 /\ Below w2.heap.size w2 w3 /\ SpAt w3 w2.heap.size (.slice v2a l2.length v2c) (mkB t) (ptr db2) := ⟨_, rfl, (Below.refl _ _).alloc (Nat.le_refl _) _, sp_new _ _ _ _⟩
  have hb3 : Below w.heap.size w w3 := (hB1.trans (hB2.mono hB1.size)).trans (hB3.mono (Nat.le_trans hB1.size hB2.size))
  have hN3 := (hN1.below hB2).below hB3
  have hS2' := hS2.below hB3
  have a0 := hS2'.c0
  have b0 := hS3.c0
  have la := hS2'.lt
  have lb := hS3.lt
  have kE := hidden (equalT_calls _ _ _ _ w3 (hvh.out.below hb3) (hv2h.out.below hb3) (by omega) (by omega))
  rw [show decide (l = l2) = false by simp [hll]] at kE
  have kWi := hidden (fun (wx : World) (hx : Below w.heap.size w wx) => widen_calls ((h.more hx).dl hDq hgq (hdir2.below hx)) (eok ok q1 q2 hkq _) hm)
  rw [hgn] at kWi
  have kMy := hidden (fun (wx : World) (hx : Below w.heap.size w wx) => fmay_calls (hF.below hx) (h.more hx) ok hkk (gn : Int) false (yes := true) (fun wy => by have := may_calls (f : Int) (rs : Int) (gn : Int) false (by omega) wy; rw [hmay] at this; exact this))
  have kCa := hidden (fun (wx : World) (hx : Below w.heap.size w wx) => carry_other (h.more hx) ok p1 p2 hk hD hg (hdir.below hx) q1 q2 hkq hDq hgq hqp (hdir2.below hx) hr hid t ht hno hR hW hRq hWq hm hfit k va v2a l.length vc l2.length v2c)
  have hbox := hidden (And.intro hN3 (And.intro hS2' hS3))
  have hb3' := hidden hb3
  clear hF h ok hdir hdir2 hg hgq hno hR hW hRq hWq hB1 hB2 hB3 hN1 hS2 hS3 hS2' hN3 hb3 hvh hv2h hD hDq hfit hgn hmay
  generalize hb6 : w1.heap.size = b6 at *
  generalize hb7 : w2.heap.size = b7 at *
  generalize hb5x : w.heap.size = b5 at *
  generalize l.length = LL at *
  generalize l2.length = L2 at *
  generalize hRI : ((r.id : Nat) : Int) = RI at *
  generalize hGN : ((gn : Nat) : Int) = GN at *
  have hw1' := hidden hw1
  have hw2' := hidden hw2
  have hw3' := hidden hw3
  go_enter Tryz.func136, Tryz.ntmps136
  go_wp2_with fail
  refine (kE.out).mono ?_
  rintro ev w4 ⟨rfl, hB4⟩
  have hb4 := hb3'.out.trans (hB4.mono (by have := hb3'.out.size; omega))
  have hS5 := hbox.out.2.2.below hB4
  have d2 := hS5.c2
  have l5 := hS5.lt
  have kW4 := hidden (kWi.out w4 hb4)
  replace hb4 := hidden hb4
  replace hB4 := hidden hB4
  clear hS5 kE kWi hw1 hw2 hw3 a0 b0 la lb
  go_wp2_with fail
  refine (kW4.out).mono ?_
  rintro ev w5 ⟨rfl, hB5⟩
  have hb5 := hidden (hb4.out.trans (hB5.mono (by rw [<- hb5x]; exact hb4.out.size)))
  have hB5' := hidden (hB4.out.trans (hB5.mono hB4.out.size))
  have kM5 := hidden (kMy.out w5 hb5.out)
  clear hB5 kW4 kMy d2 l5
  go_wp2_with fail
  refine (kM5.out).mono ?_
  rintro ev w6 ⟨rfl, hB6⟩
  have hb6 := hidden (hb5.out.trans (hB6.mono (by rw [<- hb5x]; exact hb5.out.size)))
  have hB6' := hB5'.out.trans (hB6.mono hB5'.out.size)
  have hn6 := hbox.out.1.below hB6'
  have hs6 := hbox.out.2.1.below hB6'
  have ht6 := hbox.out.2.2.below hB6'
  have n0 := hn6.c0
  have n1 := hn6.c1
  have ln := hn6.lt
  have s0 := hs6.c0
  have s1 := hs6.c1
  have s2 := hs6.c2
  have ls := hs6.lt
  have t0 := ht6.c0
  have t1 := ht6.c1
  have t2 := ht6.c2
  have lt := ht6.lt
  have kC6 := hidden (kCa.out w6 hb6.out)
  clear hB6 hB6' hn6 hs6 ht6 kM5 kCa
  dsimp only [if_true]
  go_wp2_with fail
  refine (kC6.out).mono ?_
  rintro ev w7 ⟨rfl, hX, hA7⟩
  have hE := hidden (And.intro hX (show Apart [E.mb] w w7 from (Apart.of_below (by rw [hb5x]; exact hb6.out)).trans hA7))
  clear hX hA7 kC6
  go_wp2
  go_ret
  exact ⟨rfl, hE.out⟩
end
set_option maxRecDepth 1000000
section
variable {fb rs hb : Nat} {E : TE} {w w' : World} {K : Nat -> Nat} {D : Nat -> List Int} {T : Nat -> List Rec} {f u lim : Nat}
structure EnterT (K : Nat -> Nat) (T : Nat -> List Rec) (tn : Nat) (a b : List UInt8) (l l2 : List (List UInt8)) (s t : List UInt8) (p q i : Nat) (r : Rec) (lv : List (List Nat)) : Prop where
  la : a.length <= 2000
  lb : b.length <= 2000
  pa : splitB a = some (l ++ [s])
  pb : splitB b = some (l2 ++ [t])
  ne : a ≠ b
  out : withinB b a = false
  dir : dirT K T l = .ok p
  dir2 : dirT K T l2 = .ok q
  at_ : (T p)[i]? = some r
  name : r.s = s
  no : lookT (T q) t = none
  lvok : LvOk K T tn r.id lv
  fit : l2.length + 1 + lv.length <= 7
  few : (T q).length < 120
  oth : q ≠ p
  lne : l ≠ l2
set_option maxHeartbeats 4000000 in
theorem move_enter (hF : FsAt fb E rs hb w) (h : S8 E K D f u lim w) (ok : E.Ok) (ht : TreeOk E.tn K D T) (htn : 1 <= E.tn) (hkk : E.kk = E.k) {a b s t : List UInt8} {l l2 : List (List UInt8)} {p q i : Nat} {r : Rec} {lv : List (List Nat)} (m : EnterT K T E.tn a b l l2 s t p q i r lv) (hR : E.R p) (hW : E.W p) (hRq : E.R q) (hWq : E.W q) (hfit : bkL ((T q).length + 1) <= bkL (T q).length + u) {gn : Nat} (hgn : growb ((32 * (T q).length : Nat) : Int) ((32 * ((T q).length + 1) : Nat) : Int) = (gn : Int)) (hmay : mayB (f : Int) (rs : Int) (gn : Int) false = true) :
    Calls Tryz.prog 75 #[ptr fb, .string (mkB a), .string (mkB b)] w fun e w' => e = .returned (.tuple #[fnV 0 0, .nilIface]) /\ (∃ f', f' + bkL (dropR (T p) i).length + bkL ((T q).length + 1) = f + bkL (T p).length + bkL (T q).length /\ S8 E K (upd (upd D p (recsL (dropR (T p) i))) q (recsL (T q ++ [⟨t, r.id⟩]))) f' 0 lim w') /\ Apart [E.mb] w w' := by
  have hmp := may_all (split_may m.pb)
  have hl6 : l.length <= 6 := by have := (may_all (split_may m.pa)).1; rw [List.length_append] at this; omega
  have hl26 : l2.length <= 6 := by have := hmp.1; rw [List.length_append] at this; omega
  have htok : okB t = true := hmp.2 t (by simp)
  have hsok : okB s = true := (may_all (split_may m.pa)).2 s (by simp)
  obtain ⟨p1, p2, hkp⟩ := dirT_in ht htn m.dir
  obtain ⟨q1, q2, hkq⟩ := dirT_in ht htn m.dir2
  obtain ⟨hDq, hGq⟩ := ht.recs q q1 q2 hkq
  obtain ⟨hD, hG⟩ := ht.recs p p1 p2 hkp
  have hrm := List.mem_of_getElem? m.at_
  obtain ⟨hrt, hrk⟩ := ht.used p p1 p2 hkp r hrm
  have hr1 : 1 <= r.id := (hG.each r hrm).lo
  obtain ⟨w1, hw1, hB1, hN1⟩ : ∃ w1, w.alloc (Obj.cells #[.int .i64 0, .int .i64 0] 105) = w1 /\ Below w.heap.size w w1 /\ FnAt w1 w.heap.size 0 0 := ⟨_, rfl, (Below.refl _ _).alloc (Nat.le_refl _) _, fn_new _ _ _⟩
  have kSp := hidden (fun (wx : World) (hx : Below w.heap.size w wx) => And.intro (fspot_calls (hF.below hx) (h.more hx) ok ht htn m.la m.pa) (fspot_calls (hF.below hx) (h.more hx) ok ht htn m.lb m.pb))
  have kC := hidden (fun (wx : World) (hx : Below w.heap.size w wx) (db : Nat) (hd : DirAt E db p wx) => child_at (hF.below hx) (h.more hx) ok p1 p2 hkp hD hG hd m.at_ hrt hrk)
  have kCq := hidden (fun (wx : World) (hx : Below w.heap.size w wx) (db : Nat) (hd : DirAt E db q wx) => child_none (fb := fb) (h.more hx) ok q1 q2 hkq hDq hGq hd t htok (lookT_none m.no))
  rw [m.name] at kC
  have kW := hidden (fun (wx : World) => within_calls b a wx m.lb m.la)
  rw [m.out] at kW
  have kFi := hidden (fun (wx : World) (hx : Below w.heap.size w wx) => fits_ok (hF.below hx) (h.more hx) ok ht hr1 hrt m.lvok m.lb m.pb (by rw [List.length_append]; have := m.fit; simp; omega))
  have hr200 : r.id <= 200 := by have := ok.tn; omega
  have kE := hidden (fun (wx : World) (hx : Below w.heap.size w wx) (db db2 : Nat) (hd : DirAt E db p wx) (hd2 : DirAt E db2 q wx) (v v2 : Value) (hv : TxtsAt wx v l) (hv2 : TxtsAt wx v2 l2) (k : Int) => enter_other (hF.below hx) (h.more hx) ok hkk p1 p2 hkp hD hG hd q1 q2 hkq hDq hGq m.oth hd2 hv hv2 hl6 hl26 m.lne m.at_ hr200 t htok (lookT_none m.no) hR hW hRq hWq m.few hfit hgn hmay k)
  rw [m.name] at kE
  have hdir := hidden m.dir
  have hdir2 := hidden m.dir2
  have hne : ((mkB a).toList == (mkB b).toList) = false := by rw [mk_beq]; exact decide_eq_false m.ne
  have hBN := hidden (And.intro hB1 hN1)
  have hmbl : E.mb < w.heap.size := h.lts.2.2.2.2.1
  clear hF h ok ht hG hD hGq hDq hB1 hN1 hR hW hRq hWq hfit hgn hmay m hmp hrm hrk
  go_enter Tryz.func75, Tryz.ntmps75
  go_wp2_with fail
  refine ((kSp.out w1 hBN.out.1).1).mono ?_
  rintro ev w2 ⟨(⟨pp, v2, db, hq, rfl, hT2, hD2, hdb, -, -, -⟩ | ⟨z, bk, nm, hq, -⟩), hB2⟩
  rotate_left
  · rw [hdir.out] at hq; cases hq
  obtain rfl : pp = p := by rw [hdir.out] at hq; exact (Except.ok.inj hq).symm
  have hT2h := hidden hT2
  obtain ⟨va, vc, rfl, -⟩ := hT2
  obtain ⟨w3, hw3, hB3, hS3⟩ : ∃ w3, w2.alloc (.cells #[.slice va l.length vc, .string (mkB s), ptr db] 166) = w3 /\ Below w2.heap.size w2 w3 /\ SpAt w3 w2.heap.size (.slice va l.length vc) (mkB s) (ptr db) := ⟨_, rfl, (Below.refl _ _).alloc (Nat.le_refl _) _, sp_new _ _ _ _⟩
  have hb2 : Below w.heap.size w w2 := hBN.out.1.trans (hB2.mono hBN.out.1.size)
  have hb3 : Below w.heap.size w w3 := hb2.trans (hB3.mono hb2.size)
  have s1 := hS3.c1
  have s2 := hS3.c2
  have l3 := hS3.lt
  have kC3 := hidden (kC.out w3 hb3 db (hD2.below hB3))
  have hN3 := hidden ((hBN.out.2.below hB2).below hB3)
  have hK3 := hidden (And.intro (hT2h.out.below hB3) (And.intro (hD2.below hB3) hS3))
  replace hb3 := hidden hb3
  replace hw3 := hidden hw3
  clear hT2h hD2 hS3 hB2 hB3 hb2 hBN hq
  generalize hLL : l.length = LL at *
  generalize hf8 : w2.heap.size = b8 at *
  go_upto_region 2 with fail
  rw [hw3.out]
  clear hw3
  go_wp2_with fail
  refine (kC3.out).mono ?_
  rintro ev w4 ⟨rfl, hB4⟩
  obtain ⟨w5, hw5, hB5, hN5⟩ : ∃ w5, w4.alloc (.cells #[.int .i64 (r.id : Nat), .int .i64 (K r.id : Nat)] 105) = w5 /\ Below w4.heap.size w4 w5 /\ FnAt w5 w4.heap.size (r.id : Nat) (K r.id : Nat) := ⟨_, rfl, (Below.refl _ _).alloc (Nat.le_refl _) _, fn_new _ _ _⟩
  have hb35 : Below w3.heap.size w3 w5 := hB4.trans (hB5.mono hB4.size)
  have hb5 : Below w.heap.size w w5 := hb3.out.trans (hb35.mono hb3.out.size)
  have x0 := hN5.c0
  have x1 := hN5.c1
  have l5 := hN5.lt
  have hK5 := hidden (And.intro (hK3.out.1.below hb35) (And.intro (hK3.out.2.1.below hb35) (And.intro (hK3.out.2.2.below hb35) (And.intro hN5 (hN3.out.below hb35)))))
  replace hb5 := hidden hb5
  replace hw5 := hidden hw5
  clear hB4 hB5 hN5 hb35 kC3 hK3 hN3 hb3 s1 s2 l3
  generalize hKR : ((K r.id : Nat) : Int) = KR at *
  generalize hRI : ((r.id : Nat) : Int) = RI at *
  generalize hf9 : w4.heap.size = b9 at *
  go_upto_region 5 with fail
  rw [hw5.out]
  clear hw5
  go_wp2_with fail
  refine (kW.out _).mono ?_
  rintro ev w6 ⟨rfl, hB6⟩
  have hK6 := hK5.out.2.2.2.1.below hB6
  have y0 := hK6.c0
  have y1 := hK6.c1
  have l6 := hK6.lt
  have hb6 : Below w.heap.size w w6 := hb5.out.trans (hB6.mono hb5.out.size)
  have kF6 := hidden (kFi.out w6 hb6)
  replace hb6 := hidden hb6
  replace hB6 := hidden hB6
  clear hK6 kW x0 x1 l5
  go_wp2_with fail
  refine (kF6.out).mono ?_
  rintro ev w7 ⟨rfl, hB7⟩
  have hb7 : Below w.heap.size w w7 := hb6.out.trans (hB7.mono hb6.out.size)
  have kS7 := hidden (kSp.out w7 hb7).2
  have hb57 := hidden (hB6.out.trans (hB7.mono hB6.out.size))
  replace hb7 := hidden hb7
  clear hB7 kF6 kFi kSp y0 y1 l6 hb6 hB6
  go_wp2_with fail
  refine (kS7.out).mono ?_
  rintro ev w8 ⟨(⟨qq, v8, db2, hq2, rfl, hT8, hD8, hdb8, -, -, -⟩ | ⟨z, bk, nm, hq2, -⟩), hB8⟩
  rotate_left
  · rw [hdir2.out] at hq2; cases hq2
  obtain rfl : qq = q := by rw [hdir2.out] at hq2; exact (Except.ok.inj hq2).symm
  have hT8h := hidden hT8
  obtain ⟨va8, vc8, rfl, -⟩ := hT8
  generalize hL2 : l2.length = L2 at *
  obtain ⟨w9, hw9, hB9, hS9⟩ : ∃ w9, w8.alloc (.cells #[.slice va8 L2 vc8, .string (mkB t), ptr db2] 166) = w9 /\ Below w8.heap.size w8 w9 /\ SpAt w9 w8.heap.size (.slice va8 L2 vc8) (mkB t) (ptr db2) := ⟨_, rfl, (Below.refl _ _).alloc (Nat.le_refl _) _, sp_new _ _ _ _⟩
  have hb79 : Below w7.heap.size w7 w9 := hB8.trans (hB9.mono hB8.size)
  have hb59 : Below w5.heap.size w5 w9 := hb57.out.trans (hb79.mono hb57.out.size)
  have hb9 : Below w.heap.size w w9 := hb7.out.trans (hb79.mono hb7.out.size)
  have s1 := hS9.c1
  have s2 := hS9.c2
  have l9 := hS9.lt
  have kC9 := hidden (kCq.out w9 hb9 db2 (hD8.below hB9))
  have hK9 := hidden (And.intro (hK5.out.1.below hb59) (And.intro (hK5.out.2.1.below hb59) (And.intro (hK5.out.2.2.1.below hb59) (And.intro (hK5.out.2.2.2.1.below hb59) (And.intro (hK5.out.2.2.2.2.below hb59) (And.intro (hT8h.out.below hB9) (And.intro hS9 (hD8.below hB9))))))))
  replace hb9 := hidden hb9
  replace hw9 := hidden hw9
  clear hT8h hD8 hS9 hB8 hB9 hb79 hb59 hb57 hK5 hb5 hb7 kS7 hq2 kC kCq hdb8
  generalize hf11 : w8.heap.size = b11 at *
  go_upto_region 15 with fail
  rw [hw9.out]
  clear hw9
  go_wp2_with fail
  refine (kC9.out).mono ?_
  rintro ev wA ⟨bk, rfl, hcA, hBA⟩
  obtain ⟨kT1, kD1, kS1, kX1, kN1, kT2, kS2, kDq⟩ := hK9.out
  have hNA := kN1.below hBA
  have hSA1 := kS1.below hBA
  have hSA2 := kS2.below hBA
  have hXA := kX1.below hBA
  have r0 := hNA.c0
  have r1 := hNA.c1
  have g0 := hNA.f0
  have g1 := hNA.f1
  have lA := hNA.lt
  have e0 := setCell_self r0
  have e1 := setCell_self r1
  have x0 := hXA.c0
  have x1 := hXA.c1
  have u0 := hSA1.c0
  have u1 := hSA1.c1
  have u2 := hSA1.c2
  have v0 := hSA2.c0
  have v1 := hSA2.c1
  have v2' := hSA2.c2
  have lX := hXA.lt
  have lS1 := hSA1.lt
  have lS2 := hSA2.lt
  have hbA : Below w.heap.size w wA := hb9.out.trans (hBA.mono hb9.out.size)
  have kIs := is_chain 11 11 wA _ _ hcA
  rw [show ((11 : Int) == 11) = true from rfl] at kIs
  replace kIs := hidden kIs
  have kEA := hidden (kE.out wA hbA db db2 (kD1.below hBA) (kDq.below hBA) _ _ (kT1.below hBA) (kT2.below hBA) KR)
  have hNA' := hidden hNA
  replace hbA := hidden hbA
  clear kT1 kD1 kS1 kX1 kN1 kT2 kS2 kDq hNA hSA1 hSA2 hXA hcA hBA kC9 kE hK9 hb9 s1 s2 l9
  go_wp2_with fail
  refine (kIs.out).mono ?_
  rintro ev wB ⟨rfl, hwB⟩
  subst wB
  go_wp2_with fail
  refine (kEA.out).mono ?_
  rintro ev wC ⟨rfl, hSC, hAC⟩
  have hmb : w.heap.size ∉ [E.mb] := by simp; omega
  have hNC := hNA'.out.keep hAC hmb
  have c0 := hNC.c0
  have c1 := hNC.c1
  have f0 := hNC.f0
  have f1 := hNC.f1
  have lC := hNC.lt
  have e2 := setCell_self c0
  have e3 := setCell_self c1
  have hE := hidden (And.intro hNC (And.intro hSC ((Apart.of_below hbA.out).trans hAC)))
  clear hSC hAC hNC kEA kIs hNA' e0 e1
  go_wp2
  (try simp only [Exit.inBlock, Exit.then])
  obtain ⟨q1, q2, q3⟩ := hE.out
  exact bodyPost_ret (ret_fnode rfl rfl q1) rfl ⟨rfl, q2, q3⟩
end
set_option maxRecDepth 100000
section
variable {fb rs hb : Nat} {E : TE} {w w' : World} {K : Nat -> Nat} {D : Nat -> List Int} {T : Nat -> List Rec} {f u lim : Nat}
theorem TreeOk.enter {tn p q i : Nat} {r : Rec} {t : List UInt8} (ht : TreeOk tn K D T) (p1 : 1 <= p) (p2 : p <= tn) (hk : K p = 2) (q1 : 1 <= q) (q2 : q <= tn) (hkq : K q = 2) (hqp : q ≠ p) (hr : (T p)[i]? = some r) (hok : okB t = true) (hno : lookT (T q) t = none) :
    TreeOk tn K (upd (upd D p (recsL (dropR (T p) i))) q (recsL (T q ++ [⟨t, r.id⟩]))) (upd (upd T p (dropR (T p) i)) q (T q ++ [⟨t, r.id⟩])) := by
  obtain ⟨hD, hG⟩ := ht.recs p p1 p2 hk
  obtain ⟨hDq, hGq⟩ := ht.recs q q1 q2 hkq
  have hi := (List.getElem?_eq_some_iff.1 hr).1
  have hrm := List.mem_of_getElem? hr
  have hrg := hG.each r hrm
  refine ⟨ht.root, fun x x1 x2 hx => ?_, fun x x1 x2 hx y hy => ?_⟩
  · by_cases hxq : x = q
    · subst hxq
      rw [upd_same, upd_same]
      exact ⟨rfl, hGq.put (r := ⟨t, r.id⟩) ⟨hok, hrg.lo, hrg.hi⟩ (lookT_none hno)⟩
    · rw [upd_other _ _ hxq, upd_other _ _ hxq]
      by_cases hxp : x = p
      · subst hxp
        rw [upd_same, upd_same]
        exact ⟨rfl, hG.drop hi⟩
      · rw [upd_other _ _ hxp, upd_other _ _ hxp]
        exact ht.recs x x1 x2 hx
  · by_cases hxq : x = q
    · subst hxq
      rw [upd_same] at hy
      rcases List.mem_append.1 hy with h | h
      · exact ht.used x x1 x2 hx y h
      · rw [List.mem_singleton.1 h]
        exact ht.used p p1 p2 hk r hrm
    · rw [upd_other _ _ hxq] at hy
      by_cases hxp : x = p
      · subst hxp
        rw [upd_same] at hy
        exact ht.used x x1 x2 hx y (dropR_mem hi y hy)
      · rw [upd_other _ _ hxp] at hy
        exact ht.used x x1 x2 hx y hy
set_option maxHeartbeats 4000000 in
theorem rename_enter (h : Fsz fb rs hb E K D T f lim w) (hno : HNo fb hb E w) {a b s t : List UInt8} {l l2 : List (List UInt8)} {p q i : Nat} {r : Rec} {lv : List (List Nat)} (m : EnterT K T E.tn a b l l2 s t p q i r lv) (hmay : mayB (f : Int) (rs : Int) ((bkL ((T q).length + 1) - bkL (T q).length : Nat) : Int) false = true) (hlim : lim <= 300000000) :
    Calls Tryz.prog 38 #[ptr fb, .string (mkB a), .string (mkB b)] w fun e w' => e = .returned .nilIface /\ (∃ f', f' + bkL (dropR (T p) i).length + bkL ((T q).length + 1) = f + bkL (T p).length + bkL (T q).length /\ Fsz fb rs hb E.rest K (upd (upd D p (recsL (dropR (T p) i))) q (recsL (T q ++ [⟨t, r.id⟩]))) (upd (upd T p (dropR (T p) i)) q (T q ++ [⟨t, r.id⟩])) f' (lim + 1000) w') /\ E.Turns fb w w' := by
  have hpl := h.pl
  have htn1 := hpl.tn1
  obtain ⟨p1, p2, hk⟩ := dirT_in h.tree htn1 m.dir
  obtain ⟨hDp, hGp⟩ := h.tree.recs p p1 p2 hk
  obtain ⟨q1, q2, hkq⟩ := dirT_in h.tree htn1 m.dir2
  obtain ⟨hDq, hGq⟩ := h.tree.recs q q1 q2 hkq
  have hi : i < (T p).length := (List.getElem?_eq_some_iff.1 m.at_).1
  have htok : okB t = true := (may_all (split_may m.pb)).2 t (by simp)
  have hsum : sumL D [p, q] = bkL (T p).length + bkL (T q).length := by
    show (blk ((D p).length : Int)).toNat + ((blk ((D q).length : Int)).toNat + 0) = _
    rw [hDp, recsL_len hGp.each, hDq, recsL_len hGq.each]
    rfl
  have hlen : (T p).length <= 125 := by
    have := h.s.to.len p1 p2
    rw [hDp, recsL_len hGp.each] at this
    omega
  have hfew := m.few
  have hbp := bkL_eq (T p).length
  have hbr := blk_range ((32 * (T p).length : Nat) : Int)
  have hbq := bkL_one (T q).length (by omega)
  have hgq := grow_bk (T q).length (by omega)
  have hdl : (dropR (T p) i).length = (T p).length - 1 := dropR_len hi
  have hbd := bkL_one ((T p).length - 1) (by omega)
  rw [show (T p).length - 1 + 1 = (T p).length by omega] at hbd
  obtain ⟨gn, hgn⟩ : ∃ gn, bkL ((T q).length + 1) - bkL (T q).length = gn := ⟨_, rfl⟩
  rw [hgn] at hmay hgq
  have hgf : gn <= f := by
    unfold mayB at hmay
    simp only [Bool.or_eq_true, Bool.and_eq_true, decide_eq_true_eq] at hmay
    omega
  obtain ⟨A, U, ku, ok', -, hS'⟩ := h.s.re hpl [p, q] [p, q] (fun x hx => by simp at hx; rcases hx with rfl | rfl <;> omega) (fun x hx => by simp at hx; rcases hx with rfl | rfl <;> omega) gn hgf (by rw [hsum]; show 2 + 2 + _ + _ <= 87; omega)
  have hfar := h.far
  have hah := h.s.to.lts
  refine rename_via (E := E.rest) (rs := rs) (hb := hb) (Q := fun w' => (∃ f', f' + bkL (dropR (T p) i).length + bkL ((T q).length + 1) = f + bkL (T p).length + bkL (T q).length /\ Fsz fb rs hb E.rest K (upd (upd D p (recsL (dropR (T p) i))) q (recsL (T q ++ [⟨t, r.id⟩]))) (upd (upd T p (dropR (T p) i)) q (T q ++ [⟨t, r.id⟩])) f' (lim + 1000) w') /\ E.Turns fb w w') m.la m.lb m.pa m.pb (by simp) (by simp) (fun w1 w2 hq hB => ⟨by obtain ⟨f', g1, g2⟩ := hq.1; exact ⟨f', g1, g2.below hB⟩, hq.2.trans (Apart.of_below hB)⟩) (fun wx b0 b1 b2 b3 hx hb0 hb3 hbx => ?_)
  have hF' : FsAt fb (E.at A U (· ∈ [p, q]) (· ∈ [p, q]) ku) rs hb wx := (h.at_.below hx).at _ _ _ _ _
  have hSx := (hS'.more hx).to
  have kM := move_enter hF' hSx ok' h.tree htn1 hpl.kk.symm m (show p ∈ [p, q] by simp) (show p ∈ [p, q] by simp) (show q ∈ [p, q] by simp) (show q ∈ [p, q] by simp) (by omega) hgq hmay
  obtain ⟨F, hFe⟩ : ∃ F, F = f + bkL (T p).length + bkL (T q).length - bkL (dropR (T p) i).length - bkL ((T q).length + 1) := ⟨_, rfl⟩
  have hmb3 : b3 ≠ E.mb := by unfold TE.Ahead at hah; omega
  have kR := rename1_ok (x := 0) (k := 0) (Q := fun w1 => Apart [E.mb] wx w1 /\ FsAt fb (E.at A U (· ∈ [p, q]) (· ∈ [p, q]) ku) rs hb w1 /\ (S8 (E.at A U (· ∈ [p, q]) (· ∈ [p, q]) ku) K (upd (upd D p (recsL (dropR (T p) i))) q (recsL (T q ++ [⟨t, r.id⟩]))) F 0 lim w1 /\ F + bkL (dropR (T p) i).length + bkL ((T q).length + 1) = f + bkL (T p).length + bkL (T q).length)) hbx (kM.mono (by
    rintro e w1 ⟨rfl, ⟨f', g1, g2⟩, hA1⟩
    have hfF : f' = F := by omega
    rw [hfF] at g1 g2
    have hA1' : Apart [E.mb] wx w1 := hA1
    have hN1 := hbx.n.keep hA1' (by simpa using hmb3)
    refine ⟨rfl, hN1, ?_⟩
    have e0 := setCell_self hN1.c0
    rw [e0, setCell_self hN1.c1]
    exact ⟨hA1', hF'.keep hA1' (fun hm => hfar.1 (List.mem_singleton.1 hm)), g2, g1⟩))
  refine (step_ok (P := fun w1 => (Apart [E.mb] wx w1 /\ F + bkL (dropR (T p) i).length + bkL ((T q).length + 1) = f + bkL (T p).length + bkL (T q).length) /\ FnAt w1 b3 0 0) (K := K) (D := upd (upd D p (recsL (dropR (T p) i))) q (recsL (T q ++ [⟨t, r.id⟩]))) (f := F) (u := 0) (lim := lim) ent_rename1 hF' hfar ok' hpl.far hpl.live (by show 1 <= E.most /\ E.most <= 200; rw [hpl.most]; omega) hlim (kR.mono ?_)).mono ?_
  · rintro e w1 ⟨rfl, hN1, hA1, hF1, hS1, hFf⟩
    exact ⟨rfl, ⟨⟨hA1, hFf⟩, hN1⟩, hF1, hS1⟩
  · rintro e w2 ⟨rfl, w1, ⟨⟨hA1, hFf⟩, hN1⟩, hF2, hS2, hA2⟩
    have hA2' : Apart [E.d, E.g, E.mb] w1 w2 := hA2
    have hlow : ∀ k ∈ [E.d, E.g, E.mb], k < w.heap.size := fun k hk => by
      unfold TE.Ahead at hah
      simp only [List.mem_cons, List.not_mem_nil, or_false] at hk
      omega
    have hturn : E.Turns fb w w2 := turns_of hx hA1 hA2'
    have c0 := hbx.c0
    have l0 := lt_of_cell (a := ⟨b0, 0, none⟩) c0
    have d0 := (hA1.cell (p := ⟨b0, 0, none⟩) l0 (fun hm => by have := hlow b0 (by simp at hm ⊢; omega); omega)).trans c0
    refine ⟨rfl, ?_, 0, 0, by decide, hN1.keep hA2' (fun hm => by have := hlow _ hm; omega), ⟨hF2.c0, hF2.c1, hF2.c2, hF2.c3, hF2.c4, hF2.c5, hF2.c6, hF2.c7, hF2.f7⟩, ?_, ⟨⟨F, hFf, ⟨⟨hF2.c0, hF2.c1, hF2.c2, hF2.c3, hF2.c4, hF2.c5, hF2.c6, hF2.c7, hF2.f7⟩, hS2.rest, hpl.at _ _ _ _ _, hfar, h.tree.enter p1 p2 hk q1 q2 hkq m.oth m.at_ htok m.no⟩⟩, hturn⟩⟩
    · exact (hA2'.cell (p := ⟨b0, 0, none⟩) (lt_of_cell (a := ⟨b0, 0, none⟩) d0) (fun hm => by have := hlow _ hm; simp only at this; omega)).trans d0
    · exact ⟨(hno.turns hturn).no, hno.ne⟩
end
end Go.Proofs.YtpofmiecjkghgaaGreatDoor
