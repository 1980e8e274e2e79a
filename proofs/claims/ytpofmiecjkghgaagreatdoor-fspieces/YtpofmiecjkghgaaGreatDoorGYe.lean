/- Cut of a held file, by its number. -/
import Derived.Test.YtpofmiecjkghgaaGreatDoorGYc
namespace Go.Proofs.YtpofmiecjkghgaaGreatDoor
open Go.RowKit Go.Extern.Stop Go.Stop Go.Extern Go.Maps Go.Sort Go.Shelf
set_option maxRecDepth 100000
section
variable {fb rs hb : Nat} {E : TE} {w w' : World} {K : Nat -> Nat} {D : Nat -> List Int} {T : Nat -> List Rec} {f u lim : Nat} {H : Chg}
structure CBox (b0 b1 b2 fb : Nat) (id s : Int) (w : World) : Prop where
  c0 : w.cell? ⟨b0, 0, none⟩ = some (ptr fb)
  c1 : w.cell? ⟨b1, 0, none⟩ = some (.int .i64 id)
  c2 : w.cell? ⟨b2, 0, none⟩ = some (.int .i64 s)
theorem CBox.below {b0 b1 b2 : Nat} {id s : Int} (h : CBox b0 b1 b2 fb id s w) (hB : Below w.heap.size w w') : CBox b0 b1 b2 fb id s w' :=
  have k : ∀ b v, w.cell? ⟨b, 0, none⟩ = some v -> w'.cell? ⟨b, 0, none⟩ = some v := fun b v hc => (hB.cell (p := ⟨b, 0, none⟩) (lt_of_cell hc)).trans hc
  ⟨k _ _ h.c0, k _ _ h.c1, k _ _ h.c2⟩
set_option maxHeartbeats 2000000 in
theorem fcut1_any {b0 b1 b2 id s : Nat} {Q : World -> Prop} (hB : CBox b0 b1 b2 fb (id : Nat) (s : Nat) w) (hF : FsAt fb E rs hb w)
    (kR : Calls Tryz.prog 81 #[ptr fb, .int .i64 (id : Nat), .int .i64 (s : Nat), .bool false] w fun e w' => e = .returned .nilIface /\ Below w.heap.size w w')
    (kW : ∀ wx, Below w.heap.size w wx -> Calls Tryz.prog 65 #[ptr E.tb, .int .i64 (id : Nat), .int .i64 (s : Nat)] wx fun e w' => e = .returned .nilIface /\ Q w') :
    Calls Tryz.prog 103 #[ptr b0, ptr b1, ptr b2] w fun e w' => e = .returned .nilIface /\ Q w' := by
  have c0 := hB.c0
  have c1 := hB.c1
  have c2 := hB.c2
  have l0 := lt_of_cell (a := ⟨b0, 0, none⟩) c0
  have l1 := lt_of_cell (a := ⟨b1, 0, none⟩) c1
  have l2 := lt_of_cell (a := ⟨b2, 0, none⟩) c2
  have hk := hidden (fun (wx : World) (hx : Below w.heap.size w wx) => And.intro (hB.below hx) (hF.below hx))
  replace kR := hidden kR
  replace kW := hidden kW
  clear hB hF
  go_enter Tryz.func103, Tryz.ntmps103
  go_wp2_with fail
  refine (kR.out).mono ?_
  rintro ev w1 ⟨rfl, hB1⟩
  obtain ⟨hb1, hf1⟩ := hk.out _ hB1
  have d0 := hb1.c0
  have d1 := hb1.c1
  have d2 := hb1.c2
  have t2 := hf1.c2
  have lf := hf1.lt
  have kW1 := hidden (kW.out _ (hB1.trans ((below_drew1 w1).mono hB1.size)))
  clear kR kW hb1 hf1 hk hB1 c0 c1 c2 l0 l1 l2
  have l0 := lt_of_cell (a := ⟨b0, 0, none⟩) d0
  have l1 := lt_of_cell (a := ⟨b1, 0, none⟩) d1
  have l2 := lt_of_cell (a := ⟨b2, 0, none⟩) d2
  go_upto_region 4 with fail
  go_region_with (go_at_call 65; refine (kW1.out).mono ?_; rintro ev w2 ⟨rfl, hQ⟩; replace hQ := hidden hQ)
  all_goals
    go_wp2
    go_ret
    exact ⟨rfl, hQ.out⟩
theorem ent_fcut1 : ∀ (args : Array Value) (w : World), (callFunc 103 args).run Tryz.prog w = .ok (.enter 103 args) w := enters_of Tryz.func103 (by kernel_rfl) rfl
set_option maxHeartbeats 2000000 in
theorem cut_via {id s : Nat} {Q : Value -> World -> Prop} (hF : FsAt fb E rs hb w) (hh : HeldAt fb hb E H w) (hi : i64 (id : Int)) (ht : 0 < hT H (id : Nat)) (hs : s <= 4000)
    (kS : ∀ (wx : World) (b0 b1 b2 : Nat), Below w.heap.size w wx -> CBox b0 b1 b2 fb (id : Nat) (s : Nat) wx -> Calls Tryz.prog 54 #[ptr fb, .func (.func 103) #[] #[ptr b0, ptr b1, ptr b2]] wx fun e w' => ∃ ev, e = .returned ev /\ Q ev w') :
    Calls Tryz.prog 50 #[ptr fb, .int .i64 (id : Nat), .int .i64 (s : Nat)] w fun e w' => ∃ ev, e = .returned ev /\ Q ev w' := by
  have hmf : ∀ (fn : Fn) (first cap : Array Value) (w : World), (Instr.makeFunc fn first cap).run Tryz.prog w = .ok (.func fn first cap) w := fun _ _ _ _ => rfl
  obtain ⟨w4, hw4, hB4, hx⟩ : ∃ w4, ((w.alloc (Obj.cells #[ptr fb] 31)).alloc (Obj.cells #[.int .i64 (id : Nat)] 3)).alloc (Obj.cells #[.int .i64 (s : Nat)] 3) = w4 /\ Below w.heap.size w w4 /\ CBox w.heap.size (w.heap.size + 1) (w.heap.size + 2) fb (id : Nat) (s : Nat) w4 := by
    generalize e1 : w.alloc (Obj.cells #[ptr fb] 31) = W1
    have s1 : W1.heap.size = w.heap.size + 1 := by rw [<- e1]; simp
    have a1 : W1.cell? ⟨w.heap.size, 0, none⟩ = some (ptr fb) := by rw [<- e1]; simp
    have b1 : Below w.heap.size w W1 := by rw [<- e1]; exact (Below.refl _ _).alloc (Nat.le_refl _) _
    generalize e2 : W1.alloc (Obj.cells #[.int .i64 (id : Nat)] 3) = W2
    have s2 : W2.heap.size = w.heap.size + 2 := by rw [<- e2]; simp [s1]
    have a2 : W2.cell? ⟨w.heap.size + 1, 0, none⟩ = some (.int .i64 (id : Nat)) := by rw [<- e2, <- s1]; simp
    have b2 : Below W1.heap.size W1 W2 := by rw [<- e2]; exact (Below.refl _ _).alloc (Nat.le_refl _) _
    generalize e3 : W2.alloc (Obj.cells #[.int .i64 (s : Nat)] 3) = W3
    have a3 : W3.cell? ⟨w.heap.size + 2, 0, none⟩ = some (.int .i64 (s : Nat)) := by rw [<- e3, <- s2]; simp
    have b3 : Below W2.heap.size W2 W3 := by rw [<- e3]; exact (Below.refl _ _).alloc (Nat.le_refl _) _
    have b13 : Below W1.heap.size W1 W3 := b2.trans (b3.mono b2.size)
    exact ⟨W3, rfl, b1.trans (b13.mono b1.size), ⟨(b13.cell (p := ⟨w.heap.size, 0, none⟩) (lt_of_cell a1)).trans a1, (b3.cell (p := ⟨w.heap.size + 1, 0, none⟩) (lt_of_cell a2)).trans a2, a3⟩⟩
  have kH := holds_at (hF.below hB4) (hh.below hB4) ((id : Nat) : Int) hi
  rw [decide_eq_true ht] at kH
  replace kH := hidden kH
  have kA := hidden (kS w4 _ _ _ hB4 hx)
  have c0 := hx.c0
  have c1 := hx.c1
  have c2 := hx.c2
  have l0 := lt_of_cell (a := ⟨w.heap.size, 0, none⟩) c0
  have l1 := lt_of_cell (a := ⟨w.heap.size + 1, 0, none⟩) c1
  have l2 := lt_of_cell (a := ⟨w.heap.size + 2, 0, none⟩) c2
  have hno1 : ¬ (s : Int) < 0 := by omega
  have hno2 : ¬ (4000 : Int) < (s : Int) := by omega
  replace hw4 := hidden hw4
  clear kS hB4 hx hF hh hi ht
  go_enter Tryz.func50, Tryz.ntmps50
  go_upto_region 1 with fail
  rw [hw4.out]
  clear hw4
  generalize w.heap.size = WS at *
  go_wp2_with fail
  refine (kH.out).mono ?_
  rintro ev w5 ⟨rfl, hw5⟩
  subst w5
  clear kH
  go_wp2_with fail
  refine (kA.out).mono ?_
  rintro ev w6 ⟨er, rfl, hQ⟩
  replace hQ := hidden hQ
  go_wp2
  go_ret
  exact ⟨er, rfl, hQ.out⟩
set_option maxHeartbeats 2000000 in
theorem cut_less (h : Fsz fb rs hb E K D T f lim w) (hh : HeldAt fb hb E H w) {id S2 n : Nat} (h1 : 1 <= id) (h2 : id <= E.tn) (hk1 : K id = 1) (ht : 0 < hT H (id : Nat)) (hS : S2 < (D id).length) (hn : blk ((D id).length : Int) - blk (S2 : Int) = (n : Int)) (hlim : lim <= 300000000) :
    Calls Tryz.prog 50 #[ptr fb, .int .i64 (id : Nat), .int .i64 (S2 : Nat)] w fun e w' => e = .returned .nilIface /\ (Fsz fb rs hb E.rest K (upd D id ((D id).take S2)) T (f + n) (lim + 1000) w' /\ HeldAt fb hb E.rest H w') /\ E.Turns fb w w' := by
  have hpl := h.pl
  have hld := h.s.to.len h1 h2
  have b40 : ∀ n : Nat, n <= 4000 -> blk (n : Int) <= 40 := fun n hn => by unfold blk; split <;> (try split) <;> (try split) <;> omega
  have hb1 := b40 _ hld
  have hr1 := blk_range ((D id).length : Int)
  obtain ⟨A, U, ku, ok', -, hS'⟩ := h.s.re hpl [id] [id] (fun x hx => by simp at hx; subst hx; exact ⟨h1, h2⟩) (fun x hx => by simp at hx; subst hx; exact ⟨h1, h2⟩) 0 (Nat.zero_le _) (by show 2 + 1 + ((blk ((D id).length : Int)).toNat + 0) + 0 <= 87; omega)
  have hfar := h.far
  have hkk : E.kk = E.k := hpl.kk.symm
  have hi : i64 (id : Int) := by have := hpl.rest_ok.tn; have e : E.rest.tn = E.tn := rfl; exact ⟨by omega, by omega⟩
  have hg0 : growb ((D id).length : Nat) (S2 : Int) = 0 := by
    have := blk_upD (a := (S2 : Int)) (b := ((D id).length : Int)) (by omega) (by omega) (by omega)
    unfold growb
    omega
  refine (cut_via (Q := fun ev w' => ev = .nilIface /\ (Fsz fb rs hb E.rest K (upd D id ((D id).take S2)) T (f + n) (lim + 1000) w' /\ HeldAt fb hb E.rest H w') /\ E.Turns fb w w') h.at_ hh hi ht (by omega) (fun wx b0 b1 b2 hx hbx => ?_)).mono (fun e w' ⟨ev, h1, h2, h3⟩ => ⟨by rw [h1, h2], h3⟩)
  have hF' : FsAt fb (E.at A U (· ∈ [id]) (· ∈ [id]) ku) rs hb wx := (h.at_.below hx).at _ _ _ _ _
  have hSx := (hS'.more hx).to
  have kR := resize_ok hF' hSx ok' hkk h1 h2 (by rw [hk1]; decide) S2 false (by rw [hg0]; rfl)
  have kC := fcut1_any (Q := fun w' => S8 (E.at A U (· ∈ [id]) (· ∈ [id]) ku) K (upd D id ((D id).take S2)) (f + n) 0 lim w' /\ Apart [E.mb] wx w') hbx hF' kR (fun wz hz => by
    refine (S8.cutless ok' (hSx.more hz) h1 h2 (show id ∈ [id] by simp) (show id ∈ [id] by simp) (by rw [hk1]; decide) hS hn).mono ?_
    rintro e w' ⟨rfl, r1, r2⟩
    exact ⟨rfl, r1, (Apart.of_below hz).trans r2⟩)
  refine (step_ok (P := fun w1 => Apart [E.mb] wx w1) (K := K) (D := upd D id ((D id).take S2)) (f := f + n) (u := 0) (lim := lim) ent_fcut1 hF' hfar ok' hpl.far hpl.live (by show 1 <= E.most /\ E.most <= 200; rw [hpl.most]; omega) hlim (kC.mono ?_)).mono ?_
  · rintro e w1 ⟨rfl, r3, hA⟩
    exact ⟨rfl, hA, hF'.keep hA (fun hm => hfar.1 (List.mem_singleton.1 hm)), r3⟩
  · rintro e w2 ⟨rfl, w1, hA1, hF2, hS2, hA2⟩
    have hT := turns_of hx hA1 hA2
    exact ⟨_, rfl, rfl, ⟨⟨⟨hF2.c0, hF2.c1, hF2.c2, hF2.c3, hF2.c4, hF2.c5, hF2.c6, hF2.c7, hF2.f7⟩, hS2.rest, hpl.at _ _ _ _ _, hfar, h.tree.bytes (by rw [hk1]; decide)⟩, (hh.turns hT).rest⟩, hT⟩
set_option maxHeartbeats 2000000 in
theorem cut_more (h : Fsz fb rs hb E K D T f lim w) (hh : HeldAt fb hb E H w) {id S2 n : Nat} (h1 : 1 <= id) (h2 : id <= E.tn) (hk1 : K id = 1) (ht : 0 < hT H (id : Nat)) (hS : (D id).length <= S2) (hS4 : S2 <= 4000) (hgr : growb ((D id).length : Nat) (S2 : Int) = (n : Int)) (hmay : rs + n <= f) (hlim : lim <= 300000000) :
    Calls Tryz.prog 50 #[ptr fb, .int .i64 (id : Nat), .int .i64 (S2 : Nat)] w fun e w' => e = .returned .nilIface /\ (Fsz fb rs hb E.rest K (upd D id (grownL (D id) S2)) T (f - n) (lim + 1000) w' /\ HeldAt fb hb E.rest H w') /\ E.Turns fb w w' := by
  have hpl := h.pl
  have hld := h.s.to.len h1 h2
  have b40 : ∀ n : Nat, n <= 4000 -> blk (n : Int) <= 40 := fun n hn => by unfold blk; split <;> (try split) <;> (try split) <;> omega
  have hb1 := b40 _ hld
  have hb2 := b40 _ hS4
  have hr1 := blk_range ((D id).length : Int)
  have hg40 : (blk ((D id).length : Int)).toNat + n <= 80 := by unfold growb at hgr; omega
  obtain ⟨A, U, ku, ok', -, hS'⟩ := h.s.re hpl [id] [id] (fun x hx => by simp at hx; subst hx; exact ⟨h1, h2⟩) (fun x hx => by simp at hx; subst hx; exact ⟨h1, h2⟩) n (by omega) (by show 2 + 1 + ((blk ((D id).length : Int)).toNat + 0) + n <= 87; omega)
  have hfar := h.far
  have hkk : E.kk = E.k := hpl.kk.symm
  have hi : i64 (id : Int) := by have := hpl.rest_ok.tn; have e : E.rest.tn = E.tn := rfl; exact ⟨by omega, by omega⟩
  refine (cut_via (Q := fun ev w' => ev = .nilIface /\ (Fsz fb rs hb E.rest K (upd D id (grownL (D id) S2)) T (f - n) (lim + 1000) w' /\ HeldAt fb hb E.rest H w') /\ E.Turns fb w w') h.at_ hh hi ht hS4 (fun wx b0 b1 b2 hx hbx => ?_)).mono (fun e w' ⟨ev, h1, h2, h3⟩ => ⟨by rw [h1, h2], h3⟩)
  have hF' : FsAt fb (E.at A U (· ∈ [id]) (· ∈ [id]) ku) rs hb wx := (h.at_.below hx).at _ _ _ _ _
  have hSx := (hS'.more hx).to
  have kR := resize_ok hF' hSx ok' hkk h1 h2 (by rw [hk1]; decide) S2 false (by rw [hgr]; unfold mayB; simp; omega)
  have kC := fcut1_any (Q := fun w' => S8 (E.at A U (· ∈ [id]) (· ∈ [id]) ku) K (upd D id (grownL (D id) S2)) (f - n) (n - n) lim w' /\ Apart [E.mb] wx w') hbx hF' kR (fun wz hz => by
    refine (S8.cutmore ok' (hSx.more hz) h1 h2 (show id ∈ [id] by simp) (show id ∈ [id] by simp) (by rw [hk1]; decide) hS hS4 hgr (Nat.le_refl _)).mono ?_
    rintro e w' ⟨rfl, r1, r2⟩
    exact ⟨rfl, r1, (Apart.of_below hz).trans r2⟩)
  refine (step_ok (P := fun w1 => Apart [E.mb] wx w1) (K := K) (D := upd D id (grownL (D id) S2)) (f := f - n) (u := 0) (lim := lim) ent_fcut1 hF' hfar ok' hpl.far hpl.live (by show 1 <= E.most /\ E.most <= 200; rw [hpl.most]; omega) hlim (kC.mono ?_)).mono ?_
  · rintro e w1 ⟨rfl, r3, hA⟩
    exact ⟨rfl, hA, hF'.keep hA (fun hm => hfar.1 (List.mem_singleton.1 hm)), r3.low (Nat.zero_le _)⟩
  · rintro e w2 ⟨rfl, w1, hA1, hF2, hS2, hA2⟩
    have hT := turns_of hx hA1 hA2
    exact ⟨_, rfl, rfl, ⟨⟨⟨hF2.c0, hF2.c1, hF2.c2, hF2.c3, hF2.c4, hF2.c5, hF2.c6, hF2.c7, hF2.f7⟩, hS2.rest, hpl.at _ _ _ _ _, hfar, h.tree.bytes (by rw [hk1]; decide)⟩, (hh.turns hT).rest⟩, hT⟩
theorem fCut_ok {id s : Int} {Q : World -> Prop} (hi : i64 id) (hQ : ∀ w1 w2, Q w1 -> Below w1.heap.size w1 w2 -> Q w2) (hG : ∀ w1, Q w1 -> Ground w1) (k : Calls Tryz.prog 50 #[ptr fb, .int .i64 id, .int .i64 s] w fun e w' => e = .returned .nilIface /\ Q w') :
    Calls Tryz.prog 28 #[ptr fb, .int .i64 id, .int .i64 s] w fun e w' => e = .returned .nilIface /\ Q w' := by
  replace k := hidden k
  have kW := hidden (fun (wx : World) (hg : Ground wx) => fabout_nil ⟨#[99, 117, 116]⟩ id hi wx hg)
  replace hQ := hidden hQ
  replace hG := hidden hG
  clear hi
  go_enter Tryz.func28, Tryz.ntmps28
  go_wp2_with fail
  refine (k.out).mono ?_
  rintro ev w1 ⟨rfl, hq⟩
  replace hq := hidden hq
  go_wp2_with fail
  refine (kW.out _ (hG.out _ hq.out)).mono ?_
  rintro ev w2 ⟨rfl, hB⟩
  have hE := hidden (hQ.out _ _ hq.out hB)
  go_wp2
  go_ret
  exact ⟨rfl, hE.out⟩
end
end Go.Proofs.YtpofmiecjkghgaaGreatDoor
