/- Read of a held file, by its number. -/
import Derived.Test.YtpofmiecjkghgaaGreatDoorGYc
namespace Go.Proofs.YtpofmiecjkghgaaGreatDoor
open Go.RowKit Go.Extern.Stop Go.Stop Go.Extern Go.Maps Go.Sort Go.Shelf
set_option maxRecDepth 100000
section
variable {fb rs hb : Nat} {E : TE} {w w' : World} {K : Nat -> Nat} {D : Nat -> List Int} {T : Nat -> List Rec} {f u lim : Nat} {H : Chg}
structure QBox (b0 b1 b2 b3 b4 fb : Nat) (id at_ n : Int) (w : World) : Prop where
  c0 : w.cell? ⟨b0, 0, none⟩ = some (ptr fb)
  c1 : w.cell? ⟨b1, 0, none⟩ = some (.int .i64 id)
  c2 : w.cell? ⟨b2, 0, none⟩ = some (.int .i64 at_)
  c3 : w.cell? ⟨b3, 0, none⟩ = some (.int .i64 n)
  c4 : w.cell? ⟨b4, 0, none⟩ = some (.slice none 0 0)
  f4 : w.frozen? ⟨b4, 0, none⟩ = false
theorem QBox.below {b0 b1 b2 b3 b4 : Nat} {id at_ n : Int} (h : QBox b0 b1 b2 b3 b4 fb id at_ n w) (hB : Below w.heap.size w w') : QBox b0 b1 b2 b3 b4 fb id at_ n w' :=
  have k : ∀ b v, w.cell? ⟨b, 0, none⟩ = some v -> w'.cell? ⟨b, 0, none⟩ = some v := fun b v hc => (hB.cell (p := ⟨b, 0, none⟩) (lt_of_cell hc)).trans hc
  ⟨k _ _ h.c0, k _ _ h.c1, k _ _ h.c2, k _ _ h.c3, k _ _ h.c4, ((Apart.of_below (bs := []) hB).frozen (p := ⟨b4, 0, none⟩) (lt_of_cell (a := ⟨b4, 0, none⟩) h.c4) (by simp)).trans h.f4⟩
set_option maxHeartbeats 2000000 in
theorem fread1_ok {b0 b1 b2 b3 b4 : Nat} {id at_ n : Int} {zs : List Int} (hB : QBox b0 b1 b2 b3 b4 fb id at_ n w) (hF : FsAt fb E rs hb w)
    (kR : ∀ wx, Below w.heap.size w wx -> Calls Tryz.prog 78 #[ptr E.tb, .int .i64 id, .int .i64 at_, .int .i64 n] wx fun e w' => ∃ v, e = .returned (.tuple #[v, .nilIface]) /\ OwnV wx.heap.size w' v zs /\ Below wx.heap.size wx w') :
    Calls Tryz.prog 77 #[ptr b0, ptr b1, ptr b2, ptr b3, ptr b4] w fun e w' => e = .returned .nilIface /\ ∃ v w2, OwnV w.heap.size w2 v zs /\ Below w.heap.size w w2 /\ w' = w2.setCell ⟨b4, 0, none⟩ v := by
  have c0 := hB.c0
  have c1 := hB.c1
  have c2 := hB.c2
  have c3 := hB.c3
  have t2 := hF.c2
  have ltf := hF.lt
  have l0 := lt_of_cell (a := ⟨b0, 0, none⟩) c0
  have l1 := lt_of_cell (a := ⟨b1, 0, none⟩) c1
  have l2 := lt_of_cell (a := ⟨b2, 0, none⟩) c2
  have l3 := lt_of_cell (a := ⟨b3, 0, none⟩) c3
  have kg := hidden (fun (wx : World) (hx : Below w.heap.size w wx) => (hB.below hx).c4)
  have kf := hidden (fun (wx : World) (hx : Below w.heap.size w wx) => (hB.below hx).f4)
  have kR0 := hidden (kR w.drew (below_drew1 w))
  have hbd := hidden (below_drew1 w)
  clear hB hF kR
  go_enter Tryz.func77, Tryz.ntmps77
  go_upto_region 1 with fail
  go_region_with (go_at_call 78; refine (kR0.out).mono ?_; rintro ev w2 ⟨v, rfl, hV, hB2⟩; have hb2 := hbd.out.trans (hB2.mono hbd.out.size); have k1 := kg.out _ hb2; have k2 := kf.out _ hb2; have hlc := lt_of_cell (a := ⟨b4, 0, none⟩) k1; have hE := hidden (And.intro (hV.mono (base' := w.heap.size) hbd.out.size) hb2); obtain ⟨va, vc, hve⟩ : ∃ a c, v = .slice a zs.length c := (by obtain ⟨a, c, e, -⟩ := ownV_at hV; exact ⟨a, c, e⟩); subst hve; clear hV hB2 hb2)
  all_goals
    go_wp2
    go_ret
    exact ⟨rfl, _, w2, hE.out.1, hE.out.2, rfl⟩
theorem ent_fread1 : ∀ (args : Array Value) (w : World), (callFunc 77 args).run Tryz.prog w = .ok (.enter 77 args) w := enters_of Tryz.func77 (by kernel_rfl) rfl
theorem boxesQ (w : World) (fb : Nat) (id at_ n : Int) : ∃ w4, (((w.alloc (Obj.cells #[ptr fb] 31)).alloc (Obj.cells #[.int .i64 id] 3)).alloc (Obj.cells #[.int .i64 at_] 3)).alloc (Obj.cells #[.int .i64 n] 3) = w4 /\ Below w.heap.size w w4 /\ w4.heap.size = w.heap.size + 4 /\ w4.cell? ⟨w.heap.size, 0, none⟩ = some (ptr fb) /\ w4.cell? ⟨w.heap.size + 1, 0, none⟩ = some (.int .i64 id) /\ w4.cell? ⟨w.heap.size + 2, 0, none⟩ = some (.int .i64 at_) /\ w4.cell? ⟨w.heap.size + 3, 0, none⟩ = some (.int .i64 n) := by
  generalize e1 : w.alloc (Obj.cells #[ptr fb] 31) = W1
  have s1 : W1.heap.size = w.heap.size + 1 := by rw [<- e1]; simp
  have a1 : W1.cell? ⟨w.heap.size, 0, none⟩ = some (ptr fb) := by rw [<- e1]; simp
  have b1 : Below w.heap.size w W1 := by rw [<- e1]; exact (Below.refl _ _).alloc (Nat.le_refl _) _
  generalize e2 : W1.alloc (Obj.cells #[.int .i64 id] 3) = W2
  have s2 : W2.heap.size = w.heap.size + 2 := by rw [<- e2]; simp [s1]
  have a2 : W2.cell? ⟨w.heap.size + 1, 0, none⟩ = some (.int .i64 id) := by rw [<- e2, <- s1]; simp
  have b2 : Below W1.heap.size W1 W2 := by rw [<- e2]; exact (Below.refl _ _).alloc (Nat.le_refl _) _
  generalize e3 : W2.alloc (Obj.cells #[.int .i64 at_] 3) = W3
  have s3 : W3.heap.size = w.heap.size + 3 := by rw [<- e3]; simp [s2]
  have a3 : W3.cell? ⟨w.heap.size + 2, 0, none⟩ = some (.int .i64 at_) := by rw [<- e3, <- s2]; simp
  have b3 : Below W2.heap.size W2 W3 := by rw [<- e3]; exact (Below.refl _ _).alloc (Nat.le_refl _) _
  generalize e4 : W3.alloc (Obj.cells #[.int .i64 n] 3) = W4
  have s4 : W4.heap.size = w.heap.size + 4 := by rw [<- e4]; simp [s3]
  have a4 : W4.cell? ⟨w.heap.size + 3, 0, none⟩ = some (.int .i64 n) := by rw [<- e4, <- s3]; simp
  have b4 : Below W3.heap.size W3 W4 := by rw [<- e4]; exact (Below.refl _ _).alloc (Nat.le_refl _) _
  have b24 : Below W2.heap.size W2 W4 := b3.trans (b4.mono b3.size)
  have b14 : Below W1.heap.size W1 W4 := b2.trans (b24.mono b2.size)
  exact ⟨W4, rfl, b1.trans (b14.mono b1.size), s4, (b14.cell (p := ⟨w.heap.size, 0, none⟩) (lt_of_cell a1)).trans a1, (b24.cell (p := ⟨w.heap.size + 1, 0, none⟩) (lt_of_cell a2)).trans a2, (b4.cell (p := ⟨w.heap.size + 2, 0, none⟩) (lt_of_cell a3)).trans a3, a4⟩
set_option maxHeartbeats 2000000 in
theorem read_via {id at_ n : Nat} {Q : Value -> Value -> World -> Prop} (hF : FsAt fb E rs hb w) (hh : HeldAt fb hb E H w) (hi : i64 (id : Int)) (ht : 0 < hT H (id : Nat))
    (kS : ∀ (wx : World) (b0 b1 b2 b3 b4 : Nat), Below w.heap.size w wx -> w.heap.size <= b4 -> QBox b0 b1 b2 b3 b4 fb (id : Nat) (at_ : Nat) (n : Nat) wx -> Calls Tryz.prog 54 #[ptr fb, .func (.func 77) #[] #[ptr b0, ptr b1, ptr b2, ptr b3, ptr b4]] wx fun e w' => ∃ ev v, e = .returned ev /\ w'.cell? ⟨b4, 0, none⟩ = some v /\ Q v ev w') :
    Calls Tryz.prog 39 #[ptr fb, .int .i64 (id : Nat), .int .i64 (at_ : Nat), .int .i64 (n : Nat)] w fun e w' => ∃ v ev, e = .returned (.tuple #[v, ev]) /\ Q v ev w' := by
  have hmf : ∀ (fn : Fn) (first cap : Array Value) (w : World), (Instr.makeFunc fn first cap).run Tryz.prog w = .ok (.func fn first cap) w := fun _ _ _ _ => rfl
  obtain ⟨w4, hw4, hB4, hs4, g0, g1, g2, g3⟩ := boxesQ w fb (id : Nat) (at_ : Nat) (n : Nat)
  have kH := holds_at (hF.below hB4) (hh.below hB4) ((id : Nat) : Int) hi
  rw [decide_eq_true ht] at kH
  replace kH := hidden kH
  obtain ⟨w5, hw5, hB5, g4, f4⟩ : ∃ w5, w4.alloc (Obj.cells #[.slice none 0 0] 38) = w5 /\ Below w4.heap.size w4 w5 /\ w5.cell? ⟨w4.heap.size, 0, none⟩ = some (.slice none 0 0) /\ w5.frozen? ⟨w4.heap.size, 0, none⟩ = false := ⟨_, rfl, (Below.refl _ _).alloc (Nat.le_refl _) _, by simp, by simp⟩
  have hB05 := hB4.trans (hB5.mono hB4.size)
  have k0 := (hB5.cell (p := ⟨w.heap.size, 0, none⟩) (lt_of_cell (a := ⟨w.heap.size, 0, none⟩) g0)).trans g0
  have k1 := (hB5.cell (p := ⟨w.heap.size + 1, 0, none⟩) (lt_of_cell (a := ⟨w.heap.size + 1, 0, none⟩) g1)).trans g1
  have k2 := (hB5.cell (p := ⟨w.heap.size + 2, 0, none⟩) (lt_of_cell (a := ⟨w.heap.size + 2, 0, none⟩) g2)).trans g2
  have k3 := (hB5.cell (p := ⟨w.heap.size + 3, 0, none⟩) (lt_of_cell (a := ⟨w.heap.size + 3, 0, none⟩) g3)).trans g3
  have kA := hidden (kS w5 _ _ _ _ _ hB05 (by omega) ⟨k0, k1, k2, k3, g4, f4⟩)
  have l0 := lt_of_cell (a := ⟨w.heap.size, 0, none⟩) g0
  have l1 := lt_of_cell (a := ⟨w.heap.size + 1, 0, none⟩) g1
  have l2 := lt_of_cell (a := ⟨w.heap.size + 2, 0, none⟩) g2
  have l3 := lt_of_cell (a := ⟨w.heap.size + 3, 0, none⟩) g3
  have l05 := lt_of_cell (a := ⟨w.heap.size, 0, none⟩) k0
  have hno1 : ¬ (at_ : Int) < 0 := by omega
  have hno2 : ¬ (n : Int) < 0 := by omega
  replace hw4 := hidden hw4
  replace hw5 := hidden hw5
  clear kS hB4 hB5 hB05 hF hh hi ht k1 k2 k3 g4 f4
  go_enter Tryz.func39, Tryz.ntmps39
  go_upto_region 1 with fail
  rw [hw4.out]
  clear hw4
  generalize w.heap.size = WS at *
  go_wp2_with fail
  refine (kH.out).mono ?_
  rintro ev wq ⟨rfl, hwq⟩
  subst wq
  clear kH
  go_upto_region 6 with fail
  rw [hw5.out]
  clear hw5
  rw [hs4] at *
  go_wp2_with fail
  refine (kA.out).mono ?_
  rintro ev w6 ⟨er, v, rfl, hc, hQ⟩
  have hl6 := lt_of_cell (a := ⟨WS + 4, 0, none⟩) hc
  replace hQ := hidden hQ
  go_wp2
  go_ret2
  exact ⟨v, er, rfl, hQ.out⟩
set_option maxHeartbeats 2000000 in
theorem read_ok (h : Fsz fb rs hb E K D T f lim w) (hh : HeldAt fb hb E H w) {id at_ n : Nat} (h1 : 1 <= id) (h2 : id <= E.tn) (hk1 : K id = 1) (ht : 0 < hT H (id : Nat)) (hat : at_ <= 100000) (hn : (n : Int) <= 9223372036854775807) (hlim : lim <= 300000000) :
    Calls Tryz.prog 39 #[ptr fb, .int .i64 (id : Nat), .int .i64 (at_ : Nat), .int .i64 (n : Nat)] w fun e w' => ∃ v ev, e = .returned (.tuple #[v, ev]) /\ ev = .nilIface /\ OwnV w.heap.size w' v (((D id).drop at_).take n) /\ (Fsz fb rs hb E.rest K D T f (lim + 1000) w' /\ HeldAt fb hb E.rest H w') /\ E.Turns fb w w' := by
  have hpl := h.pl
  have hah := h.s.to.lts
  have hfar := h.far
  have hi : i64 (id : Int) := by have := hpl.rest_ok.tn; have e : E.rest.tn = E.tn := rfl; exact ⟨by omega, by omega⟩
  unfold TE.Ahead at hah
  refine read_via (Q := fun v ev w' => ev = .nilIface /\ OwnV w.heap.size w' v (((D id).drop at_).take n) /\ (Fsz fb rs hb E.rest K D T f (lim + 1000) w' /\ HeldAt fb hb E.rest H w') /\ E.Turns fb w w') h.at_ hh hi ht (fun wx b0 b1 b2 b3 b4 hx hc1 hbx => ?_)
  have hr := h.rest.below hx
  have hc2 := lt_of_cell (a := ⟨b4, 0, none⟩) hbx.c4
  have kD := fread1_ok (E := E.rest) hbx hr.at_ (fun wz hz => S8.read hpl.rest_ok (hr.s.to.more hz) h1 h2 (by rw [hk1]; decide) at_ n hat hn)
  refine (step_ok (E := E.rest) (P := fun w1 => ∃ v w2, OwnV wx.heap.size w2 v (((D id).drop at_).take n) /\ Below wx.heap.size wx w2 /\ w1 = w2.setCell ⟨b4, 0, none⟩ v) (K := K) (D := D) (f := f) (u := 0) (lim := lim) ent_fread1 hr.at_ hfar hpl.rest_ok hpl.far hpl.live (by show 1 <= E.most /\ E.most <= 200; rw [hpl.most]; omega) hlim (kD.mono ?_)).mono ?_
  · rintro e w1 ⟨rfl, v, w2, r1, r2, rfl⟩
    have hb' : Below w.heap.size w (w2.setCell ⟨b4, 0, none⟩ v) := (hx.trans (r2.mono hx.size)).setCell (p := ⟨b4, 0, none⟩) hc1 v
    have hz := h.rest.below hb'
    exact ⟨rfl, ⟨v, w2, r1, r2, rfl⟩, hz.at_, hz.s.to⟩
  · rintro e w3 ⟨rfl, w1, ⟨v, w2, r1, r2, rfl⟩, hF3, hS3, hA3⟩
    have hb' : Below w.heap.size w (w2.setCell ⟨b4, 0, none⟩ v) := (hx.trans (r2.mono hx.size)).setCell (p := ⟨b4, 0, none⟩) hc1 v
    have hcv : (w2.setCell ⟨b4, 0, none⟩ v).cell? ⟨b4, 0, none⟩ = some v := World.cell?_setCell_same' _ _ _ (by rw [(r2.cell (p := ⟨b4, 0, none⟩) hc2).trans hbx.c4]; rfl)
    have hno : ∀ k ∈ [E.d, E.g, E.mb], k < w.heap.size := fun k hk => by
      simp only [List.mem_cons, List.not_mem_nil, or_false] at hk
      omega
    have hA3' : Apart [E.d, E.g, E.mb] (w2.setCell ⟨b4, 0, none⟩ v) w3 := hA3
    have hT : E.Turns fb w w3 := (Apart.of_below hb').trans (hA3'.mono (fun x hx' _ => by
        simp only [List.mem_cons, List.not_mem_nil, or_false] at hx'
        rcases hx' with rfl | rfl | rfl <;> simp))
    refine ⟨_, v, rfl, (hA3'.cell (p := ⟨b4, 0, none⟩) (lt_of_cell (a := ⟨b4, 0, none⟩) hcv) (fun hm => by have := hno _ hm; simp only at this; omega)).trans hcv, rfl, ?_, ⟨⟨hF3, hS3, hpl.at _ _ _ _ _, hfar, h.tree⟩, (hh.turns hT).rest⟩, hT⟩
    have o1 := r1.keep ((Apart.refl [b4] w2).setCell (p := ⟨b4, 0, none⟩) (by simp) v) (fun k hk => by rw [List.mem_singleton.1 hk]; exact hc2)
    exact (o1.keep hA3' (fun k hk => Nat.lt_of_lt_of_le (hno k hk) hx.size)).mono hx.size
theorem fRead_ok {id at_ n : Int} {Q : Value -> World -> Prop} (hi : i64 id) (hQ : ∀ v w1 w2, Q v w1 -> Below w1.heap.size w1 w2 -> Q v w2) (hG : ∀ v w1, Q v w1 -> Ground w1) (k : Calls Tryz.prog 39 #[ptr fb, .int .i64 id, .int .i64 at_, .int .i64 n] w fun e w' => ∃ v ev, e = .returned (.tuple #[v, ev]) /\ ev = .nilIface /\ Q v w') :
    Calls Tryz.prog 14 #[ptr fb, .int .i64 id, .int .i64 at_, .int .i64 n] w fun e w' => ∃ v, e = .returned (.tuple #[v, .nilIface]) /\ Q v w' := by
  replace k := hidden k
  have kW := hidden (fun (wx : World) (hg : Ground wx) => fabout_nil ⟨#[114, 101, 97, 100]⟩ id hi wx hg)
  replace hQ := hidden hQ
  replace hG := hidden hG
  clear hi
  go_enter Tryz.func14, Tryz.ntmps14
  go_wp2_with fail
  refine (k.out).mono ?_
  rintro ev w1 ⟨v, er, rfl, rfl, hq⟩
  replace hq := hidden hq
  go_wp2_with fail
  refine (kW.out _ (hG.out _ _ hq.out)).mono ?_
  rintro ev w2 ⟨rfl, hB⟩
  have hE := hidden (hQ.out _ _ _ hq.out hB)
  go_wp2
  go_ret2
  exact ⟨v, rfl, hE.out⟩
end
end Go.Proofs.YtpofmiecjkghgaaGreatDoor
