/- Write of a held file, by its number. -/
import Derived.Test.YtpofmiecjkghgaaGreatDoorGYa
import Derived.Test.YtpofmiecjkghgaaGreatDoorGWg
namespace Go.Proofs.YtpofmiecjkghgaaGreatDoor
open Go.RowKit Go.Extern.Stop Go.Stop Go.Extern Go.Maps Go.Sort Go.Shelf
set_option maxRecDepth 100000
section
variable {fb rs hb : Nat} {E : TE} {w w' : World} {K : Nat -> Nat} {D : Nat -> List Int} {T : Nat -> List Rec} {f u lim : Nat} {H : Chg}
theorem fabout_nil (op : ByteArray) (id : Int) (hi : i64 id) (w : World) (hG : Ground w) :
    Calls Tryz.prog 40 #[.string op, .int .i64 id, .nilIface] w fun e w' => e = .returned .nilIface /\ Below w.heap.size w w' := by
  have kI := hidden (itoa_below id hi hG (Below.refl _ _))
  replace hi := hidden hi
  generalize itoaB id = nm at kI
  have kW := hidden (fun (wx : World) => wrap_nil op nm wx)
  go_enter Tryz.func40, Tryz.ntmps40
  go_wp2_with fail
  refine (kI.out).mono ?_
  rintro ev w1 ⟨rfl, hB⟩
  replace hB := hidden hB
  go_wp2_with fail
  refine (kW.out _).mono ?_
  rintro ev w2 ⟨rfl, rfl⟩
  go_wp2
  go_ret
  exact ⟨rfl, hB.out⟩
theorem S8.write_zero (ok : E.Ok) (h : S8 E K D f u lim w) {id : Nat} (h1 : 1 <= id) (h2 : id <= E.tn) (hk : K id ≠ 0) (at_ : Nat) (hat : at_ <= 4000) (a : Option Addr) (c : Nat) :
    Calls Tryz.prog 66 #[ptr E.tb, .int .i64 id, .int .i64 at_, .slice a 0 c] w fun e w' => e = .returned .nilIface /\ S8 E K D f u lim w' /\ Below w.heap.size w w' := by
  have htn := ok.tn
  refine iWrite_calls (id := (id : Int)) ⟨by omega, by omega⟩ (Q := fun w' => S8 E K D f u lim w' /\ Below w.heap.size w w') (fun w1 w2 q hB => ⟨q.1.more hB, q.2.trans (hB.mono q.2.size)⟩) (fun w1 q => q.1.ground) ?_ ⟨a, 0, c, rfl⟩
  have h' := h
  obtain ⟨mem, wr, M, N, q1, q2, q3, q4, q5, q6⟩ := h'
  exact (write_none (at_ := at_) ⟨by omega, by omega⟩ (q1.load ok q2 id h1 h2 (by rw [q5]; exact hk))).mono fun e w' ⟨r1, r2⟩ => ⟨r1, h.more r2, r2⟩
structure WBox (b0 b1 b2 b3 fb : Nat) (bv : Value) (at_ id : Int) (w : World) : Prop where
  c0 : w.cell? ⟨b0, 0, none⟩ = some bv
  c1 : w.cell? ⟨b1, 0, none⟩ = some (.int .i64 at_)
  c2 : w.cell? ⟨b2, 0, none⟩ = some (ptr fb)
  c3 : w.cell? ⟨b3, 0, none⟩ = some (.int .i64 id)
theorem WBox.below {b0 b1 b2 b3 : Nat} {bv : Value} {at_ id : Int} (h : WBox b0 b1 b2 b3 fb bv at_ id w) (hB : Below w.heap.size w w') : WBox b0 b1 b2 b3 fb bv at_ id w' :=
  have k : ∀ b v, w.cell? ⟨b, 0, none⟩ = some v -> w'.cell? ⟨b, 0, none⟩ = some v := fun b v hc => (hB.cell (p := ⟨b, 0, none⟩) (lt_of_cell hc)).trans hc
  ⟨k _ _ h.c0, k _ _ h.c1, k _ _ h.c2, k _ _ h.c3⟩
set_option maxHeartbeats 2000000 in
theorem fwrite1_any {b0 b1 b2 b3 id at_ L en : Nat} {ba : Option Addr} {bc : Nat} {Q : World -> Prop} (hB : WBox b0 b1 b2 b3 fb (.slice ba L bc) (at_ : Nat) (id : Nat) w) (hF : FsAt fb E rs hb w) (hat : at_ + L <= 4000) (hen : en = if 0 < L then at_ + L else 0)
    (kR : Calls Tryz.prog 81 #[ptr fb, .int .i64 (id : Nat), .int .i64 (en : Nat), .bool false] w fun e w' => e = .returned .nilIface /\ Below w.heap.size w w')
    (kW : ∀ wx, Below w.heap.size w wx -> Calls Tryz.prog 66 #[ptr E.tb, .int .i64 (id : Nat), .int .i64 (at_ : Nat), .slice ba L bc] wx fun e w' => e = .returned .nilIface /\ Q w') :
    Calls Tryz.prog 80 #[ptr b0, ptr b1, ptr b2, ptr b3] w fun e w' => e = .returned .nilIface /\ Q w' := by
  have c0 := hB.c0
  have c1 := hB.c1
  have c2 := hB.c2
  have c3 := hB.c3
  have l0 := lt_of_cell (a := ⟨b0, 0, none⟩) c0
  have l1 := lt_of_cell (a := ⟨b1, 0, none⟩) c1
  have l2 := lt_of_cell (a := ⟨b2, 0, none⟩) c2
  have l3 := lt_of_cell (a := ⟨b3, 0, none⟩) c3
  have hk := hidden (fun (wx : World) (hx : Below w.heap.size w wx) => And.intro (hB.below hx) (hF.below hx))
  replace kR := hidden kR
  replace kW := hidden kW
  clear hB hF
  by_cases h0 : 0 < L
  · have e1 : ((en : Nat) : Int) = (at_ : Int) + (L : Int) := by rw [hen, if_pos h0]; omega
    rw [e1] at kR
    have h0' : (0 : Int) < (L : Int) := by omega
    clear hen e1
    go_enter Tryz.func80, Tryz.ntmps80
    go_wp2_with fail
    refine (kR.out).mono ?_
    rintro ev w1 ⟨rfl, hB1⟩
    obtain ⟨hb1, hf1⟩ := hk.out _ hB1
    have d0 := hb1.c0
    have d1 := hb1.c1
    have d2 := hb1.c2
    have d3 := hb1.c3
    have t2 := hf1.c2
    have lf := hf1.lt
    have kW1 := hidden (kW.out _ (hB1.trans ((below_drew1 w1).mono hB1.size)))
    clear kR kW hb1 hf1 hk hB1 c0 c1 c2 c3 l0 l1 l2 l3
    have l0 := lt_of_cell (a := ⟨b0, 0, none⟩) d0
    have l1 := lt_of_cell (a := ⟨b1, 0, none⟩) d1
    have l2 := lt_of_cell (a := ⟨b2, 0, none⟩) d2
    have l3 := lt_of_cell (a := ⟨b3, 0, none⟩) d3
    go_upto_region 7 with fail
    go_region_with (go_at_call 66; refine (kW1.out).mono ?_; rintro ev w2 ⟨rfl, hQ⟩; replace hQ := hidden hQ)
    all_goals
      go_wp2
      go_ret
      exact ⟨rfl, hQ.out⟩
  · have e1 : ((en : Nat) : Int) = 0 := by rw [hen, if_neg h0]; rfl
    rw [e1] at kR
    have h0' : ¬ (0 : Int) < (L : Int) := by omega
    clear hen e1
    go_enter Tryz.func80, Tryz.ntmps80
    go_wp2_with fail
    refine (kR.out).mono ?_
    rintro ev w1 ⟨rfl, hB1⟩
    obtain ⟨hb1, hf1⟩ := hk.out _ hB1
    have d0 := hb1.c0
    have d1 := hb1.c1
    have d2 := hb1.c2
    have d3 := hb1.c3
    have t2 := hf1.c2
    have lf := hf1.lt
    have kW1 := hidden (kW.out _ (hB1.trans ((below_drew1 w1).mono hB1.size)))
    clear kR kW hb1 hf1 hk hB1 c0 c1 c2 c3 l0 l1 l2 l3
    have l0 := lt_of_cell (a := ⟨b0, 0, none⟩) d0
    have l1 := lt_of_cell (a := ⟨b1, 0, none⟩) d1
    have l2 := lt_of_cell (a := ⟨b2, 0, none⟩) d2
    have l3 := lt_of_cell (a := ⟨b3, 0, none⟩) d3
    go_upto_region 7 with fail
    go_region_with (go_at_call 66; refine (kW1.out).mono ?_; rintro ev w2 ⟨rfl, hQ⟩; replace hQ := hidden hQ)
    all_goals
      go_wp2
      go_ret
      exact ⟨rfl, hQ.out⟩
theorem ent_fwrite1 : ∀ (args : Array Value) (w : World), (callFunc 80 args).run Tryz.prog w = .ok (.enter 80 args) w := enters_of Tryz.func80 (by kernel_rfl) rfl
set_option maxHeartbeats 2000000 in
theorem write_via {id at_ L : Nat} {ba : Option Addr} {bc : Nat} {Q : Value -> World -> Prop} (hF : FsAt fb E rs hb w) (hh : HeldAt fb hb E H w) (hi : i64 (id : Int)) (ht : 0 < hT H (id : Nat)) (hat : at_ + L <= 4000)
    (kS : ∀ (wx : World) (b0 b1 b2 b3 : Nat), Below w.heap.size w wx -> WBox b0 b1 b2 b3 fb (.slice ba L bc) (at_ : Nat) (id : Nat) wx -> Calls Tryz.prog 54 #[ptr fb, .func (.func 80) #[] #[ptr b0, ptr b1, ptr b2, ptr b3]] wx fun e w' => ∃ ev, e = .returned ev /\ Q ev w') :
    Calls Tryz.prog 41 #[ptr fb, .int .i64 (id : Nat), .int .i64 (at_ : Nat), .slice ba L bc] w fun e w' => ∃ ev, e = .returned ev /\ Q ev w' := by
  have hmf : ∀ (fn : Fn) (first cap : Array Value) (w : World), (Instr.makeFunc fn first cap).run Tryz.prog w = .ok (.func fn first cap) w := fun _ _ _ _ => rfl
  obtain ⟨w4, hw4, hB4, hx⟩ : ∃ w4, (((w.alloc (Obj.cells #[ptr fb] 31)).alloc (Obj.cells #[.int .i64 (id : Nat)] 3)).alloc (Obj.cells #[.int .i64 (at_ : Nat)] 3)).alloc (Obj.cells #[.slice ba L bc] 38) = w4 /\ Below w.heap.size w w4 /\ WBox (w.heap.size + 3) (w.heap.size + 2) w.heap.size (w.heap.size + 1) fb (.slice ba L bc) (at_ : Nat) (id : Nat) w4 := by
    generalize e1 : w.alloc (Obj.cells #[ptr fb] 31) = W1
    have s1 : W1.heap.size = w.heap.size + 1 := by rw [<- e1]; simp
    have a1 : W1.cell? ⟨w.heap.size, 0, none⟩ = some (ptr fb) := by rw [<- e1]; simp
    have b1 : Below w.heap.size w W1 := by rw [<- e1]; exact (Below.refl _ _).alloc (Nat.le_refl _) _
    generalize e2 : W1.alloc (Obj.cells #[.int .i64 (id : Nat)] 3) = W2
    have s2 : W2.heap.size = w.heap.size + 2 := by rw [<- e2]; simp [s1]
    have a2 : W2.cell? ⟨w.heap.size + 1, 0, none⟩ = some (.int .i64 (id : Nat)) := by rw [<- e2, <- s1]; simp
    have b2 : Below W1.heap.size W1 W2 := by rw [<- e2]; exact (Below.refl _ _).alloc (Nat.le_refl _) _
    generalize e3 : W2.alloc (Obj.cells #[.int .i64 (at_ : Nat)] 3) = W3
    have s3 : W3.heap.size = w.heap.size + 3 := by rw [<- e3]; simp [s2]
    have a3 : W3.cell? ⟨w.heap.size + 2, 0, none⟩ = some (.int .i64 (at_ : Nat)) := by rw [<- e3, <- s2]; simp
    have b3 : Below W2.heap.size W2 W3 := by rw [<- e3]; exact (Below.refl _ _).alloc (Nat.le_refl _) _
    generalize e4 : W3.alloc (Obj.cells #[.slice ba L bc] 38) = W4
    have a4 : W4.cell? ⟨w.heap.size + 3, 0, none⟩ = some (.slice ba L bc) := by rw [<- e4, <- s3]; simp
    have b4 : Below W3.heap.size W3 W4 := by rw [<- e4]; exact (Below.refl _ _).alloc (Nat.le_refl _) _
    have b24 : Below W2.heap.size W2 W4 := b3.trans (b4.mono b3.size)
    have b14 : Below W1.heap.size W1 W4 := b2.trans (b24.mono b2.size)
    exact ⟨W4, rfl, b1.trans (b14.mono b1.size), ⟨a4, (b4.cell (p := ⟨w.heap.size + 2, 0, none⟩) (lt_of_cell a3)).trans a3, (b14.cell (p := ⟨w.heap.size, 0, none⟩) (lt_of_cell a1)).trans a1, (b24.cell (p := ⟨w.heap.size + 1, 0, none⟩) (lt_of_cell a2)).trans a2⟩⟩
  have kH := holds_at (hF.below hB4) (hh.below hB4) ((id : Nat) : Int) hi
  rw [decide_eq_true ht] at kH
  replace kH := hidden kH
  have kA := hidden (kS w4 _ _ _ _ hB4 hx)
  have c0 := hx.c0
  have c1 := hx.c1
  have c2 := hx.c2
  have c3 := hx.c3
  have l0 := lt_of_cell (a := ⟨w.heap.size + 3, 0, none⟩) c0
  have l1 := lt_of_cell (a := ⟨w.heap.size + 2, 0, none⟩) c1
  have l2 := lt_of_cell (a := ⟨w.heap.size, 0, none⟩) c2
  have l3 := lt_of_cell (a := ⟨w.heap.size + 1, 0, none⟩) c3
  have hno1 : ¬ (at_ : Int) < 0 := by omega
  have hno2 : ¬ (4000 : Int) - (L : Int) < (at_ : Int) := by omega
  replace hw4 := hidden hw4
  clear kS hB4 hx hF hh hi ht
  go_enter Tryz.func41, Tryz.ntmps41
  go_upto_region 1 with fail
  rw [hw4.out]
  clear hw4
  generalize w.heap.size = WS at *
  go_wp2_with fail
  refine (kH.out).mono ?_
  rintro ev w5 ⟨rfl, hw5⟩
  subst w5
  clear kH
  go_wp2_with fail
  refine (kA.out).mono ?_
  rintro ev w6 ⟨er, rfl, hQ⟩
  replace hQ := hidden hQ
  go_wp2
  go_ret
  exact ⟨er, rfl, hQ.out⟩
set_option maxHeartbeats 2000000 in
theorem write_some (h : Fsz fb rs hb E K D T f lim w) (hh : HeldAt fb hb E H w) {id at_ S2 n : Nat} (h1 : 1 <= id) (h2 : id <= E.tn) (hk1 : K id = 1) (ht : 0 < hT H (id : Nat)) {bv : Value} {zs : List Int} (hbv : BytesC E.mb w bv zs) (hz0 : 0 < zs.length) (hat : at_ + zs.length <= 4000) (hmx : max (D id).length (at_ + zs.length) = S2) (hgr : growb ((D id).length : Nat) (S2 : Int) = (n : Int)) (hmay : rs + n <= f) (hlim : lim <= 300000000) :
    Calls Tryz.prog 41 #[ptr fb, .int .i64 (id : Nat), .int .i64 (at_ : Nat), bv] w fun e w' => e = .returned .nilIface /\ (Fsz fb rs hb E.rest K (upd D id (putD (D id) zs at_ S2)) T (f - n) (lim + 1000) w' /\ HeldAt fb hb E.rest H w') /\ E.Turns fb w w' := by
  have hpl := h.pl
  have hld := h.s.to.len h1 h2
  have b40 : ∀ n : Nat, n <= 4000 -> blk (n : Int) <= 40 := fun n hn => by unfold blk; split <;> (try split) <;> (try split) <;> omega
  have hS4 : S2 <= 4000 := by omega
  have hb1 := b40 _ hld
  have hb2 := b40 _ hS4
  have hr1 := blk_range ((D id).length : Int)
  have hg40 : (blk ((D id).length : Int)).toNat + n <= 80 := by unfold growb at hgr; omega
  obtain ⟨A, U, ku, ok', -, hS'⟩ := h.s.re hpl [id] [id] (fun x hx => by simp at hx; subst hx; exact ⟨h1, h2⟩) (fun x hx => by simp at hx; subst hx; exact ⟨h1, h2⟩) n (by omega) (by show 2 + 1 + ((blk ((D id).length : Int)).toNat + 0) + n <= 87; omega)
  obtain ⟨ba, bc, rfl, -⟩ := hbv.at
  have hfar := h.far
  have hkk : E.kk = E.k := hpl.kk.symm
  have hi : i64 (id : Int) := by have := hpl.rest_ok.tn; have e : E.rest.tn = E.tn := rfl; exact ⟨by omega, by omega⟩
  have hgr2 : growb ((D id).length : Nat) ((at_ + zs.length : Nat) : Int) <= (n : Int) := by
    unfold growb at hgr ⊢
    rcases Nat.lt_or_ge (at_ + zs.length) (D id).length with h' | h'
    · have := blk_upD (a := ((at_ + zs.length : Nat) : Int)) (b := ((D id).length : Int)) (by omega) (by omega) (by omega)
      omega
    · have : S2 = at_ + zs.length := by omega
      rw [<- this]
      omega
  refine (write_via (Q := fun ev w' => ev = .nilIface /\ (Fsz fb rs hb E.rest K (upd D id (putD (D id) zs at_ S2)) T (f - n) (lim + 1000) w' /\ HeldAt fb hb E.rest H w') /\ E.Turns fb w w') h.at_ hh hi ht hat (fun wx b0 b1 b2 b3 hx hbx => ?_)).mono (fun e w' ⟨ev, h1, h2, h3⟩ => ⟨by rw [h1, h2], h3⟩)
  have hF' : FsAt fb (E.at A U (· ∈ [id]) (· ∈ [id]) ku) rs hb wx := (h.at_.below hx).at _ _ _ _ _
  have hSx := (hS'.more hx).to
  have kR := resize_ok hF' hSx ok' hkk h1 h2 (by rw [hk1]; decide) (at_ + zs.length) false (by unfold mayB; simp; omega)
  have kC := fwrite1_any (Q := fun w' => S8 (E.at A U (· ∈ [id]) (· ∈ [id]) ku) K (upd D id (putD (D id) zs at_ S2)) (f - n) (n - n) lim w' /\ Apart [E.mb] wx w') hbx hF' hat (by rw [if_pos hz0]) kR (fun wz hz => by
    refine (S8.write ok' (hSx.more hz) h1 h2 (show id ∈ [id] by simp) (show id ∈ [id] by simp) (by rw [hk1]; decide) (hbv.keep ((Apart.of_below (bs := [E.mb]) hx).trans (Apart.of_below hz))) hz0 hat hmx hgr (Nat.le_refl _)).mono ?_
    rintro e w' ⟨rfl, r1, r2⟩
    exact ⟨rfl, r1, (Apart.of_below hz).trans r2⟩)
  refine (step_ok (P := fun w1 => Apart [E.mb] wx w1) (K := K) (D := upd D id (putD (D id) zs at_ S2)) (f := f - n) (u := 0) (lim := lim) ent_fwrite1 hF' hfar ok' hpl.far hpl.live (by show 1 <= E.most /\ E.most <= 200; rw [hpl.most]; omega) hlim (kC.mono ?_)).mono ?_
  · rintro e w1 ⟨rfl, r3, hA⟩
    exact ⟨rfl, hA, hF'.keep hA (fun hm => hfar.1 (List.mem_singleton.1 hm)), r3.low (Nat.zero_le _)⟩
  · rintro e w2 ⟨rfl, w1, hA1, hF2, hS2, hA2⟩
    have hT := turns_of hx hA1 hA2
    refine ⟨_, rfl, rfl, ⟨⟨⟨hF2.c0, hF2.c1, hF2.c2, hF2.c3, hF2.c4, hF2.c5, hF2.c6, hF2.c7, hF2.f7⟩, hS2.rest, hpl.at _ _ _ _ _, hfar, h.tree.bytes (by rw [hk1]; decide)⟩, (hh.turns hT).rest⟩, hT⟩
set_option maxHeartbeats 2000000 in
theorem write_nought (h : Fsz fb rs hb E K D T f lim w) (hh : HeldAt fb hb E H w) {id at_ : Nat} (h1 : 1 <= id) (h2 : id <= E.tn) (hk1 : K id = 1) (ht : 0 < hT H (id : Nat)) {ba : Option Addr} {bc : Nat} (hat : at_ <= 4000) (hlim : lim <= 300000000) :
    Calls Tryz.prog 41 #[ptr fb, .int .i64 (id : Nat), .int .i64 (at_ : Nat), .slice ba 0 bc] w fun e w' => e = .returned .nilIface /\ (Fsz fb rs hb E.rest K D T f (lim + 1000) w' /\ HeldAt fb hb E.rest H w') /\ E.Turns fb w w' := by
  have hpl := h.pl
  have hfar := h.far
  have hi : i64 (id : Int) := by have := hpl.rest_ok.tn; have e : E.rest.tn = E.tn := rfl; exact ⟨by omega, by omega⟩
  refine (write_via (Q := fun ev w' => ev = .nilIface /\ (Fsz fb rs hb E.rest K D T f (lim + 1000) w' /\ HeldAt fb hb E.rest H w') /\ E.Turns fb w w') h.at_ hh hi ht (L := 0) (by omega) (fun wx b0 b1 b2 b3 hx hbx => ?_)).mono (fun e w' ⟨ev, h1, h2, h3⟩ => ⟨by rw [h1, h2], h3⟩)
  have hr := h.rest.below hx
  have hSx := hr.s.to
  have hkk : E.rest.kk = E.rest.k := hpl.kk.symm
  have hrg := blk_range ((D id).length : Int)
  have kR := resize_ok hr.at_ hSx hpl.rest_ok hkk h1 h2 (by rw [hk1]; decide) 0 false (by
    have e : growb ((D id).length : Nat) ((0 : Nat) : Int) = 0 := by have b0 : blk ((0 : Nat) : Int) = 0 := rfl; unfold growb; rw [b0]; omega
    rw [e]
    rfl)
  have kC := fwrite1_any (Q := fun w' => S8 E.rest K D f 0 lim w' /\ Below wx.heap.size wx w') hbx hr.at_ (by omega) (by rfl) kR (fun wz hz => by
    refine (S8.write_zero hpl.rest_ok (hSx.more hz) h1 h2 (by rw [hk1]; decide) at_ hat ba bc).mono ?_
    rintro e w' ⟨rfl, r1, r2⟩
    exact ⟨rfl, r1, hz.trans (r2.mono hz.size)⟩)
  refine (step_ok (E := E.rest) (P := fun w1 => Below wx.heap.size wx w1) (K := K) (D := D) (f := f) (u := 0) (lim := lim) ent_fwrite1 hr.at_ hfar hpl.rest_ok hpl.far hpl.live (by show 1 <= E.most /\ E.most <= 200; rw [hpl.most]; omega) hlim (kC.mono ?_)).mono ?_
  · rintro e w1 ⟨rfl, r3, hB⟩
    exact ⟨rfl, hB, hr.at_.below hB, r3⟩
  · rintro e w2 ⟨rfl, w1, hB1, hF2, hS2, hA2⟩
    have hT : E.Turns fb w w2 := turns_of hx (Apart.of_below (bs := [E.mb]) hB1) hA2
    exact ⟨_, rfl, rfl, ⟨⟨hF2, hS2, hpl.at _ _ _ _ _, hfar, h.tree⟩, (hh.turns hT).rest⟩, hT⟩
theorem fWrite_ok {id at_ : Int} {ba : Option Addr} {bl bc : Nat} {Q : World -> Prop} (hi : i64 id) (hQ : ∀ w1 w2, Q w1 -> Below w1.heap.size w1 w2 -> Q w2) (hG : ∀ w1, Q w1 -> Ground w1) (k : Calls Tryz.prog 41 #[ptr fb, .int .i64 id, .int .i64 at_, .slice ba bl bc] w fun e w' => e = .returned .nilIface /\ Q w') :
    Calls Tryz.prog 15 #[ptr fb, .int .i64 id, .int .i64 at_, .slice ba bl bc] w fun e w' => e = .returned .nilIface /\ Q w' := by
  replace k := hidden k
  have kW := hidden (fun (wx : World) (hg : Ground wx) => fabout_nil ⟨#[119, 114, 105, 116, 101]⟩ id hi wx hg)
  replace hQ := hidden hQ
  replace hG := hidden hG
  clear hi
  go_enter Tryz.func15, Tryz.ntmps15
  go_wp2_with fail
  refine (k.out).mono ?_
  rintro ev w1 ⟨rfl, hq⟩
  replace hq := hidden hq
  go_wp2_with fail
  refine (kW.out _ (hG.out _ hq.out)).mono ?_
  rintro ev w2 ⟨rfl, hB⟩
  have hE := hidden (hQ.out _ _ hq.out hB)
  go_wp2
  go_ret
  exact ⟨rfl, hE.out⟩
end
end Go.Proofs.YtpofmiecjkghgaaGreatDoor
