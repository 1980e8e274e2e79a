/- Who holds which file: the map of holdings, whatever is in it. -/
import Derived.Test.YtpofmiecjkghgaaGreatDoorGXep
import Derived.Maps.OwnSet
import Derived.Test.YtpofmiecjkghgaaGreatDoorGWgp
import Derived.Deep.RegionHeld
import Derived.Test.YtpofmiecjkghgaaGreatDoorGYmp
import Derived.Test.YtpofmiecjkghgaaGreatDoorGYop
namespace Go.Proofs.YtpofmiecjkghgaaGreatDoor
open Go.RowKit Go.Extern.Stop Go.Stop Go.Extern Go.Maps Go.Sort Go.Shelf
set_option maxRecDepth 100000
set_option maxHeartbeats 8000000
def holdR (v : Value) : Option (DataW (List Int) × List MemPlace) := match v with
  | .agg cs => match cs.toList with
    | [.int .i64 t, .bool b] => some (.held [t, if b then 1 else 0], [])
    | _ => none
  | _ => none
theorem holdR_mk (t : Int) (b : Bool) : holdR (.agg #[.int .i64 t, .bool b]) = some (.held [t, if b then 1 else 0], []) := rfl
theorem holdR_inv {v : Value} {z : DataW (List Int) × List MemPlace} (h : holdR v = some z) : ∃ t b, v = .agg #[.int .i64 t, .bool b] /\ z = (.held [t, if b then 1 else 0], []) := by
  unfold holdR at h
  split at h
  · rename_i cs
    split at h
    · rename_i t b e
      refine ⟨t, b, ?_, (Option.some.inj h).symm⟩
      congr 1
      apply Array.ext'
      rw [e]
    · cases h
  · cases h
structure HeldAt (fb hb : Nat) (E : TE) (H : Chg) (w : World) : Prop where
  own : w.ownsMap Tryz.prog 3 holdR hb H.length (datM H)
  ne : hb ≠ E.d /\ hb ≠ E.g /\ hb ≠ E.mb /\ hb ≠ fb /\ E.w0.heap.size <= hb
def hT (H : Chg) (i : Int) : Int := (getM i H [0, 0]).getD 0 0
def hBit (H : Chg) (i : Int) : Bool := decide ((getM i H [0, 0]).getD 1 0 ≠ 0)
section
variable {fb hb : Nat} {E : TE} {H : Chg} {w w' : World} {bs : List Nat}
theorem HNo.held (h : HNo fb hb E w) : HeldAt fb hb E [] w := by
  obtain ⟨es, clock, h2, F, hs, hD⟩ := World.ownsMap_made (H := List Int) w Tryz.prog 3 holdR
  have e2 : (w.alloc (.map #[] 0)).heap[w.heap.size]? = some (.map #[] 0) := heap_alloc_new _ _
  rw [e2] at h2
  obtain ⟨rfl, rfl⟩ := Obj.map.inj (Option.some.inj h2)
  exact ⟨⟨_, _, h.no, F, hs, hD⟩, h.ne⟩
theorem HeldAt.lt (h : HeldAt fb hb E H w) : hb < w.heap.size := h.own.lt
theorem HeldAt.keep (h : HeldAt fb hb E H w) (ha : Apart bs w w') (hn : hb ∉ bs) : HeldAt fb hb E H w' := by
  obtain ⟨es, clock, hx, F, hs, hD⟩ := h.own
  exact ⟨⟨es, clock, (ha.block hb h.lt hn).trans hx, F, hs, hD⟩, h.ne⟩
theorem HeldAt.below (h : HeldAt fb hb E H w) (hB : Below w.heap.size w w') : HeldAt fb hb E H w' := h.keep (Apart.of_below (bs := []) hB) (by simp)
theorem HeldAt.turns (h : HeldAt fb hb E H w) (ha : E.Turns fb w w') : HeldAt fb hb E H w' := h.keep ha (by have := h.ne; simp; omega)
theorem HeldAt.at (h : HeldAt fb hb E H w) (A : List Nat) (U R W : Nat -> Prop) (ku : Nat) : HeldAt fb hb (E.at A U R W ku) H w := ⟨h.own, h.ne⟩
theorem HeldAt.rest (h : HeldAt fb hb E H w) : HeldAt fb hb E.rest H w := ⟨h.own, h.ne⟩
theorem HeldAt.noCell (h : HeldAt fb hb E H w) (j : Nat) : w.cell? ⟨hb, j, none⟩ = none := by
  obtain ⟨es, clock, hm, -⟩ := h.own
  unfold World.cell?
  simp [hm]
theorem HeldAt.neCell (h : HeldAt fb hb E H w) {b j : Nat} {v : Value} (hc : w.cell? ⟨b, j, none⟩ = some v) : b ≠ hb := fun e => by
  subst e
  rw [h.noCell] at hc
  cases hc
theorem HeldAt.fsz {rs : Nat} {K : Nat -> Nat} {D : Nat -> List Int} {T : Nat -> List Rec} {f lim : Nat} (h : HeldAt fb hb E H w) (hz : Fsz fb rs hb E K D T f lim w) (ha : Apart [hb] w w') : Fsz fb rs hb E K D T f lim w' := by
  obtain ⟨n1, n2, n3, n4, n5⟩ := h.ne
  refine ⟨hz.at_.keep ha (by simp; omega), ?_, hz.pl, hz.far, hz.tree⟩
  obtain ⟨mem, writes, N, h1, h2⟩ := hz.s
  have e1 := h.neCell h1.c.jat.c0
  have e2 := h.neCell h1.c.cat.c0
  have e3 := h.neCell h1.m.c0
  have e4 := h.neCell h1.t.c0
  exact ⟨mem, writes, N, h1.keepA ha (by simp; omega) (fun b hb' => by rw [List.mem_singleton.1 hb']; exact n5), h2⟩
theorem HeldAt.look (h : HeldAt fb hb E H w) (i : Int) (hi : i64 i) (c : Bool) :
    (Instr.lookup 95 (.map (some hb)) (.int .i64 i) c).run Tryz.prog w = .ok (if c then .tuple #[.agg #[.int .i64 (hT H i), .bool (hBit H i)], .bool (hasM i H)] else .agg #[.int .i64 (hT H i), .bool (hBit H i)]) w := by
  have hz : (zeroValue 113).run Tryz.prog w = .ok (.agg #[.int .i64 0, .bool false]) w := Tryz.zeroValue113 w
  obtain ⟨es, clock, hx, F, hs, hD⟩ := h.own
  rcases Maps.fit_look c keyedI Tryz.underlying95 hz hx F (keyI i hi) with ⟨hrun, hno, hat⟩ | ⟨e0, y, hm, hek, hrun, hRv, hat, _⟩
  · have h0 : hasM i H = false := by
      rw [<- has_dat, hD]
      exact Maps.has_false_of_atKey hat
    have e1 : hT H i = 0 := by unfold hT; rw [getM_none h0]; rfl
    have e2 : hBit H i = false := by unfold hBit; rw [getM_none h0]; rfl
    rw [hrun, e1, e2, h0]
  · have hA := hat (.held [0, 0])
    rw [<- hD, at_dat] at hA
    obtain ⟨t, b, hv, rfl⟩ := holdR_inv hRv
    have hg : getM i H [0, 0] = [t, if b then 1 else 0] := by simpa using hA
    have h1 : hasM i H = true := by
      cases hh : hasM i H with
      | true => rfl
      | false =>
        have := hat (.held [t, 2])
        rw [<- hD, at_dat, getM_none hh] at this
        cases b <;> simp at this
    have e1 : hT H i = t := by unfold hT; rw [hg]; rfl
    have e2 : hBit H i = b := by unfold hBit; rw [hg]; cases b <;> rfl
    rw [hrun, h1, e1, e2, hv]
theorem HeldAt.store (h : HeldAt fb hb E H w) (i : Int) (hi : i64 i) (hl : H.length <= 1000) (t : Int) (b : Bool) :
    ∃ w', (Instr.mapUpdate 95 (.map (some hb)) (.int .i64 i) (.agg #[.int .i64 t, .bool b])).run Tryz.prog w = .ok () w' /\ HeldAt fb hb E (putM i [t, if b then 1 else 0] H) w' /\ Apart [hb] w w' := by
  obtain ⟨w', hrun, hown, hg⟩ := h.own.update keyedI Tryz.underlying95 (by unfold maxLen; omega) (keyI i hi) (holdR_mk t b)
  rw [put_dat] at hown
  refine ⟨w', hrun, ⟨?_, h.ne⟩, ⟨hg.os, hg.tape, hg.output, hg.size, fun k hk hn => hg.block k hk (fun e => hn (by rw [Option.some.inj e]; simp))⟩⟩
  obtain ⟨es, clock, hx, F, hs, hD⟩ := hown
  refine ⟨es, clock, hx, F, ?_, hD⟩
  have := congrArg Maps.size hD
  rw [size_dat, Maps.size_eq, length_sorted] at this
  simp at this
  omega
end
section
variable {fb rs hb : Nat} {E : TE} {H : Chg} {w w' : World}
theorem holds_at (hF : FsAt fb E rs hb w) (hh : HeldAt fb hb E H w) (id : Int) (hi : i64 id) :
    Calls Tryz.prog 76 #[ptr fb, .int .i64 id] w fun e w' => e = .returned (.bool (decide (0 < hT H id))) /\ w' = w := by
  have c6 := hF.c6
  have hlt := hF.lt
  have hlk := hh.look id hi false
  simp only [Bool.false_eq_true, if_false] at hlk
  have hfd : ∀ w : World, (Instr.field 113 (.agg #[.int .i64 (hT H id), .bool (hBit H id)]) 0).run Tryz.prog w = .ok (.int .i64 (hT H id)) w := fun w => rfl
  clear hF hh
  go_enter Tryz.func76, Tryz.ntmps76
  go_wp2
  go_ret
  exact ⟨rfl, rfl⟩
end
structure HoAt (w : World) (x : Nat) (t : Int) (b : Bool) : Prop where
  c0 : w.cell? ⟨x, 0, none⟩ = some (.int .i64 t)
  c1 : w.cell? ⟨x, 1, none⟩ = some (.bool b)
  f0 : w.frozen? ⟨x, 0, none⟩ = false
  f1 : w.frozen? ⟨x, 1, none⟩ = false
theorem ho_new (w : World) (t : Int) (b : Bool) : HoAt (w.alloc (Obj.cells #[.int .i64 t, .bool b] 113)) w.heap.size t b := ⟨by simp, by simp, by simp, by simp⟩
section
variable {w w' : World} {x : Nat} {t : Int} {b : Bool}
theorem HoAt.lt (h : HoAt w x t b) : x < w.heap.size := lt_of_cell (a := ⟨x, 0, none⟩) h.c0
theorem HoAt.keep {bs : List Nat} (h : HoAt w x t b) (ha : Apart bs w w') (hn : x ∉ bs) : HoAt w' x t b :=
  have k : ∀ j, w'.cell? ⟨x, j, none⟩ = w.cell? ⟨x, j, none⟩ := fun j => ha.cell (p := ⟨x, j, none⟩) h.lt hn
  have z : ∀ j, w'.frozen? ⟨x, j, none⟩ = w.frozen? ⟨x, j, none⟩ := fun j => ha.frozen (p := ⟨x, j, none⟩) h.lt hn
  ⟨(k 0).trans h.c0, (k 1).trans h.c1, (z 0).trans h.f0, (z 1).trans h.f1⟩
theorem load_ho (h : HoAt w x t b) : (loadVar 113 ⟨x, 0, none⟩).run Tryz.prog w = .ok (.agg #[.int .i64 t, .bool b]) w := by
  have c0 := h.c0
  have c1 := h.c1
  clear h
  go_simp
theorem HoAt.s0 (h : HoAt w x t b) (v : Int) : HoAt (w.setCell ⟨x, 0, none⟩ (.int .i64 v)) x v b :=
  ⟨World.cell?_setCell_same' _ _ _ (by rw [h.c0]; rfl), (World.cell?_setCell_other _ _ _ _ (by simp)).trans h.c1, by simpa using h.f0, by simpa using h.f1⟩
theorem run_ho0 (h : HoAt w x t b) (v : Int) : (storeVar 3 ⟨x, 0, none⟩ (.int .i64 v)).run Tryz.prog w = .ok () (w.setCell ⟨x, 0, none⟩ (.int .i64 v)) := by
  have q := h.c0
  have z := h.f0
  clear h
  go_simp
end
structure HW (fb hb c x : Nat) (q t : Int) (b : Bool) (w : World) : Prop where
  c6 : w.cell? ⟨fb, 6, none⟩ = some (.map (some hb))
  cq : w.cell? ⟨c, 0, none⟩ = some (.int .i64 q)
  ho : HoAt w x t b
theorem HW.keep {fb hb c x : Nat} {q t : Int} {b : Bool} {bs : List Nat} {w w' : World} (h : HW fb hb c x q t b w) (ha : Apart bs w w') (hn : fb ∉ bs /\ c ∉ bs /\ x ∉ bs) : HW fb hb c x q t b w' :=
  ⟨(ha.cell (p := ⟨fb, 6, none⟩) (lt_of_cell (a := ⟨fb, 6, none⟩) h.c6) hn.1).trans h.c6, (ha.cell (p := ⟨c, 0, none⟩) (lt_of_cell (a := ⟨c, 0, none⟩) h.cq) hn.2.1).trans h.cq, h.ho.keep ha hn.2.2⟩
section
variable {fb rs hb : Nat} {E : TE} {w w' : World} {K : Nat -> Nat} {D : Nat -> List Int} {T : Nat -> List Rec} {f u lim : Nat} {H : Chg}
theorem fabout_nil (op : ByteArray) (id : Int) (hi : i64 id) (w : World) (hG : Ground w) :
    Calls Tryz.prog 40 #[.string op, .int .i64 id, .nilIface] w fun e w' => e = .returned .nilIface /\ Below w.heap.size w w' := by
  have kI := hidden (itoa_below id hi hG (Below.refl _ _))
  replace hi := hidden hi
  generalize itoaB id = nm at kI
  have kW := hidden (fun (wx : World) => wrap_nil op nm wx)
  go_enter Tryz.func40, Tryz.ntmps40
  go_wp2_with fail
  refine (kI.out).mono ?_
  rintro ev w1 ⟨rfl, hB⟩
  replace hB := hidden hB
  go_wp2_with fail
  refine (kW.out _).mono ?_
  rintro ev w2 ⟨rfl, rfl⟩
  go_wp2
  go_ret
  exact ⟨rfl, hB.out⟩
theorem S8.write_zero (ok : E.Ok) (h : S8 E K D f u lim w) {id : Nat} (h1 : 1 <= id) (h2 : id <= E.tn) (hk : K id ≠ 0) (at_ : Nat) (hat : at_ <= 4000) (a : Option Addr) (c : Nat) :
    Calls Tryz.prog 66 #[ptr E.tb, .int .i64 id, .int .i64 at_, .slice a 0 c] w fun e w' => e = .returned .nilIface /\ S8 E K D f u lim w' /\ Below w.heap.size w w' := by
  have htn := ok.tn
  refine iWrite_calls (id := (id : Int)) ⟨by omega, by omega⟩ (Q := fun w' => S8 E K D f u lim w' /\ Below w.heap.size w w') (fun w1 w2 q hB => ⟨q.1.more hB, q.2.trans (hB.mono q.2.size)⟩) (fun w1 q => q.1.ground) ?_ ⟨a, 0, c, rfl⟩
  have h' := h
  obtain ⟨mem, wr, M, N, q1, q2, q3, q4, q5, q6⟩ := h'
  exact (write_none (at_ := at_) ⟨by omega, by omega⟩ (q1.load ok q2 id h1 h2 (by rw [q5]; exact hk))).mono fun e w' ⟨r1, r2⟩ => ⟨r1, h.more r2, r2⟩
structure WBox (b0 b1 b2 b3 fb : Nat) (bv : Value) (at_ id : Int) (w : World) : Prop where
  c0 : w.cell? ⟨b0, 0, none⟩ = some bv
  c1 : w.cell? ⟨b1, 0, none⟩ = some (.int .i64 at_)
  c2 : w.cell? ⟨b2, 0, none⟩ = some (ptr fb)
  c3 : w.cell? ⟨b3, 0, none⟩ = some (.int .i64 id)
theorem WBox.below {b0 b1 b2 b3 : Nat} {bv : Value} {at_ id : Int} (h : WBox b0 b1 b2 b3 fb bv at_ id w) (hB : Below w.heap.size w w') : WBox b0 b1 b2 b3 fb bv at_ id w' :=
  have k : ∀ b v, w.cell? ⟨b, 0, none⟩ = some v -> w'.cell? ⟨b, 0, none⟩ = some v := fun b _ hc => (hB.cell (p := ⟨b, 0, none⟩) (lt_of_cell hc)).trans hc
  ⟨k _ _ h.c0, k _ _ h.c1, k _ _ h.c2, k _ _ h.c3⟩
theorem WBox.keep {b0 b1 b2 b3 m : Nat} {bv : Value} {at_ id : Int} (h : WBox b0 b1 b2 b3 fb bv at_ id w) (ha : Apart [m] w w') (hm : ∀ b v, w.cell? ⟨b, 0, none⟩ = some v -> b ≠ m) : WBox b0 b1 b2 b3 fb bv at_ id w' :=
  have k : ∀ b v, w.cell? ⟨b, 0, none⟩ = some v -> w'.cell? ⟨b, 0, none⟩ = some v := fun b v hc => (ha.cell (p := ⟨b, 0, none⟩) (lt_of_cell hc) (by simpa using hm b v hc)).trans hc
  ⟨k _ _ h.c0, k _ _ h.c1, k _ _ h.c2, k _ _ h.c3⟩
def WS (b0 b1 b2 b3 fb rs hb : Nat) (E : TE) (bv : Value) (at_ id : Int) (w : World) : Prop := WBox b0 b1 b2 b3 fb bv at_ id w /\ FsAt fb E rs hb w
theorem fwrite1_any {b0 b1 b2 b3 id at_ L en : Nat} {ba : Option Addr} {bc : Nat} {Q : World -> Prop} (hB : WBox b0 b1 b2 b3 fb (.slice ba L bc) (at_ : Nat) (id : Nat) w) (hF : FsAt fb E rs hb w) (hat : at_ + L <= 4000) (hen : en = if 0 < L then at_ + L else 0)
    (kR : Calls Tryz.prog 81 #[ptr fb, .int .i64 (id : Nat), .int .i64 (en : Nat), .bool false] w fun e w' => e = .returned .nilIface /\ Below w.heap.size w w')
    (kW : ∀ wx, Below w.heap.size w wx -> Calls Tryz.prog 66 #[ptr E.tb, .int .i64 (id : Nat), .int .i64 (at_ : Nat), .slice ba L bc] wx fun e w' => e = .returned .nilIface /\ Q w' /\ WS b0 b1 b2 b3 fb rs hb E (.slice ba L bc) (at_ : Nat) (id : Nat) w') :
    Calls Tryz.prog 80 #[ptr b0, ptr b1, ptr b2, ptr b3] w fun e w' => e = .returned .nilIface /\ Q w' := by
  have c0 := hB.c0
  have c1 := hB.c1
  have c2 := hB.c2
  have c3 := hB.c3
  have l0 := lt_of_cell (a := ⟨b0, 0, none⟩) c0
  have l1 := lt_of_cell (a := ⟨b1, 0, none⟩) c1
  have l2 := lt_of_cell (a := ⟨b2, 0, none⟩) c2
  have l3 := lt_of_cell (a := ⟨b3, 0, none⟩) c3
  have hk := hidden (fun (wx : World) (hx : Below w.heap.size w wx) => show WS b0 b1 b2 b3 fb rs hb E (.slice ba L bc) (at_ : Nat) (id : Nat) wx from And.intro (hB.below hx) (hF.below hx))
  replace kR := hidden kR
  replace kW := hidden kW
  clear hB hF
  by_cases h0 : 0 < L
  · have e1 : ((en : Nat) : Int) = (at_ : Int) + (L : Int) := by rw [hen, if_pos h0]; omega
    rw [e1] at kR
    have h0' : (0 : Int) < (L : Int) := by omega
    clear hen e1
    go_enter Tryz.func80, Tryz.ntmps80
    go_wp2_with fail
    refine (kR.out).mono ?_
    rintro ev w1 ⟨rfl, hB1⟩
    have hbd := hB1.trans ((below_drew1 w1).mono hB1.size)
    have hS0 := hidden (hk.out _ hbd)
    have kW1 := hidden (kW.out _ hbd)
    clear kR kW hk hB1 hbd c0 c1 c2 c3 l0 l1 l2 l3
    go_upto_region 7 with fail
    refine wp_region_held_drew (S := WS b0 b1 b2 b3 fb rs hb E (.slice ba L bc) (at_ : Nat) (id : Nat)) (by kernel_rfl) hS0.out ?_
    intro _
    refine wpAnyH_take (i := 0) (v := ?_) rfl (by kernel_rfl) (by kernel_rfl) (by kernel_rfl) (fun _ _ _ h => h) (Or.inl ⟨by rfl, ?_⟩) hS0.out ?_
    rotate_left
    · intro w hw; have c := (hw).1.c2; have lc := lt_of_cell (a := ⟨b2, 0, none⟩) c; clear hw; go_simp; try (with_reducible rfl)
    refine wpAnyH_take (i := 1) (v := ?_) rfl (by kernel_rfl) (by kernel_rfl) (by kernel_rfl) (fun _ _ _ h => h) (Or.inl ⟨by rfl, ?_⟩) hS0.out ?_
    rotate_left
    · intro w hw; clear hw; go_simp; try (with_reducible rfl)
    refine wpAnyH_take (i := 2) (v := ?_) rfl (by kernel_rfl) (by kernel_rfl) (by kernel_rfl) (fun _ _ _ h => h) (Or.inl ⟨by rfl, ?_⟩) hS0.out ?_
    rotate_left
    · intro w hw; clear hw; go_simp; try (with_reducible rfl)
    refine wpAnyH_take (i := 3) (v := ?_) rfl (by kernel_rfl) (by kernel_rfl) (by kernel_rfl) (fun _ _ _ h => h) (Or.inl ⟨by rfl, ?_⟩) hS0.out ?_
    rotate_left
    · intro w hw; have c := (hw).2.c2; have lc := (hw).2.lt; clear hw; go_simp; try (with_reducible rfl)
    refine wpAnyH_take (i := 4) (v := ?_) rfl (by kernel_rfl) (by kernel_rfl) (by kernel_rfl) (fun _ _ _ h => h) (Or.inl ⟨by rfl, ?_⟩) hS0.out ?_
    rotate_left
    · intro w hw; have c := (hw).1.c3; have lc := lt_of_cell (a := ⟨b3, 0, none⟩) c; clear hw; go_simp; try (with_reducible rfl)
    refine wpAnyH_take (i := 5) (v := ?_) rfl (by kernel_rfl) (by kernel_rfl) (by kernel_rfl) (fun _ _ _ h => h) (Or.inl ⟨by rfl, ?_⟩) hS0.out ?_
    rotate_left
    · intro w hw; have c := (hw).1.c1; have lc := lt_of_cell (a := ⟨b1, 0, none⟩) c; clear hw; go_simp; try (with_reducible rfl)
    refine wpAnyH_ready (rs := [6]) (by kernel_rfl) (by simp) ?_
    refine AllReadyH.cons rfl (fun K hK => ?_) AllReadyH.nil
    have c := (hS0.out).1.c0; have lc := lt_of_cell (a := ⟨b0, 0, none⟩) c
    go_simp
    refine hK.out _ _ hS0.out (fun _ => ?_)
    clear hK K
    refine wpAnyH_ready (rs := [7]) (by kernel_rfl) (by simp) ?_
    refine AllReadyH.cons rfl (fun K hK => ?_) AllReadyH.nil
    go_simp
    go_wp2_with (go_at_call 66; refine (kW1.out).mono ?_; rintro ev w2 ⟨rfl, hQ, hws⟩)
    refine hK.out _ _ (hws) (fun hSn1 => ?_)
    replace hQ := hidden hQ
    clear kW1
    clear hK K
    refine wpAnyH_ready (rs := [8]) (by kernel_rfl) (by simp) ?_
    refine AllReadyH.cons rfl (fun K hK => ?_) AllReadyH.nil
    go_simp
    refine hK.out _ _ hSn1 (fun _ => ?_)
    clear hK K
    refine wpAnyH_done (by kernel_rfl) ?_ _
    go_wp2
    go_ret
    exact ⟨rfl, hQ.out⟩
  · have e1 : ((en : Nat) : Int) = 0 := by rw [hen, if_neg h0]; rfl
    rw [e1] at kR
    have h0' : ¬ (0 : Int) < (L : Int) := by omega
    clear hen e1
    go_enter Tryz.func80, Tryz.ntmps80
    go_wp2_with fail
    refine (kR.out).mono ?_
    rintro ev w1 ⟨rfl, hB1⟩
    have hbd := hB1.trans ((below_drew1 w1).mono hB1.size)
    have hS0 := hidden (hk.out _ hbd)
    have kW1 := hidden (kW.out _ hbd)
    clear kR kW hk hB1 hbd c0 c1 c2 c3 l0 l1 l2 l3
    go_upto_region 7 with fail
    refine wp_region_held_drew (S := WS b0 b1 b2 b3 fb rs hb E (.slice ba L bc) (at_ : Nat) (id : Nat)) (by kernel_rfl) hS0.out ?_
    intro _
    refine wpAnyH_take (i := 0) (v := ?_) rfl (by kernel_rfl) (by kernel_rfl) (by kernel_rfl) (fun _ _ _ h => h) (Or.inl ⟨by rfl, ?_⟩) hS0.out ?_
    rotate_left
    · intro w hw; have c := (hw).1.c2; have lc := lt_of_cell (a := ⟨b2, 0, none⟩) c; clear hw; go_simp; try (with_reducible rfl)
    refine wpAnyH_take (i := 1) (v := ?_) rfl (by kernel_rfl) (by kernel_rfl) (by kernel_rfl) (fun _ _ _ h => h) (Or.inl ⟨by rfl, ?_⟩) hS0.out ?_
    rotate_left
    · intro w hw; clear hw; go_simp; try (with_reducible rfl)
    refine wpAnyH_take (i := 2) (v := ?_) rfl (by kernel_rfl) (by kernel_rfl) (by kernel_rfl) (fun _ _ _ h => h) (Or.inl ⟨by rfl, ?_⟩) hS0.out ?_
    rotate_left
    · intro w hw; clear hw; go_simp; try (with_reducible rfl)
    refine wpAnyH_take (i := 3) (v := ?_) rfl (by kernel_rfl) (by kernel_rfl) (by kernel_rfl) (fun _ _ _ h => h) (Or.inl ⟨by rfl, ?_⟩) hS0.out ?_
    rotate_left
    · intro w hw; have c := (hw).2.c2; have lc := (hw).2.lt; clear hw; go_simp; try (with_reducible rfl)
    refine wpAnyH_take (i := 4) (v := ?_) rfl (by kernel_rfl) (by kernel_rfl) (by kernel_rfl) (fun _ _ _ h => h) (Or.inl ⟨by rfl, ?_⟩) hS0.out ?_
    rotate_left
    · intro w hw; have c := (hw).1.c3; have lc := lt_of_cell (a := ⟨b3, 0, none⟩) c; clear hw; go_simp; try (with_reducible rfl)
    refine wpAnyH_take (i := 5) (v := ?_) rfl (by kernel_rfl) (by kernel_rfl) (by kernel_rfl) (fun _ _ _ h => h) (Or.inl ⟨by rfl, ?_⟩) hS0.out ?_
    rotate_left
    · intro w hw; have c := (hw).1.c1; have lc := lt_of_cell (a := ⟨b1, 0, none⟩) c; clear hw; go_simp; try (with_reducible rfl)
    refine wpAnyH_ready (rs := [6]) (by kernel_rfl) (by simp) ?_
    refine AllReadyH.cons rfl (fun K hK => ?_) AllReadyH.nil
    have c := (hS0.out).1.c0; have lc := lt_of_cell (a := ⟨b0, 0, none⟩) c
    go_simp
    refine hK.out _ _ hS0.out (fun _ => ?_)
    clear hK K
    refine wpAnyH_ready (rs := [7]) (by kernel_rfl) (by simp) ?_
    refine AllReadyH.cons rfl (fun K hK => ?_) AllReadyH.nil
    go_simp
    go_wp2_with (go_at_call 66; refine (kW1.out).mono ?_; rintro ev w2 ⟨rfl, hQ, hws⟩)
    refine hK.out _ _ (hws) (fun hSn1 => ?_)
    replace hQ := hidden hQ
    clear kW1
    clear hK K
    refine wpAnyH_ready (rs := [8]) (by kernel_rfl) (by simp) ?_
    refine AllReadyH.cons rfl (fun K hK => ?_) AllReadyH.nil
    go_simp
    refine hK.out _ _ hSn1 (fun _ => ?_)
    clear hK K
    refine wpAnyH_done (by kernel_rfl) ?_ _
    go_wp2
    go_ret
    exact ⟨rfl, hQ.out⟩
theorem ent_fwrite1 : ∀ (args : Array Value) (w : World), (callFunc 80 args).run Tryz.prog w = .ok (.enter 80 args) w := enters_of Tryz.func80 (by kernel_rfl) rfl
theorem write_via {id at_ L : Nat} {ba : Option Addr} {bc : Nat} {Q : Value -> World -> Prop} (hF : FsAt fb E rs hb w) (hh : HeldAt fb hb E H w) (hi : i64 (id : Int)) (ht : 0 < hT H (id : Nat)) (hat : at_ + L <= 4000)
    (kS : ∀ (wx : World) (b0 b1 b2 b3 : Nat), Below w.heap.size w wx -> WBox b0 b1 b2 b3 fb (.slice ba L bc) (at_ : Nat) (id : Nat) wx -> Calls Tryz.prog 54 #[ptr fb, .func (.func 80) #[] #[ptr b0, ptr b1, ptr b2, ptr b3]] wx fun e w' => ∃ ev, e = .returned ev /\ Q ev w') :
    Calls Tryz.prog 41 #[ptr fb, .int .i64 (id : Nat), .int .i64 (at_ : Nat), .slice ba L bc] w fun e w' => ∃ ev, e = .returned ev /\ Q ev w' := by
  have hmf : ∀ (fn : Fn) (first cap : Array Value) (w : World), (Instr.makeFunc fn first cap).run Tryz.prog w = .ok (.func fn first cap) w := fun _ _ _ _ => rfl
  obtain ⟨w4, hw4, hB4, hx⟩ : ∃ w4, (((w.alloc (Obj.cells #[ptr fb] 31)).alloc (Obj.cells #[.int .i64 (id : Nat)] 3)).alloc (Obj.cells #[.int .i64 (at_ : Nat)] 3)).alloc (Obj.cells #[.slice ba L bc] 38) = w4 /\ Below w.heap.size w w4 /\ WBox (w.heap.size + 3) (w.heap.size + 2) w.heap.size (w.heap.size + 1) fb (.slice ba L bc) (at_ : Nat) (id : Nat) w4 := by
    generalize e1 : w.alloc (Obj.cells #[ptr fb] 31) = W1
    have s1 : W1.heap.size = w.heap.size + 1 := by rw [<- e1]; simp
    have a1 : W1.cell? ⟨w.heap.size, 0, none⟩ = some (ptr fb) := by rw [<- e1]; simp
    have b1 : Below w.heap.size w W1 := by rw [<- e1]; exact (Below.refl _ _).alloc (Nat.le_refl _) _
    generalize e2 : W1.alloc (Obj.cells #[.int .i64 (id : Nat)] 3) = W2
    have s2 : W2.heap.size = w.heap.size + 2 := by rw [<- e2]; simp [s1]
    have a2 : W2.cell? ⟨w.heap.size + 1, 0, none⟩ = some (.int .i64 (id : Nat)) := by rw [<- e2, <- s1]; simp
    have b2 : Below W1.heap.size W1 W2 := by rw [<- e2]; exact (Below.refl _ _).alloc (Nat.le_refl _) _
    generalize e3 : W2.alloc (Obj.cells #[.int .i64 (at_ : Nat)] 3) = W3
    have s3 : W3.heap.size = w.heap.size + 3 := by rw [<- e3]; simp [s2]
    have a3 : W3.cell? ⟨w.heap.size + 2, 0, none⟩ = some (.int .i64 (at_ : Nat)) := by rw [<- e3, <- s2]; simp
    have b3 : Below W2.heap.size W2 W3 := by rw [<- e3]; exact (Below.refl _ _).alloc (Nat.le_refl _) _
    generalize e4 : W3.alloc (Obj.cells #[.slice ba L bc] 38) = W4
    have a4 : W4.cell? ⟨w.heap.size + 3, 0, none⟩ = some (.slice ba L bc) := by rw [<- e4, <- s3]; simp
    have b4 : Below W3.heap.size W3 W4 := by rw [<- e4]; exact (Below.refl _ _).alloc (Nat.le_refl _) _
    have b24 : Below W2.heap.size W2 W4 := b3.trans (b4.mono b3.size)
    have b14 : Below W1.heap.size W1 W4 := b2.trans (b24.mono b2.size)
    exact ⟨W4, rfl, b1.trans (b14.mono b1.size), ⟨a4, (b4.cell (p := ⟨w.heap.size + 2, 0, none⟩) (lt_of_cell a3)).trans a3, (b14.cell (p := ⟨w.heap.size, 0, none⟩) (lt_of_cell a1)).trans a1, (b24.cell (p := ⟨w.heap.size + 1, 0, none⟩) (lt_of_cell a2)).trans a2⟩⟩
  have kH := holds_at (hF.below hB4) (hh.below hB4) ((id : Nat) : Int) hi
  rw [decide_eq_true ht] at kH
  replace kH := hidden kH
  have kA := hidden (kS w4 _ _ _ _ hB4 hx)
  have c0 := hx.c0
  have c1 := hx.c1
  have c2 := hx.c2
  have c3 := hx.c3
  have l0 := lt_of_cell (a := ⟨w.heap.size + 3, 0, none⟩) c0
  have l1 := lt_of_cell (a := ⟨w.heap.size + 2, 0, none⟩) c1
  have l2 := lt_of_cell (a := ⟨w.heap.size, 0, none⟩) c2
  have l3 := lt_of_cell (a := ⟨w.heap.size + 1, 0, none⟩) c3
  have hno1 : ¬ (at_ : Int) < 0 := by omega
  have hno2 : ¬ (4000 : Int) - (L : Int) < (at_ : Int) := by omega
  replace hw4 := hidden hw4
  clear kS hB4 hx hF hh hi ht
  go_enter Tryz.func41, Tryz.ntmps41
  go_upto_region 1 with fail
  rw [hw4.out]
  clear hw4
  generalize w.heap.size = WS at *
  go_wp2_with fail
  refine (kH.out).mono ?_
  rintro ev w5 ⟨rfl, hw5⟩
  subst w5
  clear kH
  go_wp2_with fail
  refine (kA.out).mono ?_
  rintro ev w6 ⟨er, rfl, hQ⟩
  replace hQ := hidden hQ
  go_wp2
  go_ret
  exact ⟨er, rfl, hQ.out⟩
theorem write_some (h : Fsz fb rs hb E K D T f lim w) (hh : HeldAt fb hb E H w) {id at_ S2 n : Nat} (h1 : 1 <= id) (h2 : id <= E.tn) (hk1 : K id = 1) (ht : 0 < hT H (id : Nat)) {bv : Value} {zs : List Int} (hbv : BytesC E.mb w bv zs) (hz0 : 0 < zs.length) (hat : at_ + zs.length <= 4000) (hmx : max (D id).length (at_ + zs.length) = S2) (hgr : growb ((D id).length : Nat) (S2 : Int) = (n : Int)) (hmay : rs + n <= f) (hlim : lim <= 300000000) :
    Calls Tryz.prog 41 #[ptr fb, .int .i64 (id : Nat), .int .i64 (at_ : Nat), bv] w fun e w' => e = .returned .nilIface /\ (Fsz fb rs hb E.rest K (upd D id (putD (D id) zs at_ S2)) T (f - n) (lim + 1000) w' /\ HeldAt fb hb E.rest H w') /\ E.Turns fb w w' := by
  have hpl := h.pl
  have hld := h.s.to.len h1 h2
  have b40 : ∀ n : Nat, n <= 4000 -> blk (n : Int) <= 40 := fun n hn => by unfold blk; split <;> (try split) <;> (try split) <;> omega
  have hS4 : S2 <= 4000 := by omega
  have hb1 := b40 _ hld
  have hb2 := b40 _ hS4
  have hr1 := blk_range ((D id).length : Int)
  have hg40 : (blk ((D id).length : Int)).toNat + n <= 80 := by unfold growb at hgr; omega
  obtain ⟨A, U, ku, ok', -, hS'⟩ := h.s.re hpl [id] [id] (fun x hx => by simp at hx; subst hx; exact ⟨h1, h2⟩) (fun x hx => by simp at hx; subst hx; exact ⟨h1, h2⟩) n (by omega) (by show 2 + 1 + ((blk ((D id).length : Int)).toNat + 0) + n <= 87; omega)
  obtain ⟨ba, bc, rfl, -⟩ := hbv.at
  have hfar := h.far
  have hkk : E.kk = E.k := hpl.kk.symm
  have hi : i64 (id : Int) := by have := hpl.rest_ok.tn; have e : E.rest.tn = E.tn := rfl; exact ⟨by omega, by omega⟩
  have hgr2 : growb ((D id).length : Nat) ((at_ + zs.length : Nat) : Int) <= (n : Int) := by
    unfold growb at hgr ⊢
    rcases Nat.lt_or_ge (at_ + zs.length) (D id).length with h' | h'
    · have := blk_upD (a := ((at_ + zs.length : Nat) : Int)) (b := ((D id).length : Int)) (by omega) (by omega) (by omega)
      omega
    · have : S2 = at_ + zs.length := by omega
      rw [<- this]
      omega
  refine (write_via (Q := fun ev w' => ev = .nilIface /\ (Fsz fb rs hb E.rest K (upd D id (putD (D id) zs at_ S2)) T (f - n) (lim + 1000) w' /\ HeldAt fb hb E.rest H w') /\ E.Turns fb w w') h.at_ hh hi ht hat (fun wx b0 b1 b2 b3 hx hbx => ?_)).mono (fun e w' ⟨ev, h1, h2, h3⟩ => ⟨by rw [h1, h2], h3⟩)
  have hF' : FsAt fb (E.at A U (· ∈ [id]) (· ∈ [id]) ku) rs hb wx := (h.at_.below hx).at _ _ _ _ _
  have hSx := (hS'.more hx).to
  have kR := resize_ok hF' hSx ok' hkk h1 h2 (by rw [hk1]; decide) (at_ + zs.length) false (by generalize growb ((D id).length : Nat) ((at_ + zs.length : Nat) : Int) = gg at hgr2; unfold mayB; simp; omega)
  have kC := fwrite1_any (Q := fun w' => S8 (E.at A U (· ∈ [id]) (· ∈ [id]) ku) K (upd D id (putD (D id) zs at_ S2)) (f - n) (n - n) lim w' /\ Apart [E.mb] wx w') hbx hF' hat (by rw [if_pos hz0]) kR (fun wz hz => by
    refine (S8.write ok' (hSx.more hz) h1 h2 (show id ∈ [id] by simp) (show id ∈ [id] by simp) (by rw [hk1]; decide) (hbv.keep ((Apart.of_below (bs := [E.mb]) hx).trans (Apart.of_below hz))) hz0 hat hmx hgr (Nat.le_refl _)).mono ?_
    rintro e w' ⟨rfl, r1, r2⟩
    exact ⟨rfl, ⟨r1, (Apart.of_below hz).trans r2⟩, (hbx.below hz).keep r2 (fun b v hc => cell_ne (hSx.more hz) hc), (hF'.below hz).keep r2 (fun hm => hfar.1 (List.mem_singleton.1 hm))⟩)
  refine (step_ok (P := fun w1 => Apart [E.mb] wx w1) (K := K) (D := upd D id (putD (D id) zs at_ S2)) (f := f - n) (u := 0) (lim := lim) ent_fwrite1 hF' hfar ok' hpl.far hpl.live (by show 1 <= E.most /\ E.most <= 200; rw [hpl.most]; omega) hlim (kC.mono ?_)).mono ?_
  · rintro e w1 ⟨rfl, r3, hA⟩
    exact ⟨rfl, hA, hF'.keep hA (fun hm => hfar.1 (List.mem_singleton.1 hm)), r3.low (Nat.zero_le _)⟩
  · rintro e w2 ⟨rfl, w1, hA1, hF2, hS2, hA2⟩
    have hT : E.Turns fb w w2 := turns_of hx hA1 hA2
    refine ⟨_, rfl, rfl, ⟨⟨⟨hF2.c0, hF2.c1, hF2.c2, hF2.c3, hF2.c4, hF2.c5, hF2.c6, hF2.c7, hF2.f7⟩, hS2.rest, hpl.at _ _ _ _ _, hfar, h.tree.bytes (by rw [hk1]; decide)⟩, (hh.turns hT).rest⟩, hT⟩
theorem write_nought (h : Fsz fb rs hb E K D T f lim w) (hh : HeldAt fb hb E H w) {id at_ : Nat} (h1 : 1 <= id) (h2 : id <= E.tn) (hk1 : K id = 1) (ht : 0 < hT H (id : Nat)) {ba : Option Addr} {bc : Nat} (hat : at_ <= 4000) (hlim : lim <= 300000000) :
    Calls Tryz.prog 41 #[ptr fb, .int .i64 (id : Nat), .int .i64 (at_ : Nat), .slice ba 0 bc] w fun e w' => e = .returned .nilIface /\ (Fsz fb rs hb E.rest K D T f (lim + 1000) w' /\ HeldAt fb hb E.rest H w') /\ E.Turns fb w w' := by
  have hpl := h.pl
  have hfar := h.far
  have hi : i64 (id : Int) := by have := hpl.rest_ok.tn; have e : E.rest.tn = E.tn := rfl; exact ⟨by omega, by omega⟩
  refine (write_via (Q := fun ev w' => ev = .nilIface /\ (Fsz fb rs hb E.rest K D T f (lim + 1000) w' /\ HeldAt fb hb E.rest H w') /\ E.Turns fb w w') h.at_ hh hi ht (L := 0) (by omega) (fun wx b0 b1 b2 b3 hx hbx => ?_)).mono (fun e w' ⟨ev, h1, h2, h3⟩ => ⟨by rw [h1, h2], h3⟩)
  have hr := h.rest.below hx
  have hSx := hr.s.to
  have hkk : E.rest.kk = E.rest.k := hpl.kk.symm
  have hrg := blk_range ((D id).length : Int)
  have kR := resize_ok hr.at_ hSx hpl.rest_ok hkk h1 h2 (by rw [hk1]; decide) 0 false (by
    have e : growb ((D id).length : Nat) ((0 : Nat) : Int) = 0 := by have b0 : blk ((0 : Nat) : Int) = 0 := rfl; unfold growb; rw [b0]; omega
    rw [e]
    rfl)
  have kC := fwrite1_any (Q := fun w' => S8 E.rest K D f 0 lim w' /\ Below wx.heap.size wx w') hbx hr.at_ (by omega) (by rfl) kR (fun wz hz => by
    refine (S8.write_zero hpl.rest_ok (hSx.more hz) h1 h2 (by rw [hk1]; decide) at_ hat ba bc).mono ?_
    rintro e w' ⟨rfl, r1, r2⟩
    exact ⟨rfl, ⟨r1, hz.trans (r2.mono hz.size)⟩, (hbx.below hz).below r2, (hr.at_.below hz).below r2⟩)
  refine (step_ok (E := E.rest) (P := fun w1 => Below wx.heap.size wx w1) (K := K) (D := D) (f := f) (u := 0) (lim := lim) ent_fwrite1 hr.at_ hfar hpl.rest_ok hpl.far hpl.live (by show 1 <= E.most /\ E.most <= 200; rw [hpl.most]; omega) hlim (kC.mono ?_)).mono ?_
  · rintro e w1 ⟨rfl, r3, hB⟩
    exact ⟨rfl, hB, hr.at_.below hB, r3⟩
  · rintro e w2 ⟨rfl, w1, hB1, hF2, hS2, hA2⟩
    have hT : E.Turns fb w w2 := turns_of hx (Apart.of_below (bs := [E.mb]) hB1) hA2
    exact ⟨_, rfl, rfl, ⟨⟨hF2, hS2, hpl.at _ _ _ _ _, hfar, h.tree⟩, (hh.turns hT).rest⟩, hT⟩
theorem fWrite_ok {id at_ : Int} {ba : Option Addr} {bl bc : Nat} {Q : World -> Prop} (hi : i64 id) (hQ : ∀ w1 w2, Q w1 -> Below w1.heap.size w1 w2 -> Q w2) (hG : ∀ w1, Q w1 -> Ground w1) (k : Calls Tryz.prog 41 #[ptr fb, .int .i64 id, .int .i64 at_, .slice ba bl bc] w fun e w' => e = .returned .nilIface /\ Q w') :
    Calls Tryz.prog 15 #[ptr fb, .int .i64 id, .int .i64 at_, .slice ba bl bc] w fun e w' => e = .returned .nilIface /\ Q w' := by
  replace k := hidden k
  have kW := hidden (fun (wx : World) (hg : Ground wx) => fabout_nil ⟨#[119, 114, 105, 116, 101]⟩ id hi wx hg)
  replace hQ := hidden hQ
  replace hG := hidden hG
  clear hi
  go_enter Tryz.func15, Tryz.ntmps15
  go_wp2_with fail
  refine (k.out).mono ?_
  rintro ev w1 ⟨rfl, hq⟩
  replace hq := hidden hq
  go_wp2_with fail
  refine (kW.out _ (hG.out _ hq.out)).mono ?_
  rintro ev w2 ⟨rfl, hB⟩
  have hE := hidden (hQ.out _ _ hq.out hB)
  go_wp2
  go_ret
  exact ⟨rfl, hE.out⟩
end
section
variable {fb rs hb : Nat} {E : TE} {w w' : World} {K : Nat -> Nat} {D : Nat -> List Int} {T : Nat -> List Rec} {f u lim : Nat} {H : Chg}
structure CBox (b0 b1 b2 fb : Nat) (id s : Int) (w : World) : Prop where
  c0 : w.cell? ⟨b0, 0, none⟩ = some (ptr fb)
  c1 : w.cell? ⟨b1, 0, none⟩ = some (.int .i64 id)
  c2 : w.cell? ⟨b2, 0, none⟩ = some (.int .i64 s)
theorem CBox.below {b0 b1 b2 : Nat} {id s : Int} (h : CBox b0 b1 b2 fb id s w) (hB : Below w.heap.size w w') : CBox b0 b1 b2 fb id s w' :=
  have k : ∀ b v, w.cell? ⟨b, 0, none⟩ = some v -> w'.cell? ⟨b, 0, none⟩ = some v := fun b _ hc => (hB.cell (p := ⟨b, 0, none⟩) (lt_of_cell hc)).trans hc
  ⟨k _ _ h.c0, k _ _ h.c1, k _ _ h.c2⟩
theorem CBox.keep {b0 b1 b2 m : Nat} {id s : Int} (h : CBox b0 b1 b2 fb id s w) (ha : Apart [m] w w') (hm : ∀ b v, w.cell? ⟨b, 0, none⟩ = some v -> b ≠ m) : CBox b0 b1 b2 fb id s w' :=
  have k : ∀ b v, w.cell? ⟨b, 0, none⟩ = some v -> w'.cell? ⟨b, 0, none⟩ = some v := fun b v hc => (ha.cell (p := ⟨b, 0, none⟩) (lt_of_cell hc) (by simpa using hm b v hc)).trans hc
  ⟨k _ _ h.c0, k _ _ h.c1, k _ _ h.c2⟩
def CS (b0 b1 b2 fb rs hb : Nat) (E : TE) (id s : Int) (w : World) : Prop := CBox b0 b1 b2 fb id s w /\ FsAt fb E rs hb w
theorem fcut1_any {b0 b1 b2 id s : Nat} {Q : World -> Prop} (hB : CBox b0 b1 b2 fb (id : Nat) (s : Nat) w) (hF : FsAt fb E rs hb w)
    (kR : Calls Tryz.prog 81 #[ptr fb, .int .i64 (id : Nat), .int .i64 (s : Nat), .bool false] w fun e w' => e = .returned .nilIface /\ Below w.heap.size w w')
    (kW : ∀ wx, Below w.heap.size w wx -> Calls Tryz.prog 65 #[ptr E.tb, .int .i64 (id : Nat), .int .i64 (s : Nat)] wx fun e w' => e = .returned .nilIface /\ Q w' /\ CS b0 b1 b2 fb rs hb E (id : Nat) (s : Nat) w') :
    Calls Tryz.prog 103 #[ptr b0, ptr b1, ptr b2] w fun e w' => e = .returned .nilIface /\ Q w' := by
  have c0 := hB.c0
  have c1 := hB.c1
  have c2 := hB.c2
  have l0 := lt_of_cell (a := ⟨b0, 0, none⟩) c0
  have l1 := lt_of_cell (a := ⟨b1, 0, none⟩) c1
  have l2 := lt_of_cell (a := ⟨b2, 0, none⟩) c2
  have hk := hidden (fun (wx : World) (hx : Below w.heap.size w wx) => show CS b0 b1 b2 fb rs hb E (id : Nat) (s : Nat) wx from And.intro (hB.below hx) (hF.below hx))
  replace kR := hidden kR
  replace kW := hidden kW
  clear hB hF
  go_enter Tryz.func103, Tryz.ntmps103
  go_wp2_with fail
  refine (kR.out).mono ?_
  rintro ev w1 ⟨rfl, hB1⟩
  have hbd := hB1.trans ((below_drew1 w1).mono hB1.size)
  have hS0 := hidden (hk.out _ hbd)
  have kW1 := hidden (kW.out _ hbd)
  clear kR kW hk hB1 hbd c0 c1 c2 l0 l1 l2
  go_upto_region 4 with fail
  refine wp_region_held_drew (S := CS b0 b1 b2 fb rs hb E (id : Nat) (s : Nat)) (by kernel_rfl) hS0.out ?_
  intro _
  refine wpAnyH_take (i := 0) (v := ?_) rfl (by kernel_rfl) (by kernel_rfl) (by kernel_rfl) (fun _ _ _ h => h) (Or.inl ⟨by rfl, ?_⟩) hS0.out ?_
  rotate_left
  · intro w hw; have c := (hw).1.c0; have lc := lt_of_cell (a := ⟨b0, 0, none⟩) c; clear hw; go_simp; try (with_reducible rfl)
  refine wpAnyH_take (i := 1) (v := ?_) rfl (by kernel_rfl) (by kernel_rfl) (by kernel_rfl) (fun _ _ _ h => h) (Or.inl ⟨by rfl, ?_⟩) hS0.out ?_
  rotate_left
  · intro w hw; clear hw; go_simp; try (with_reducible rfl)
  refine wpAnyH_take (i := 2) (v := ?_) rfl (by kernel_rfl) (by kernel_rfl) (by kernel_rfl) (fun _ _ _ h => h) (Or.inl ⟨by rfl, ?_⟩) hS0.out ?_
  rotate_left
  · intro w hw; clear hw; go_simp; try (with_reducible rfl)
  refine wpAnyH_take (i := 3) (v := ?_) rfl (by kernel_rfl) (by kernel_rfl) (by kernel_rfl) (fun _ _ _ h => h) (Or.inl ⟨by rfl, ?_⟩) hS0.out ?_
  rotate_left
  · intro w hw; have c := (hw).2.c2; have lc := (hw).2.lt; clear hw; go_simp; try (with_reducible rfl)
  refine wpAnyH_take (i := 4) (v := ?_) rfl (by kernel_rfl) (by kernel_rfl) (by kernel_rfl) (fun _ _ _ h => h) (Or.inl ⟨by rfl, ?_⟩) hS0.out ?_
  rotate_left
  · intro w hw; have c := (hw).1.c1; have lc := lt_of_cell (a := ⟨b1, 0, none⟩) c; clear hw; go_simp; try (with_reducible rfl)
  refine wpAnyH_ready (rs := [5]) (by kernel_rfl) (by simp) ?_
  refine AllReadyH.cons rfl (fun K hK => ?_) AllReadyH.nil
  have c := (hS0.out).1.c2; have lc := lt_of_cell (a := ⟨b2, 0, none⟩) c
  go_simp
  refine hK.out _ _ hS0.out (fun _ => ?_)
  clear hK K
  refine wpAnyH_ready (rs := [6]) (by kernel_rfl) (by simp) ?_
  refine AllReadyH.cons rfl (fun K hK => ?_) AllReadyH.nil
  go_simp
  go_wp2_with (go_at_call 65; refine (kW1.out).mono ?_; rintro ev w2 ⟨rfl, hQ, hws⟩)
  refine hK.out _ _ (hws) (fun hSn1 => ?_)
  replace hQ := hidden hQ
  clear kW1
  clear hK K
  refine wpAnyH_ready (rs := [7]) (by kernel_rfl) (by simp) ?_
  refine AllReadyH.cons rfl (fun K hK => ?_) AllReadyH.nil
  go_simp
  refine hK.out _ _ hSn1 (fun _ => ?_)
  clear hK K
  refine wpAnyH_done (by kernel_rfl) ?_ _
  go_wp2
  go_ret
  exact ⟨rfl, hQ.out⟩
theorem ent_fcut1 : ∀ (args : Array Value) (w : World), (callFunc 103 args).run Tryz.prog w = .ok (.enter 103 args) w := enters_of Tryz.func103 (by kernel_rfl) rfl
theorem cut_via {id s : Nat} {Q : Value -> World -> Prop} (hF : FsAt fb E rs hb w) (hh : HeldAt fb hb E H w) (hi : i64 (id : Int)) (ht : 0 < hT H (id : Nat)) (hs : s <= 4000)
    (kS : ∀ (wx : World) (b0 b1 b2 : Nat), Below w.heap.size w wx -> CBox b0 b1 b2 fb (id : Nat) (s : Nat) wx -> Calls Tryz.prog 54 #[ptr fb, .func (.func 103) #[] #[ptr b0, ptr b1, ptr b2]] wx fun e w' => ∃ ev, e = .returned ev /\ Q ev w') :
    Calls Tryz.prog 50 #[ptr fb, .int .i64 (id : Nat), .int .i64 (s : Nat)] w fun e w' => ∃ ev, e = .returned ev /\ Q ev w' := by
  have hmf : ∀ (fn : Fn) (first cap : Array Value) (w : World), (Instr.makeFunc fn first cap).run Tryz.prog w = .ok (.func fn first cap) w := fun _ _ _ _ => rfl
  obtain ⟨w4, hw4, hB4, hx⟩ : ∃ w4, ((w.alloc (Obj.cells #[ptr fb] 31)).alloc (Obj.cells #[.int .i64 (id : Nat)] 3)).alloc (Obj.cells #[.int .i64 (s : Nat)] 3) = w4 /\ Below w.heap.size w w4 /\ CBox w.heap.size (w.heap.size + 1) (w.heap.size + 2) fb (id : Nat) (s : Nat) w4 := by
    generalize e1 : w.alloc (Obj.cells #[ptr fb] 31) = W1
    have s1 : W1.heap.size = w.heap.size + 1 := by rw [<- e1]; simp
    have a1 : W1.cell? ⟨w.heap.size, 0, none⟩ = some (ptr fb) := by rw [<- e1]; simp
    have b1 : Below w.heap.size w W1 := by rw [<- e1]; exact (Below.refl _ _).alloc (Nat.le_refl _) _
    generalize e2 : W1.alloc (Obj.cells #[.int .i64 (id : Nat)] 3) = W2
    have s2 : W2.heap.size = w.heap.size + 2 := by rw [<- e2]; simp [s1]
    have a2 : W2.cell? ⟨w.heap.size + 1, 0, none⟩ = some (.int .i64 (id : Nat)) := by rw [<- e2, <- s1]; simp
    have b2 : Below W1.heap.size W1 W2 := by rw [<- e2]; exact (Below.refl _ _).alloc (Nat.le_refl _) _
    generalize e3 : W2.alloc (Obj.cells #[.int .i64 (s : Nat)] 3) = W3
    have a3 : W3.cell? ⟨w.heap.size + 2, 0, none⟩ = some (.int .i64 (s : Nat)) := by rw [<- e3, <- s2]; simp
    have b3 : Below W2.heap.size W2 W3 := by rw [<- e3]; exact (Below.refl _ _).alloc (Nat.le_refl _) _
    have b13 : Below W1.heap.size W1 W3 := b2.trans (b3.mono b2.size)
    exact ⟨W3, rfl, b1.trans (b13.mono b1.size), ⟨(b13.cell (p := ⟨w.heap.size, 0, none⟩) (lt_of_cell a1)).trans a1, (b3.cell (p := ⟨w.heap.size + 1, 0, none⟩) (lt_of_cell a2)).trans a2, a3⟩⟩
  have kH := holds_at (hF.below hB4) (hh.below hB4) ((id : Nat) : Int) hi
  rw [decide_eq_true ht] at kH
  replace kH := hidden kH
  have kA := hidden (kS w4 _ _ _ hB4 hx)
  have c0 := hx.c0
  have c1 := hx.c1
  have c2 := hx.c2
  have l0 := lt_of_cell (a := ⟨w.heap.size, 0, none⟩) c0
  have l1 := lt_of_cell (a := ⟨w.heap.size + 1, 0, none⟩) c1
  have l2 := lt_of_cell (a := ⟨w.heap.size + 2, 0, none⟩) c2
  have hno1 : ¬ (s : Int) < 0 := by omega
  have hno2 : ¬ (4000 : Int) < (s : Int) := by omega
  replace hw4 := hidden hw4
  clear kS hB4 hx hF hh hi ht
  go_enter Tryz.func50, Tryz.ntmps50
  go_upto_region 1 with fail
  rw [hw4.out]
  clear hw4
  generalize w.heap.size = WS at *
  go_wp2_with fail
  refine (kH.out).mono ?_
  rintro ev w5 ⟨rfl, hw5⟩
  subst w5
  clear kH
  go_wp2_with fail
  refine (kA.out).mono ?_
  rintro ev w6 ⟨er, rfl, hQ⟩
  replace hQ := hidden hQ
  go_wp2
  go_ret
  exact ⟨er, rfl, hQ.out⟩
theorem hcut_less (h : Fsz fb rs hb E K D T f lim w) (hh : HeldAt fb hb E H w) {id S2 n : Nat} (h1 : 1 <= id) (h2 : id <= E.tn) (hk1 : K id = 1) (ht : 0 < hT H (id : Nat)) (hS : S2 < (D id).length) (hn : blk ((D id).length : Int) - blk (S2 : Int) = (n : Int)) (hlim : lim <= 300000000) :
    Calls Tryz.prog 50 #[ptr fb, .int .i64 (id : Nat), .int .i64 (S2 : Nat)] w fun e w' => e = .returned .nilIface /\ (Fsz fb rs hb E.rest K (upd D id ((D id).take S2)) T (f + n) (lim + 1000) w' /\ HeldAt fb hb E.rest H w') /\ E.Turns fb w w' := by
  have hpl := h.pl
  have hld := h.s.to.len h1 h2
  have b40 : ∀ n : Nat, n <= 4000 -> blk (n : Int) <= 40 := fun n hn => by unfold blk; split <;> (try split) <;> (try split) <;> omega
  have hb1 := b40 _ hld
  have hr1 := blk_range ((D id).length : Int)
  obtain ⟨A, U, ku, ok', -, hS'⟩ := h.s.re hpl [id] [id] (fun x hx => by simp at hx; subst hx; exact ⟨h1, h2⟩) (fun x hx => by simp at hx; subst hx; exact ⟨h1, h2⟩) 0 (Nat.zero_le _) (by show 2 + 1 + ((blk ((D id).length : Int)).toNat + 0) + 0 <= 87; omega)
  have hfar := h.far
  have hkk : E.kk = E.k := hpl.kk.symm
  have hi : i64 (id : Int) := by have := hpl.rest_ok.tn; have e : E.rest.tn = E.tn := rfl; exact ⟨by omega, by omega⟩
  have hg0 : growb ((D id).length : Nat) (S2 : Int) = 0 := by
    have := blk_upD (a := (S2 : Int)) (b := ((D id).length : Int)) (by omega) (by omega) (by omega)
    unfold growb
    omega
  refine (cut_via (Q := fun ev w' => ev = .nilIface /\ (Fsz fb rs hb E.rest K (upd D id ((D id).take S2)) T (f + n) (lim + 1000) w' /\ HeldAt fb hb E.rest H w') /\ E.Turns fb w w') h.at_ hh hi ht (by omega) (fun wx b0 b1 b2 hx hbx => ?_)).mono (fun e w' ⟨ev, h1, h2, h3⟩ => ⟨by rw [h1, h2], h3⟩)
  have hF' : FsAt fb (E.at A U (· ∈ [id]) (· ∈ [id]) ku) rs hb wx := (h.at_.below hx).at _ _ _ _ _
  have hSx := (hS'.more hx).to
  have kR := resize_ok hF' hSx ok' hkk h1 h2 (by rw [hk1]; decide) S2 false (by rw [hg0]; rfl)
  have kC := fcut1_any (Q := fun w' => S8 (E.at A U (· ∈ [id]) (· ∈ [id]) ku) K (upd D id ((D id).take S2)) (f + n) 0 lim w' /\ Apart [E.mb] wx w') hbx hF' kR (fun wz hz => by
    refine (S8.cutless ok' (hSx.more hz) h1 h2 (show id ∈ [id] by simp) (show id ∈ [id] by simp) (by rw [hk1]; decide) hS hn).mono ?_
    rintro e w' ⟨rfl, r1, r2⟩
    exact ⟨rfl, ⟨r1, (Apart.of_below hz).trans r2⟩, (hbx.below hz).keep r2 (fun b v hc => cell_ne (hSx.more hz) hc), (hF'.below hz).keep r2 (fun hm => hfar.1 (List.mem_singleton.1 hm))⟩)
  refine (step_ok (P := fun w1 => Apart [E.mb] wx w1) (K := K) (D := upd D id ((D id).take S2)) (f := f + n) (u := 0) (lim := lim) ent_fcut1 hF' hfar ok' hpl.far hpl.live (by show 1 <= E.most /\ E.most <= 200; rw [hpl.most]; omega) hlim (kC.mono ?_)).mono ?_
  · rintro e w1 ⟨rfl, r3, hA⟩
    exact ⟨rfl, hA, hF'.keep hA (fun hm => hfar.1 (List.mem_singleton.1 hm)), r3⟩
  · rintro e w2 ⟨rfl, w1, hA1, hF2, hS2, hA2⟩
    have hT : E.Turns fb w w2 := turns_of hx hA1 hA2
    exact ⟨_, rfl, rfl, ⟨⟨⟨hF2.c0, hF2.c1, hF2.c2, hF2.c3, hF2.c4, hF2.c5, hF2.c6, hF2.c7, hF2.f7⟩, hS2.rest, hpl.at _ _ _ _ _, hfar, h.tree.bytes (by rw [hk1]; decide)⟩, (hh.turns hT).rest⟩, hT⟩
theorem hcut_more (h : Fsz fb rs hb E K D T f lim w) (hh : HeldAt fb hb E H w) {id S2 n : Nat} (h1 : 1 <= id) (h2 : id <= E.tn) (hk1 : K id = 1) (ht : 0 < hT H (id : Nat)) (hS : (D id).length <= S2) (hS4 : S2 <= 4000) (hgr : growb ((D id).length : Nat) (S2 : Int) = (n : Int)) (hmay : rs + n <= f) (hlim : lim <= 300000000) :
    Calls Tryz.prog 50 #[ptr fb, .int .i64 (id : Nat), .int .i64 (S2 : Nat)] w fun e w' => e = .returned .nilIface /\ (Fsz fb rs hb E.rest K (upd D id (grownL (D id) S2)) T (f - n) (lim + 1000) w' /\ HeldAt fb hb E.rest H w') /\ E.Turns fb w w' := by
  have hpl := h.pl
  have hld := h.s.to.len h1 h2
  have b40 : ∀ n : Nat, n <= 4000 -> blk (n : Int) <= 40 := fun n hn => by unfold blk; split <;> (try split) <;> (try split) <;> omega
  have hb1 := b40 _ hld
  have hb2 := b40 _ hS4
  have hr1 := blk_range ((D id).length : Int)
  have hg40 : (blk ((D id).length : Int)).toNat + n <= 80 := by unfold growb at hgr; omega
  obtain ⟨A, U, ku, ok', -, hS'⟩ := h.s.re hpl [id] [id] (fun x hx => by simp at hx; subst hx; exact ⟨h1, h2⟩) (fun x hx => by simp at hx; subst hx; exact ⟨h1, h2⟩) n (by omega) (by show 2 + 1 + ((blk ((D id).length : Int)).toNat + 0) + n <= 87; omega)
  have hfar := h.far
  have hkk : E.kk = E.k := hpl.kk.symm
  have hi : i64 (id : Int) := by have := hpl.rest_ok.tn; have e : E.rest.tn = E.tn := rfl; exact ⟨by omega, by omega⟩
  refine (cut_via (Q := fun ev w' => ev = .nilIface /\ (Fsz fb rs hb E.rest K (upd D id (grownL (D id) S2)) T (f - n) (lim + 1000) w' /\ HeldAt fb hb E.rest H w') /\ E.Turns fb w w') h.at_ hh hi ht hS4 (fun wx b0 b1 b2 hx hbx => ?_)).mono (fun e w' ⟨ev, h1, h2, h3⟩ => ⟨by rw [h1, h2], h3⟩)
  have hF' : FsAt fb (E.at A U (· ∈ [id]) (· ∈ [id]) ku) rs hb wx := (h.at_.below hx).at _ _ _ _ _
  have hSx := (hS'.more hx).to
  have kR := resize_ok hF' hSx ok' hkk h1 h2 (by rw [hk1]; decide) S2 false (by rw [hgr]; unfold mayB; simp; omega)
  have kC := fcut1_any (Q := fun w' => S8 (E.at A U (· ∈ [id]) (· ∈ [id]) ku) K (upd D id (grownL (D id) S2)) (f - n) (n - n) lim w' /\ Apart [E.mb] wx w') hbx hF' kR (fun wz hz => by
    refine (S8.cutmore ok' (hSx.more hz) h1 h2 (show id ∈ [id] by simp) (show id ∈ [id] by simp) (by rw [hk1]; decide) hS hS4 hgr (Nat.le_refl _)).mono ?_
    rintro e w' ⟨rfl, r1, r2⟩
    exact ⟨rfl, ⟨r1, (Apart.of_below hz).trans r2⟩, (hbx.below hz).keep r2 (fun b v hc => cell_ne (hSx.more hz) hc), (hF'.below hz).keep r2 (fun hm => hfar.1 (List.mem_singleton.1 hm))⟩)
  refine (step_ok (P := fun w1 => Apart [E.mb] wx w1) (K := K) (D := upd D id (grownL (D id) S2)) (f := f - n) (u := 0) (lim := lim) ent_fcut1 hF' hfar ok' hpl.far hpl.live (by show 1 <= E.most /\ E.most <= 200; rw [hpl.most]; omega) hlim (kC.mono ?_)).mono ?_
  · rintro e w1 ⟨rfl, r3, hA⟩
    exact ⟨rfl, hA, hF'.keep hA (fun hm => hfar.1 (List.mem_singleton.1 hm)), r3.low (Nat.zero_le _)⟩
  · rintro e w2 ⟨rfl, w1, hA1, hF2, hS2, hA2⟩
    have hT : E.Turns fb w w2 := turns_of hx hA1 hA2
    exact ⟨_, rfl, rfl, ⟨⟨⟨hF2.c0, hF2.c1, hF2.c2, hF2.c3, hF2.c4, hF2.c5, hF2.c6, hF2.c7, hF2.f7⟩, hS2.rest, hpl.at _ _ _ _ _, hfar, h.tree.bytes (by rw [hk1]; decide)⟩, (hh.turns hT).rest⟩, hT⟩
theorem fCut_ok {id s : Int} {Q : World -> Prop} (hi : i64 id) (hQ : ∀ w1 w2, Q w1 -> Below w1.heap.size w1 w2 -> Q w2) (hG : ∀ w1, Q w1 -> Ground w1) (k : Calls Tryz.prog 50 #[ptr fb, .int .i64 id, .int .i64 s] w fun e w' => e = .returned .nilIface /\ Q w') :
    Calls Tryz.prog 28 #[ptr fb, .int .i64 id, .int .i64 s] w fun e w' => e = .returned .nilIface /\ Q w' := by
  replace k := hidden k
  have kW := hidden (fun (wx : World) (hg : Ground wx) => fabout_nil ⟨#[99, 117, 116]⟩ id hi wx hg)
  replace hQ := hidden hQ
  replace hG := hidden hG
  clear hi
  go_enter Tryz.func28, Tryz.ntmps28
  go_wp2_with fail
  refine (k.out).mono ?_
  rintro ev w1 ⟨rfl, hq⟩
  replace hq := hidden hq
  go_wp2_with fail
  refine (kW.out _ (hG.out _ hq.out)).mono ?_
  rintro ev w2 ⟨rfl, hB⟩
  have hE := hidden (hQ.out _ _ hq.out hB)
  go_wp2
  go_ret
  exact ⟨rfl, hE.out⟩
end
section
variable {fb rs hb : Nat} {E : TE} {w w' : World} {K : Nat -> Nat} {D : Nat -> List Int} {T : Nat -> List Rec} {f u lim : Nat} {H : Chg}
theorem hold1_file {c0 q : Nat} {old : Value} (g1 : w.cell? ⟨c0, 0, none⟩ = some old) (f1 : w.frozen? ⟨c0, 0, none⟩ = false) :
    Calls Tryz.prog 68 #[fnV (q : Nat) 1, ptr c0] w fun e w' => e = .returned .nilIface /\ ∃ w2, Below w.heap.size w w2 /\ w' = w2.setCell ⟨c0, 0, none⟩ (.int .i64 (q : Nat)) := by
  have hB : Below w.heap.size w (w.alloc (.cells #[.int .i64 (q : Nat), .int .i64 1] 105)) := (Below.refl _ _).alloc (Nat.le_refl _) _
  have k1 := (hB.cell (p := ⟨c0, 0, none⟩) (lt_of_cell (a := ⟨c0, 0, none⟩) g1)).trans g1
  have k2 := ((Apart.of_below (bs := []) hB).frozen (p := ⟨c0, 0, none⟩) (lt_of_cell (a := ⟨c0, 0, none⟩) g1) (by simp)).trans f1
  have hl := lt_of_cell (a := ⟨c0, 0, none⟩) k1
  obtain ⟨w1, hw1, hN1⟩ : ∃ w1, w.alloc (.cells #[.int .i64 (q : Nat), .int .i64 1] 105) = w1 /\ FnAt w1 w.heap.size (q : Nat) 1 := ⟨_, rfl, fn_new _ _ _⟩
  rw [hw1] at hB k1 k2 hl
  have n0 := hN1.c0
  have n1 := hN1.c1
  have hlN := hN1.lt
  replace hw1 := hidden hw1
  replace hB := hidden hB
  clear hN1 g1 f1
  go_enter Tryz.func68, Tryz.ntmps68
  go_upto_region 1 with fail
  rw [hw1.out]
  clear hw1
  go_wp2
  go_ret
  exact ⟨rfl, _, hB.out, rfl⟩
theorem hold_ok (h : Fsz fb rs hb E K D T f lim w) (hh : HeldAt fb hb E H w) {path : List UInt8} {l : List (List UInt8)} (hlen : path.length <= 2000) (hp : splitB path = some l) {q : Nat} (hq : walkT K T 1 l = .ok q) (hk : K q = 1) (hl : H.length <= 1000) (ht0 : -1000000 <= hT H (q : Nat) /\ hT H (q : Nat) <= 1000000) (hlim : lim <= 300000000) :
    Calls Tryz.prog 36 #[ptr fb, .string (mkB path)] w fun e w' => e = .returned (.tuple #[.int .i64 (q : Nat), .nilIface]) /\ Fsz fb rs hb E.rest K D T f (lim + 1000) w' /\ HeldAt fb hb E.rest (putM (q : Nat) [hT H (q : Nat) + 1, if hBit H (q : Nat) then 1 else 0] H) w' /\ Apart [E.d, E.g, E.mb, fb, hb] w w' := by
  have hmf : ∀ (fn : Fn) (first cap : Array Value) (w : World), (Instr.makeFunc fn first cap).run Tryz.prog w = .ok (.func fn first cap) w := fun _ _ _ _ => rfl
  have hmp := may_all (split_may hp)
  have hpl := h.pl
  obtain ⟨q1, q2, -⟩ := walkT_in h.tree l 1 q (Nat.le_refl _) hpl.tn1 (by rw [h.tree.root]; decide) hq
  have hi : i64 ((q : Nat) : Int) := by have := hpl.rest_ok.tn; have e : E.rest.tn = E.tn := rfl; exact ⟨by omega, by omega⟩
  have hah := h.s.to.lts
  have hfar := h.far
  unfold TE.Ahead at hah
  obtain ⟨wx, hw2, hx, g1, f1⟩ : ∃ wx, w.alloc (Obj.cells #[.int .i64 0] 3) = wx /\ Below w.heap.size w wx /\ wx.cell? ⟨w.heap.size, 0, none⟩ = some (.int .i64 0) /\ wx.frozen? ⟨w.heap.size, 0, none⟩ = false := ⟨_, rfl, (Below.refl _ _).alloc (Nat.le_refl _) _, by simp, by simp⟩
  have hc2 := lt_of_cell (a := ⟨w.heap.size, 0, none⟩) g1
  have kA := hidden (at_via (w := wx) (fb := fb) (fc := 68) (caps := #[ptr w.heap.size]) (Q := fun ev w' => ev = .nilIface /\ w'.cell? ⟨w.heap.size, 0, none⟩ = some (.int .i64 (q : Nat)) /\ Fsz fb rs hb E.rest K D T f (lim + 1000) w' /\ E.Turns fb w w') hlen hp (fun wy b0 b1 b2 names hy hbx hT => by
    have hxy : Below w.heap.size w wy := hx.trans (hy.mono hx.size)
    have hr := h.rest.below hxy
    have k1 := (hy.cell (p := ⟨w.heap.size, 0, none⟩) hc2).trans g1
    have kf := ((Apart.of_below (bs := []) hy).frozen (p := ⟨w.heap.size, 0, none⟩) hc2 (by simp)).trans f1
    have hc1y : w.heap.size < wy.heap.size := Nat.lt_of_lt_of_le hc2 hy.size
    have kC := at1_one (E := E.rest) (K := K) (D := D) (T := T) (q := q) ent_hold1 hbx hr.at_ hr.s.to hpl.rest_ok hr.tree hpl.tn1 hT (by omega) hmp.2 hq (Q := fun ev w' => ev = .nilIface /\ ∃ w2, Below wy.heap.size wy w2 /\ w' = w2.setCell ⟨w.heap.size, 0, none⟩ (.int .i64 (q : Nat))) (fun wz hz => by
      rw [hk]
      refine (hold1_file (w := wz) (c0 := w.heap.size) (q := q) ((hz.cell (p := ⟨w.heap.size, 0, none⟩) hc1y).trans k1) (((Apart.of_below (bs := []) hz).frozen (p := ⟨w.heap.size, 0, none⟩) hc1y (by simp)).trans kf)).mono ?_
      rintro e w' ⟨rfl, w2, r2, r3⟩
      exact ⟨_, rfl, rfl, w2, hz.trans (r2.mono hz.size), r3⟩)
    refine (step_ok (E := E.rest) (P := fun w1 => ∃ w2, Below wy.heap.size wy w2 /\ w1 = w2.setCell ⟨w.heap.size, 0, none⟩ (.int .i64 (q : Nat))) (K := K) (D := D) (f := f) (u := 0) (lim := lim) ent_at1 hr.at_ hfar hpl.rest_ok hpl.far hpl.live (by show 1 <= E.most /\ E.most <= 200; rw [hpl.most]; omega) hlim (kC.mono ?_)).mono ?_
    · rintro e w1 ⟨ev, rfl, rfl, w2, r2, rfl⟩
      have hb' : Below w.heap.size w (w2.setCell ⟨w.heap.size, 0, none⟩ (.int .i64 (q : Nat))) := (hxy.trans (r2.mono hxy.size)).setCell (p := ⟨w.heap.size, 0, none⟩) (Nat.le_refl _) _
      have hz := h.rest.below hb'
      exact ⟨rfl, ⟨w2, r2, rfl⟩, hz.at_, hz.s.to⟩
    · rintro e w3 ⟨rfl, w1, ⟨w2, r2, rfl⟩, hF3, hS3, hA3⟩
      have hb' : Below w.heap.size w (w2.setCell ⟨w.heap.size, 0, none⟩ (.int .i64 (q : Nat))) := (hxy.trans (r2.mono hxy.size)).setCell (p := ⟨w.heap.size, 0, none⟩) (Nat.le_refl _) _
      have hcv : (w2.setCell ⟨w.heap.size, 0, none⟩ (.int .i64 (q : Nat))).cell? ⟨w.heap.size, 0, none⟩ = some (.int .i64 (q : Nat)) := World.cell?_setCell_same' _ _ _ (by rw [(r2.cell (p := ⟨w.heap.size, 0, none⟩) hc1y).trans k1]; rfl)
      have hA3' : Apart [E.d, E.g, E.mb] (w2.setCell ⟨w.heap.size, 0, none⟩ (.int .i64 (q : Nat))) w3 := hA3
      refine ⟨_, rfl, rfl, (hA3'.cell (p := ⟨w.heap.size, 0, none⟩) (lt_of_cell (a := ⟨w.heap.size, 0, none⟩) hcv) (by simp; omega)).trans hcv, ⟨hF3, hS3, hpl.at _ _ _ _ _, hfar, h.tree⟩, ?_⟩
      exact (Apart.of_below hb').trans (hA3'.mono (fun x hx' _ => by
        simp only [List.mem_cons, List.not_mem_nil, or_false] at hx'
        rcases hx' with rfl | rfl | rfl <;> simp))))
  have hfb := h.at_.lt
  have hhl := hh.lt
  have hhne := hh.ne
  have kH := hidden (fun (wy : World) (hy : E.Turns fb w wy) => hh.turns hy)
  replace hw2 := hidden hw2
  replace hi := hidden hi
  have hhd := hidden (And.intro hfb (And.intro hhl hhne))
  have hsz := hidden hfar
  clear h hx hmp hh hq hah g1 f1 hc2 hpl hhne hhl hfar
  obtain ⟨TT, hTT⟩ : ∃ t, hT H (q : Nat) = t := ⟨_, rfl⟩
  obtain ⟨BB, hBB⟩ : ∃ b, hBit H (q : Nat) = b := ⟨_, rfl⟩
  rw [hTT] at ht0
  rw [hTT, hBB]
  obtain ⟨BI, hBI⟩ : ∃ n : Int, (if BB then 1 else 0) = n := ⟨_, rfl⟩
  rw [hBI]
  replace hBI := hidden hBI
  replace hTT := hidden hTT
  replace hBB := hidden hBB
  go_enter Tryz.func36, Tryz.ntmps36
  go_upto_region 2 with fail
  rw [hw2.out]
  clear hw2
  generalize hC0 : w.heap.size = C0 at *
  replace hC0 := hidden hC0
  go_wp2_with fail
  refine (kA.out).mono ?_
  rintro ev w3 ⟨er, rfl, rfl, hcq, hz3, hT3⟩
  obtain ⟨wd, hwd, hBd⟩ : ∃ wd, w3.drew = wd /\ Below w3.heap.size w3 wd := ⟨_, rfl, below_drew1 w3⟩
  have hzd := hz3.below hBd
  have hTd : E.Turns fb w wd := hT3.trans (Apart.of_below hBd)
  have hcd := (hBd.cell (p := ⟨C0, 0, none⟩) (lt_of_cell (a := ⟨C0, 0, none⟩) hcq)).trans hcq
  have hh3 := kH.out wd hTd
  have c6 := hzd.at_.c6
  have hlc := lt_of_cell (a := ⟨C0, 0, none⟩) hcd
  have klk := hidden (fun (wz : World) (hz : Below wd.heap.size wd wz) => show (Instr.lookup 95 (.map (some hb)) (.int .i64 (q : Nat)) false).run Tryz.prog wz = .ok (.agg #[.int .i64 TT, .bool BB]) wz from by
    have hlk := (hh3.below hz).look ((q : Nat) : Int) hi.out false
    simp only [Bool.false_eq_true, if_false] at hlk
    rw [hTT.out, hBB.out] at hlk
    exact hlk)
  have kc6 := hidden (fun (wz : World) (hz : Below wd.heap.size wd wz) => (hz.cell (p := ⟨fb, 6, none⟩) (lt_of_cell (a := ⟨fb, 6, none⟩) c6)).trans c6)
  have kcq := hidden (fun (wz : World) (hz : Below wd.heap.size wd wz) => (hz.cell (p := ⟨C0, 0, none⟩) hlc).trans hcd)
  obtain ⟨w4, hw4, hB4, hN4⟩ : ∃ w4, wd.alloc (Obj.cells #[.int .i64 TT, .bool BB] 113) = w4 /\ Below wd.heap.size wd w4 /\ HoAt w4 wd.heap.size TT BB := ⟨_, rfl, (Below.refl _ _).alloc (Nat.le_refl _) _, ho_new _ _ _⟩
  have hN5 := hN4.s0 (TT + 1)
  have hst := run_ho0 hN4 (TT + 1)
  have n0 := hN4.c0
  have nf := hN4.f0
  have nlt := hN4.lt
  have hB5 : Below wd.heap.size wd (w4.setCell ⟨wd.heap.size, 0, none⟩ (.int .i64 (TT + 1))) := hB4.setCell (p := ⟨wd.heap.size, 0, none⟩) (Nat.le_refl _) _
  obtain ⟨w5, hw5⟩ : ∃ w5, w4.setCell ⟨wd.heap.size, 0, none⟩ (.int .i64 (TT + 1)) = w5 := ⟨_, rfl⟩
  rw [hw5] at hB5 hN5 hst
  obtain ⟨w5d, hw5d, hB5d⟩ : ∃ wd, w5.drew = wd /\ Below w5.heap.size w5 wd := ⟨_, rfl, below_drew1 w5⟩
  have hBx := hB5.trans (hB5d.mono hB5.size)
  have hN6 := hN5.keep (Apart.of_below (bs := []) hB5d) (by simp)
  obtain ⟨w6, hrun, hh6, hA6⟩ := (hh3.below hBx).store ((q : Nat) : Int) hi.out hl (TT + 1) BB
  have hhlt := (hh3.lt)
  have hW5 : HW fb hb C0 wd.heap.size (q : Nat) (TT + 1) BB w5d := ⟨kc6.out _ hBx, kcq.out _ hBx, hN6⟩
  have hW6 : HW fb hb C0 wd.heap.size (q : Nat) (TT + 1) BB w6 := hW5.keep hA6 (by
    have h1 := hhd.out
    have h2 := hC0.out
    refine ⟨by simpa using h1.2.2.2.2.2.1.symm, by simp; omega, by simp; omega⟩)
  have hE := hidden (show Fsz fb rs hb E.rest K D T f (lim + 1000) w6 /\ HeldAt fb hb E.rest (putM (q : Nat) [TT + 1, BI] H) w6 /\ Apart [E.d, E.g, E.mb, fb, hb] w w6 from by
    refine ⟨(hh3.below hBx).rest.fsz (hzd.below hBx) hA6, (by rw [<- hBI.out]; exact hh6.rest), ?_⟩
    exact ((hTd.mono (fun x hx' _ => by
        simp only [List.mem_cons, List.not_mem_nil, or_false] at hx'
        rcases hx' with rfl | rfl | rfl | rfl <;> simp)).trans (Apart.of_below hBx)).trans (hA6.mono (fun x hx' _ => by
        simp only [List.mem_cons, List.not_mem_nil, or_false] at hx'
        rcases hx' with rfl
        simp)))
  replace hw4 := hidden hw4
  replace hw5 := hidden hw5
  replace hw5d := hidden hw5d
  replace hwd := hidden hwd
  replace hB4 := hidden hB4
  replace hW5 := hidden hW5
  replace hW6 := hidden hW6
  have hS0 : Hid (Below wd.heap.size wd w3.drew) := hidden (by rw [hwd.out]; exact Below.refl _ _)
  have hS7 : Hid (HW fb hb C0 wd.heap.size (q : Nat) (TT + 1) BB w5.drew) := hidden (by rw [hw5d.out]; exact hW5.out)
  clear hz3 hT3 hh3 kH kA hN4 hN5 hB5 hh6 hA6 hzd hTd hcd hBd hB5d hBx hN6 c6 hcq hlc
  go_upto_region 5 with fail
  refine wp_region_held_drew (S := fun wz => Below wd.heap.size wd wz) (by kernel_rfl) hS0.out ?_
  intro _
  rw [hwd.out] at hS0 ⊢
  refine wpAnyH_take (i := 0) (v := ?_) rfl (by kernel_rfl) (by kernel_rfl) (by kernel_rfl) (fun _ _ _ h => h) (Or.inl ⟨by rfl, ?_⟩) hS0.out ?_
  rotate_left
  · intro w hw; clear hw; go_simp; try (with_reducible rfl)
  refine wpAnyH_take (i := 1) (v := ?_) rfl (by kernel_rfl) (by kernel_rfl) (by kernel_rfl) (fun _ _ _ h => h) (Or.inl ⟨by rfl, ?_⟩) hS0.out ?_
  rotate_left
  · intro w hw; clear hw; go_simp; try (with_reducible rfl)
  refine wpAnyH_take (i := 2) (v := ?_) rfl (by kernel_rfl) (by kernel_rfl) (by kernel_rfl) (fun _ _ _ h => h) (Or.inl ⟨by rfl, ?_⟩) hS0.out ?_
  rotate_left
  · intro w hw; clear hw; go_simp; try (with_reducible rfl)
  refine wpAnyH_take (i := 3) (v := ?_) rfl (by kernel_rfl) (by kernel_rfl) (by kernel_rfl) (fun _ _ _ h => h) (Or.inl ⟨by rfl, ?_⟩) hS0.out ?_
  rotate_left
  · intro w hw; have c := kc6.out _ hw; have lc := lt_of_cell (a := ⟨fb, 6, none⟩) c; clear hw; go_simp; try (with_reducible rfl)
  refine wpAnyH_take (i := 4) (v := ?_) rfl (by kernel_rfl) (by kernel_rfl) (by kernel_rfl) (fun _ _ _ h => h) (Or.inl ⟨by rfl, ?_⟩) hS0.out ?_
  rotate_left
  · intro w hw; have c := kcq.out _ hw; have lc := lt_of_cell (a := ⟨C0, 0, none⟩) c; clear hw; go_simp; try (with_reducible rfl)
  refine wpAnyH_take (i := 5) (v := ?_) rfl (by kernel_rfl) (by kernel_rfl) (by kernel_rfl) (fun _ _ _ h => h) (Or.inl ⟨by rfl, ?_⟩) hS0.out ?_
  rotate_left
  · intro w hw; have c := klk.out _ hw; clear hw; go_simp; try (with_reducible rfl)
  refine wpAnyH_ready (rs := [6]) (by kernel_rfl) (by simp) ?_
  refine AllReadyH.cons rfl (fun K hK => ?_) AllReadyH.nil
  go_simp
  refine hK.out _ _ ((Below.refl _ _).alloc (Nat.le_refl _) _) (fun hSn1 => ?_)
  clear hK K
  refine wpAnyH_ready (rs := [7]) (by kernel_rfl) (by simp) ?_
  refine AllReadyH.cons rfl (fun K hK => ?_) AllReadyH.nil
  go_simp
  refine hK.out _ _ (by rw [hw4.out]; exact hB4.out) (fun hSn2 => ?_)
  clear hK K
  refine wpAnyH_done (by kernel_rfl) ?_ _
  rw [hw4.out]
  go_upto_region 7 with fail
  rw [hw5.out]
  refine wp_region_held_drew (S := HW fb hb C0 wd.heap.size (q : Nat) (TT + 1) BB) (by kernel_rfl) hS7.out ?_
  intro _
  rw [hw5d.out] at hS7 ⊢
  refine wpAnyH_take (i := 0) (v := ?_) rfl (by kernel_rfl) (by kernel_rfl) (by kernel_rfl) (fun _ _ _ h => h) (Or.inl ⟨by rfl, ?_⟩) hS7.out ?_
  rotate_left
  · intro w hw; clear hw; go_simp; try (with_reducible rfl)
  refine wpAnyH_take (i := 1) (v := ?_) rfl (by kernel_rfl) (by kernel_rfl) (by kernel_rfl) (fun _ _ _ h => h) (Or.inl ⟨by rfl, ?_⟩) hS7.out ?_
  rotate_left
  · intro w hw; clear hw; go_simp; try (with_reducible rfl)
  refine wpAnyH_take (i := 2) (v := ?_) rfl (by kernel_rfl) (by kernel_rfl) (by kernel_rfl) (fun _ _ _ h => h) (Or.inl ⟨by rfl, ?_⟩) hS7.out ?_
  rotate_left
  · intro w hw; clear hw; go_simp; try (with_reducible rfl)
  refine wpAnyH_take (i := 3) (v := ?_) rfl (by kernel_rfl) (by kernel_rfl) (by kernel_rfl) (fun _ _ _ h => h) (Or.inl ⟨by rfl, ?_⟩) hS7.out ?_
  rotate_left
  · intro w hw; have c := (hw).c6; have lc := lt_of_cell (a := ⟨fb, 6, none⟩) c; clear hw; go_simp; try (with_reducible rfl)
  refine wpAnyH_take (i := 4) (v := ?_) rfl (by kernel_rfl) (by kernel_rfl) (by kernel_rfl) (fun _ _ _ h => h) (Or.inl ⟨by rfl, ?_⟩) hS7.out ?_
  rotate_left
  · intro w hw; have c := (hw).cq; have lc := lt_of_cell (a := ⟨C0, 0, none⟩) c; clear hw; go_simp; try (with_reducible rfl)
  refine wpAnyH_ready (rs := [5]) (by kernel_rfl) (by simp) ?_
  refine AllReadyH.cons rfl (fun K hK => ?_) AllReadyH.nil
  have d0 := (hS7.out).ho.c0; have d1 := (hS7.out).ho.c1
  go_simp
  refine hK.out _ _ hS7.out (fun _ => ?_)
  clear hK K
  refine wpAnyH_ready (rs := [6]) (by kernel_rfl) (by simp) ?_
  refine AllReadyH.cons rfl (fun K hK => ?_) AllReadyH.nil
  go_simp
  refine hK.out _ _ (hW6.out) (fun hSn1 => ?_)
  clear hK K
  refine wpAnyH_done (by kernel_rfl) ?_ _
  clear hS7
  have hq6 := hW6.out.cq
  have lq6 := lt_of_cell (a := ⟨C0, 0, none⟩) hq6
  go_wp2
  go_ret2
  exact ⟨rfl, hE.out⟩
end
section
variable {fb rs hb : Nat} {E : TE} {w w' : World} {K : Nat -> Nat} {D : Nat -> List Int} {T : Nat -> List Rec} {f u lim : Nat} {H : Chg}
structure QBox (b0 b1 b2 b3 b4 fb : Nat) (id at_ n : Int) (w : World) : Prop where
  c0 : w.cell? ⟨b0, 0, none⟩ = some (ptr fb)
  c1 : w.cell? ⟨b1, 0, none⟩ = some (.int .i64 id)
  c2 : w.cell? ⟨b2, 0, none⟩ = some (.int .i64 at_)
  c3 : w.cell? ⟨b3, 0, none⟩ = some (.int .i64 n)
  c4 : w.cell? ⟨b4, 0, none⟩ = some (.slice none 0 0)
  f4 : w.frozen? ⟨b4, 0, none⟩ = false
theorem QBox.below {b0 b1 b2 b3 b4 : Nat} {id at_ n : Int} (h : QBox b0 b1 b2 b3 b4 fb id at_ n w) (hB : Below w.heap.size w w') : QBox b0 b1 b2 b3 b4 fb id at_ n w' :=
  have k : ∀ b v, w.cell? ⟨b, 0, none⟩ = some v -> w'.cell? ⟨b, 0, none⟩ = some v := fun b _ hc => (hB.cell (p := ⟨b, 0, none⟩) (lt_of_cell hc)).trans hc
  ⟨k _ _ h.c0, k _ _ h.c1, k _ _ h.c2, k _ _ h.c3, k _ _ h.c4, ((Apart.of_below (bs := []) hB).frozen (p := ⟨b4, 0, none⟩) (lt_of_cell (a := ⟨b4, 0, none⟩) h.c4) (by simp)).trans h.f4⟩
theorem QBox.ne {b0 b1 b2 b3 b4 : Nat} {id at_ n : Int} (h : QBox b0 b1 b2 b3 b4 fb id at_ n w) : b0 ≠ b4 /\ b1 ≠ b4 /\ b2 ≠ b4 /\ b3 ≠ b4 := by
  have c4 := h.c4
  refine ⟨?_, ?_, ?_, ?_⟩
  · intro e; have c := h.c0; rw [e, c4] at c; cases c
  · intro e; have c := h.c1; rw [e, c4] at c; cases c
  · intro e; have c := h.c2; rw [e, c4] at c; cases c
  · intro e; have c := h.c3; rw [e, c4] at c; cases c
structure QS (b0 b1 b2 b3 fb tb : Nat) (id at_ n : Int) (w : World) : Prop where
  c0 : w.cell? ⟨b0, 0, none⟩ = some (ptr fb)
  c1 : w.cell? ⟨b1, 0, none⟩ = some (.int .i64 id)
  c2 : w.cell? ⟨b2, 0, none⟩ = some (.int .i64 at_)
  c3 : w.cell? ⟨b3, 0, none⟩ = some (.int .i64 n)
  t : w.cell? ⟨fb, 2, none⟩ = some (ptr tb)
theorem QS.set {b0 b1 b2 b3 b4 tb : Nat} {id at_ n : Int} (h : QS b0 b1 b2 b3 fb tb id at_ n w) (hn : b0 ≠ b4 /\ b1 ≠ b4 /\ b2 ≠ b4 /\ b3 ≠ b4) (v : Value) : QS b0 b1 b2 b3 fb tb id at_ n (w.setCell ⟨b4, 0, none⟩ v) :=
  ⟨(World.cell?_setCell_other _ _ _ _ (by simp; try omega)).trans h.c0, (World.cell?_setCell_other _ _ _ _ (by simp; try omega)).trans h.c1, (World.cell?_setCell_other _ _ _ _ (by simp; try omega)).trans h.c2, (World.cell?_setCell_other _ _ _ _ (by simp; try omega)).trans h.c3, (World.cell?_setCell_other _ _ _ _ (by simp)).trans h.t⟩
theorem fread1_ok {b0 b1 b2 b3 b4 : Nat} {id at_ n : Int} {zs : List Int} (hB : QBox b0 b1 b2 b3 b4 fb id at_ n w) (hF : FsAt fb E rs hb w)
    (kR : ∀ wx, Below w.heap.size w wx -> Calls Tryz.prog 78 #[ptr E.tb, .int .i64 id, .int .i64 at_, .int .i64 n] wx fun e w' => ∃ v, e = .returned (.tuple #[v, .nilIface]) /\ OwnV wx.heap.size w' v zs /\ Below wx.heap.size wx w') :
    Calls Tryz.prog 77 #[ptr b0, ptr b1, ptr b2, ptr b3, ptr b4] w fun e w' => e = .returned .nilIface /\ ∃ v w2, OwnV w.heap.size w2 v zs /\ Below w.heap.size w w2 /\ w' = w2.setCell ⟨b4, 0, none⟩ v := by
  have hl4 := lt_of_cell (a := ⟨b4, 0, none⟩) hB.c4
  have hk := hidden (fun (wx : World) (hx : Below w.heap.size w wx) => show QS b0 b1 b2 b3 fb E.tb id at_ n wx from ⟨(hB.below hx).c0, (hB.below hx).c1, (hB.below hx).c2, (hB.below hx).c3, (hF.below hx).c2⟩)
  have hne := hidden hB.ne
  have kg := hidden (fun (wx : World) (hx : Below w.heap.size w wx) => (hB.below hx).c4)
  have kf := hidden (fun (wx : World) (hx : Below w.heap.size w wx) => (hB.below hx).f4)
  have kR0 := hidden (kR w.drew (below_drew1 w))
  have hbd := hidden (below_drew1 w)
  have hS0 := hidden (hk.out _ hbd.out)
  clear hB hF kR
  go_enter Tryz.func77, Tryz.ntmps77
  go_upto_region 1 with fail
  refine wp_region_held_drew (S := QS b0 b1 b2 b3 fb E.tb id at_ n) (by kernel_rfl) hS0.out ?_
  intro _
  refine wpAnyH_take (i := 0) (v := ?_) rfl (by kernel_rfl) (by kernel_rfl) (by kernel_rfl) (fun _ _ _ h => h) (Or.inl ⟨by rfl, ?_⟩) hS0.out ?_
  rotate_left
  · intro w hw; have c := (hw).c0; have lc := lt_of_cell (a := ⟨b0, 0, none⟩) c; clear hw; go_simp; try (with_reducible rfl)
  refine wpAnyH_take (i := 1) (v := ?_) rfl (by kernel_rfl) (by kernel_rfl) (by kernel_rfl) (fun _ _ _ h => h) (Or.inl ⟨by rfl, ?_⟩) hS0.out ?_
  rotate_left
  · intro w hw; clear hw; go_simp; try (with_reducible rfl)
  refine wpAnyH_take (i := 2) (v := ?_) rfl (by kernel_rfl) (by kernel_rfl) (by kernel_rfl) (fun _ _ _ h => h) (Or.inl ⟨by rfl, ?_⟩) hS0.out ?_
  rotate_left
  · intro w hw; clear hw; go_simp; try (with_reducible rfl)
  refine wpAnyH_take (i := 3) (v := ?_) rfl (by kernel_rfl) (by kernel_rfl) (by kernel_rfl) (fun _ _ _ h => h) (Or.inl ⟨by rfl, ?_⟩) hS0.out ?_
  rotate_left
  · intro w hw; have c := (hw).t; have lc := lt_of_cell (a := ⟨fb, 2, none⟩) c; clear hw; go_simp; try (with_reducible rfl)
  refine wpAnyH_take (i := 4) (v := ?_) rfl (by kernel_rfl) (by kernel_rfl) (by kernel_rfl) (fun _ _ _ h => h) (Or.inl ⟨by rfl, ?_⟩) hS0.out ?_
  rotate_left
  · intro w hw; have c := (hw).c1; have lc := lt_of_cell (a := ⟨b1, 0, none⟩) c; clear hw; go_simp; try (with_reducible rfl)
  refine wpAnyH_take (i := 5) (v := ?_) rfl (by kernel_rfl) (by kernel_rfl) (by kernel_rfl) (fun _ _ _ h => h) (Or.inl ⟨by rfl, ?_⟩) hS0.out ?_
  rotate_left
  · intro w hw; have c := (hw).c2; have lc := lt_of_cell (a := ⟨b2, 0, none⟩) c; clear hw; go_simp; try (with_reducible rfl)
  refine wpAnyH_ready (rs := [6]) (by kernel_rfl) (by simp) ?_
  refine AllReadyH.cons rfl (fun K hK => ?_) AllReadyH.nil
  have c := (hS0.out).c3; have lc := lt_of_cell (a := ⟨b3, 0, none⟩) c
  go_simp
  refine hK.out _ _ hS0.out (fun _ => ?_)
  clear hK K
  refine wpAnyH_ready (rs := [7]) (by kernel_rfl) (by simp) ?_
  refine AllReadyH.cons rfl (fun K hK => ?_) AllReadyH.nil
  go_simp
  go_wp2_with (go_at_call 78; refine (kR0.out).mono ?_; rintro ev w2 ⟨v, rfl, hV, hB2⟩)
  refine hK.out _ _ (hk.out _ (hbd.out.trans (hB2.mono hbd.out.size))) (fun hSn1 => ?_)
  have hb2 := hbd.out.trans (hB2.mono hbd.out.size)
  have k1 := kg.out _ hb2
  have k2 := kf.out _ hb2
  have hlc := lt_of_cell (a := ⟨b4, 0, none⟩) k1
  have hE := hidden (And.intro (hV.mono (base' := w.heap.size) hbd.out.size) hb2)
  obtain ⟨va, vc, hve⟩ : ∃ a c, v = .slice a zs.length c := (by obtain ⟨a, c, e, -⟩ := ownV_at hV; exact ⟨a, c, e⟩)
  subst hve
  clear hV hB2 hb2 kR0 hk kg kf
  clear hK K
  refine wpAnyH_ready (rs := [8]) (by kernel_rfl) (by simp) ?_
  refine AllReadyH.cons rfl (fun K hK => ?_) AllReadyH.nil
  go_simp
  refine hK.out _ _ hSn1 (fun _ => ?_)
  clear hK K
  refine wpAnyH_take (i := 9) (v := ?_) rfl (by kernel_rfl) (by kernel_rfl) (by kernel_rfl) (fun _ _ _ h => h) (Or.inl ⟨by rfl, ?_⟩) hSn1 ?_
  rotate_left
  · intro w hw; clear hw; go_simp; try (with_reducible rfl)
  refine wpAnyH_take (i := 10) (v := ?_) rfl (by kernel_rfl) (by kernel_rfl) (by kernel_rfl) (fun _ _ _ h => h) (Or.inl ⟨by rfl, ?_⟩) hSn1 ?_
  rotate_left
  · intro w hw; clear hw; go_simp; try (with_reducible rfl)
  refine wpAnyH_ready (rs := [11]) (by kernel_rfl) (by simp) ?_
  refine AllReadyH.cons rfl (fun K hK => ?_) AllReadyH.nil
  go_simp
  refine hK.out _ _ (QS.set hSn1 hne.out _) (fun hSn2 => ?_)
  clear hK K
  refine wpAnyH_ready (rs := [12]) (by kernel_rfl) (by simp) ?_
  refine AllReadyH.cons rfl (fun K hK => ?_) AllReadyH.nil
  go_simp
  refine hK.out _ _ hSn2 (fun _ => ?_)
  clear hK K
  refine wpAnyH_done (by kernel_rfl) ?_ _
  go_wp2
  go_ret
  exact ⟨rfl, _, w2, hE.out.1, hE.out.2, rfl⟩
theorem ent_fread1 : ∀ (args : Array Value) (w : World), (callFunc 77 args).run Tryz.prog w = .ok (.enter 77 args) w := enters_of Tryz.func77 (by kernel_rfl) rfl
theorem boxesQ (w : World) (fb : Nat) (id at_ n : Int) : ∃ w4, (((w.alloc (Obj.cells #[ptr fb] 31)).alloc (Obj.cells #[.int .i64 id] 3)).alloc (Obj.cells #[.int .i64 at_] 3)).alloc (Obj.cells #[.int .i64 n] 3) = w4 /\ Below w.heap.size w w4 /\ w4.heap.size = w.heap.size + 4 /\ w4.cell? ⟨w.heap.size, 0, none⟩ = some (ptr fb) /\ w4.cell? ⟨w.heap.size + 1, 0, none⟩ = some (.int .i64 id) /\ w4.cell? ⟨w.heap.size + 2, 0, none⟩ = some (.int .i64 at_) /\ w4.cell? ⟨w.heap.size + 3, 0, none⟩ = some (.int .i64 n) := by
  generalize e1 : w.alloc (Obj.cells #[ptr fb] 31) = W1
  have s1 : W1.heap.size = w.heap.size + 1 := by rw [<- e1]; simp
  have a1 : W1.cell? ⟨w.heap.size, 0, none⟩ = some (ptr fb) := by rw [<- e1]; simp
  have b1 : Below w.heap.size w W1 := by rw [<- e1]; exact (Below.refl _ _).alloc (Nat.le_refl _) _
  generalize e2 : W1.alloc (Obj.cells #[.int .i64 id] 3) = W2
  have s2 : W2.heap.size = w.heap.size + 2 := by rw [<- e2]; simp [s1]
  have a2 : W2.cell? ⟨w.heap.size + 1, 0, none⟩ = some (.int .i64 id) := by rw [<- e2, <- s1]; simp
  have b2 : Below W1.heap.size W1 W2 := by rw [<- e2]; exact (Below.refl _ _).alloc (Nat.le_refl _) _
  generalize e3 : W2.alloc (Obj.cells #[.int .i64 at_] 3) = W3
  have s3 : W3.heap.size = w.heap.size + 3 := by rw [<- e3]; simp [s2]
  have a3 : W3.cell? ⟨w.heap.size + 2, 0, none⟩ = some (.int .i64 at_) := by rw [<- e3, <- s2]; simp
  have b3 : Below W2.heap.size W2 W3 := by rw [<- e3]; exact (Below.refl _ _).alloc (Nat.le_refl _) _
  generalize e4 : W3.alloc (Obj.cells #[.int .i64 n] 3) = W4
  have s4 : W4.heap.size = w.heap.size + 4 := by rw [<- e4]; simp [s3]
  have a4 : W4.cell? ⟨w.heap.size + 3, 0, none⟩ = some (.int .i64 n) := by rw [<- e4, <- s3]; simp
  have b4 : Below W3.heap.size W3 W4 := by rw [<- e4]; exact (Below.refl _ _).alloc (Nat.le_refl _) _
  have b24 : Below W2.heap.size W2 W4 := b3.trans (b4.mono b3.size)
  have b14 : Below W1.heap.size W1 W4 := b2.trans (b24.mono b2.size)
  exact ⟨W4, rfl, b1.trans (b14.mono b1.size), s4, (b14.cell (p := ⟨w.heap.size, 0, none⟩) (lt_of_cell a1)).trans a1, (b24.cell (p := ⟨w.heap.size + 1, 0, none⟩) (lt_of_cell a2)).trans a2, (b4.cell (p := ⟨w.heap.size + 2, 0, none⟩) (lt_of_cell a3)).trans a3, a4⟩
theorem read_via {id at_ n : Nat} {Q : Value -> Value -> World -> Prop} (hF : FsAt fb E rs hb w) (hh : HeldAt fb hb E H w) (hi : i64 (id : Int)) (ht : 0 < hT H (id : Nat))
    (kS : ∀ (wx : World) (b0 b1 b2 b3 b4 : Nat), Below w.heap.size w wx -> w.heap.size <= b4 -> QBox b0 b1 b2 b3 b4 fb (id : Nat) (at_ : Nat) (n : Nat) wx -> Calls Tryz.prog 54 #[ptr fb, .func (.func 77) #[] #[ptr b0, ptr b1, ptr b2, ptr b3, ptr b4]] wx fun e w' => ∃ ev v, e = .returned ev /\ w'.cell? ⟨b4, 0, none⟩ = some v /\ Q v ev w') :
    Calls Tryz.prog 39 #[ptr fb, .int .i64 (id : Nat), .int .i64 (at_ : Nat), .int .i64 (n : Nat)] w fun e w' => ∃ v ev, e = .returned (.tuple #[v, ev]) /\ Q v ev w' := by
  have hmf : ∀ (fn : Fn) (first cap : Array Value) (w : World), (Instr.makeFunc fn first cap).run Tryz.prog w = .ok (.func fn first cap) w := fun _ _ _ _ => rfl
  obtain ⟨w4, hw4, hB4, hs4, g0, g1, g2, g3⟩ := boxesQ w fb (id : Nat) (at_ : Nat) (n : Nat)
  have kH := holds_at (hF.below hB4) (hh.below hB4) ((id : Nat) : Int) hi
  rw [decide_eq_true ht] at kH
  replace kH := hidden kH
  obtain ⟨w5, hw5, hB5, g4, f4⟩ : ∃ w5, w4.alloc (Obj.cells #[.slice none 0 0] 38) = w5 /\ Below w4.heap.size w4 w5 /\ w5.cell? ⟨w4.heap.size, 0, none⟩ = some (.slice none 0 0) /\ w5.frozen? ⟨w4.heap.size, 0, none⟩ = false := ⟨_, rfl, (Below.refl _ _).alloc (Nat.le_refl _) _, by simp, by simp⟩
  have hB05 := hB4.trans (hB5.mono hB4.size)
  have k0 := (hB5.cell (p := ⟨w.heap.size, 0, none⟩) (lt_of_cell (a := ⟨w.heap.size, 0, none⟩) g0)).trans g0
  have k1 := (hB5.cell (p := ⟨w.heap.size + 1, 0, none⟩) (lt_of_cell (a := ⟨w.heap.size + 1, 0, none⟩) g1)).trans g1
  have k2 := (hB5.cell (p := ⟨w.heap.size + 2, 0, none⟩) (lt_of_cell (a := ⟨w.heap.size + 2, 0, none⟩) g2)).trans g2
  have k3 := (hB5.cell (p := ⟨w.heap.size + 3, 0, none⟩) (lt_of_cell (a := ⟨w.heap.size + 3, 0, none⟩) g3)).trans g3
  have kA := hidden (kS w5 _ _ _ _ _ hB05 (by omega) ⟨k0, k1, k2, k3, g4, f4⟩)
  have l0 := lt_of_cell (a := ⟨w.heap.size, 0, none⟩) g0
  have l1 := lt_of_cell (a := ⟨w.heap.size + 1, 0, none⟩) g1
  have l2 := lt_of_cell (a := ⟨w.heap.size + 2, 0, none⟩) g2
  have l3 := lt_of_cell (a := ⟨w.heap.size + 3, 0, none⟩) g3
  have l05 := lt_of_cell (a := ⟨w.heap.size, 0, none⟩) k0
  have hno1 : ¬ (at_ : Int) < 0 := by omega
  have hno2 : ¬ (n : Int) < 0 := by omega
  replace hw4 := hidden hw4
  replace hw5 := hidden hw5
  clear kS hB4 hB5 hB05 hF hh hi ht k1 k2 k3 g4 f4
  go_enter Tryz.func39, Tryz.ntmps39
  go_upto_region 1 with fail
  rw [hw4.out]
  clear hw4
  generalize w.heap.size = WS at *
  go_wp2_with fail
  refine (kH.out).mono ?_
  rintro ev wq ⟨rfl, hwq⟩
  subst wq
  clear kH
  go_upto_region 6 with fail
  rw [hw5.out]
  clear hw5
  rw [hs4] at *
  go_wp2_with fail
  refine (kA.out).mono ?_
  rintro ev w6 ⟨er, v, rfl, hc, hQ⟩
  have hl6 := lt_of_cell (a := ⟨WS + 4, 0, none⟩) hc
  replace hQ := hidden hQ
  go_wp2
  go_ret2
  exact ⟨v, er, rfl, hQ.out⟩
theorem read_ok (h : Fsz fb rs hb E K D T f lim w) (hh : HeldAt fb hb E H w) {id at_ n : Nat} (h1 : 1 <= id) (h2 : id <= E.tn) (hk1 : K id = 1) (ht : 0 < hT H (id : Nat)) (hat : at_ <= 100000) (hn : (n : Int) <= 9223372036854775807) (hlim : lim <= 300000000) :
    Calls Tryz.prog 39 #[ptr fb, .int .i64 (id : Nat), .int .i64 (at_ : Nat), .int .i64 (n : Nat)] w fun e w' => ∃ v ev, e = .returned (.tuple #[v, ev]) /\ ev = .nilIface /\ OwnV w.heap.size w' v (((D id).drop at_).take n) /\ (Fsz fb rs hb E.rest K D T f (lim + 1000) w' /\ HeldAt fb hb E.rest H w') /\ E.Turns fb w w' := by
  have hpl := h.pl
  have hah := h.s.to.lts
  have hfar := h.far
  have hi : i64 (id : Int) := by have := hpl.rest_ok.tn; have e : E.rest.tn = E.tn := rfl; exact ⟨by omega, by omega⟩
  unfold TE.Ahead at hah
  refine read_via (Q := fun v ev w' => ev = .nilIface /\ OwnV w.heap.size w' v (((D id).drop at_).take n) /\ (Fsz fb rs hb E.rest K D T f (lim + 1000) w' /\ HeldAt fb hb E.rest H w') /\ E.Turns fb w w') h.at_ hh hi ht (fun wx b0 b1 b2 b3 b4 hx hc1 hbx => ?_)
  have hr := h.rest.below hx
  have hc2 := lt_of_cell (a := ⟨b4, 0, none⟩) hbx.c4
  have kD := fread1_ok (E := E.rest) hbx hr.at_ (fun wz hz => S8.read hpl.rest_ok (hr.s.to.more hz) h1 h2 (by rw [hk1]; decide) at_ n hat hn)
  refine (step_ok (E := E.rest) (P := fun w1 => ∃ v w2, OwnV wx.heap.size w2 v (((D id).drop at_).take n) /\ Below wx.heap.size wx w2 /\ w1 = w2.setCell ⟨b4, 0, none⟩ v) (K := K) (D := D) (f := f) (u := 0) (lim := lim) ent_fread1 hr.at_ hfar hpl.rest_ok hpl.far hpl.live (by show 1 <= E.most /\ E.most <= 200; rw [hpl.most]; omega) hlim (kD.mono ?_)).mono ?_
  · rintro e w1 ⟨rfl, v, w2, r1, r2, rfl⟩
    have hb' : Below w.heap.size w (w2.setCell ⟨b4, 0, none⟩ v) := (hx.trans (r2.mono hx.size)).setCell (p := ⟨b4, 0, none⟩) hc1 v
    have hz := h.rest.below hb'
    exact ⟨rfl, ⟨v, w2, r1, r2, rfl⟩, hz.at_, hz.s.to⟩
  · rintro e w3 ⟨rfl, w1, ⟨v, w2, r1, r2, rfl⟩, hF3, hS3, hA3⟩
    have hb' : Below w.heap.size w (w2.setCell ⟨b4, 0, none⟩ v) := (hx.trans (r2.mono hx.size)).setCell (p := ⟨b4, 0, none⟩) hc1 v
    have hcv : (w2.setCell ⟨b4, 0, none⟩ v).cell? ⟨b4, 0, none⟩ = some v := World.cell?_setCell_same' _ _ _ (by rw [(r2.cell (p := ⟨b4, 0, none⟩) hc2).trans hbx.c4]; rfl)
    have hno : ∀ k ∈ [E.d, E.g, E.mb], k < w.heap.size := fun k hk => by
      simp only [List.mem_cons, List.not_mem_nil, or_false] at hk
      omega
    have hA3' : Apart [E.d, E.g, E.mb] (w2.setCell ⟨b4, 0, none⟩ v) w3 := hA3
    have hT : E.Turns fb w w3 := (Apart.of_below hb').trans (hA3'.mono (fun x hx' _ => by
        simp only [List.mem_cons, List.not_mem_nil, or_false] at hx'
        rcases hx' with rfl | rfl | rfl <;> simp))
    refine ⟨_, v, rfl, (hA3'.cell (p := ⟨b4, 0, none⟩) (lt_of_cell (a := ⟨b4, 0, none⟩) hcv) (fun hm => by have := hno _ hm; simp only at this; omega)).trans hcv, rfl, ?_, ⟨⟨hF3, hS3, hpl.at _ _ _ _ _, hfar, h.tree⟩, (hh.turns hT).rest⟩, hT⟩
    have o1 := r1.keep ((Apart.refl [b4] w2).setCell (p := ⟨b4, 0, none⟩) (by simp) v) (fun k hk => by rw [List.mem_singleton.1 hk]; exact hc2)
    exact (o1.keep hA3' (fun k hk => Nat.lt_of_lt_of_le (hno k hk) hx.size)).mono hx.size
theorem fRead_ok {id at_ n : Int} {Q : Value -> World -> Prop} (hi : i64 id) (hQ : ∀ v w1 w2, Q v w1 -> Below w1.heap.size w1 w2 -> Q v w2) (hG : ∀ v w1, Q v w1 -> Ground w1) (k : Calls Tryz.prog 39 #[ptr fb, .int .i64 id, .int .i64 at_, .int .i64 n] w fun e w' => ∃ v ev, e = .returned (.tuple #[v, ev]) /\ ev = .nilIface /\ Q v w') :
    Calls Tryz.prog 14 #[ptr fb, .int .i64 id, .int .i64 at_, .int .i64 n] w fun e w' => ∃ v, e = .returned (.tuple #[v, .nilIface]) /\ Q v w' := by
  replace k := hidden k
  have kW := hidden (fun (wx : World) (hg : Ground wx) => fabout_nil ⟨#[114, 101, 97, 100]⟩ id hi wx hg)
  replace hQ := hidden hQ
  replace hG := hidden hG
  clear hi
  go_enter Tryz.func14, Tryz.ntmps14
  go_wp2_with fail
  refine (k.out).mono ?_
  rintro ev w1 ⟨v, er, rfl, rfl, hq⟩
  replace hq := hidden hq
  go_wp2_with fail
  refine (kW.out _ (hG.out _ _ hq.out)).mono ?_
  rintro ev w2 ⟨rfl, hB⟩
  have hE := hidden (hQ.out _ _ _ hq.out hB)
  go_wp2
  go_ret2
  exact ⟨v, rfl, hE.out⟩
end
theorem bytesC_anyH {w : World} {a b : Nat} {v : Value} {zs : List Int} (h : BytesC a w v zs) (hb : ∀ j, w.cell? ⟨b, j, none⟩ = none) : BytesC b w v zs := by
  obtain ⟨c, cap, e, h1, h2, h3, h4, hc⟩ := h
  refine ⟨c, cap, e, h1, h2, h3, h4, fun hne => ?_⟩
  obtain ⟨x, off, ea, hx, -, hk⟩ := hc hne
  refine ⟨x, off, ea, hx, fun eb => ?_, hk⟩
  subst eb
  have := hk 0 (List.length_pos_iff.2 hne)
  rw [hb] at this
  cases this
structure GhR (rs fb hb xb N dd : Nat) (P : (Nat -> List Int) -> Nat -> Prop) (K : Nat -> Nat) (T : Nat -> List Rec) (H : Chg) (lim : Nat) (E : TE) (w : World) : Prop where
  st : ∃ D f, P D f /\ Fsz fb rs hb E K D T f lim w
  held : HeldAt fb hb E H w
  x1 : w.cell? ⟨xb, 1, none⟩ = some (ptr fb)
  xn : xb ≠ E.d /\ xb ≠ E.g /\ xb ≠ E.mb /\ xb ≠ fb
  tn : E.tn = N
  k : E.k = dd
def GhS (rs fb hb xb N dd : Nat) (P : (Nat -> List Int) -> Nat -> Prop) (K : Nat -> Nat) (T : Nat -> List Rec) (H : Chg) (lim : Nat) (w0 w : World) : Prop := (∃ E, GhR rs fb hb xb N dd P K T H lim E w /\ E.w0 = w0) /\ GT w0
section
variable {rs fb hb xb N dd lim lim' : Nat} {P P' : (Nat -> List Int) -> Nat -> Prop} {K K' : Nat -> Nat} {T T' : Nat -> List Rec} {H H' : Chg} {D D' : Nat -> List Int} {f f' : Nat} {E : TE} {w0 w w' : World}
theorem GhR.below (h : GhR rs fb hb xb N dd P K T H lim E w) (hB : Below w.heap.size w w') : GhR rs fb hb xb N dd P K T H lim E w' := by
  obtain ⟨⟨D, f, hp, h0⟩, h1, h2, h3, h4, h5⟩ := h
  exact ⟨⟨D, f, hp, h0.below hB⟩, h1.below hB, (hB.cell (p := ⟨xb, 1, none⟩) (lt_of_cell (a := ⟨xb, 1, none⟩) h2)).trans h2, h3, h4, h5⟩
theorem GhR.turn (h : GhR rs fb hb xb N dd P K T H lim E w) (hA : Apart [E.d, E.g, E.mb, fb, hb] w w') (hh : HeldAt fb hb E.rest H' w') (hP : P' D' f') (hz : Fsz fb rs hb E.rest K' D' T' f' lim' w') : GhR rs fb hb xb N dd P' K' T' H' lim' E.rest w' :=
  have hne := h.held.neCell h.x1
  ⟨⟨D', f', hP, hz⟩, hh, (hA.cell (p := ⟨xb, 1, none⟩) (lt_of_cell (a := ⟨xb, 1, none⟩) h.x1) (by have := h.xn; simp; omega)).trans h.x1, h.xn, h.tn, h.k⟩
theorem turns_wide (hT : E.Turns fb w w') : Apart [E.d, E.g, E.mb, fb, hb] w w' := by
  have hT' : Apart [E.d, E.g, E.mb, fb] w w' := hT
  exact hT'.mono (fun x hx' _ => by
    simp only [List.mem_cons, List.not_mem_nil, or_false] at hx'
    rcases hx' with rfl | rfl | rfl | rfl <;> simp)
theorem GrS.held (h : GrS rs fb hb xb N dd P K T lim w0 w) : GhS rs fb hb xb N dd P K T [] lim w0 w := by
  obtain ⟨⟨E, ⟨h1, h2, h3, h4, h5, h6⟩, he⟩, hg⟩ := h
  exact ⟨⟨E, ⟨h1, h2.held, h3, h4, h5, h6⟩, he⟩, hg⟩
theorem GhS.below (h : GhS rs fb hb xb N dd P K T H lim w0 w) (hB : Below w.heap.size w w') : GhS rs fb hb xb N dd P K T H lim w0 w' := by
  obtain ⟨⟨E, h1, h2⟩, h3⟩ := h
  exact ⟨⟨E, h1.below hB, h2⟩, h3⟩
theorem GhS.x1 (h : GhS rs fb hb xb N dd P K T H lim w0 w) : w.cell? ⟨xb, 1, none⟩ = some (ptr fb) := by
  obtain ⟨⟨E, h1, h2⟩, h3⟩ := h
  exact h1.x1
theorem GhS.bel (h : GhS rs fb hb xb N dd P K T H lim w0 w) : Below w0.heap.size w0 w := by
  obtain ⟨⟨E, ⟨⟨D, f, hp, h0⟩, -⟩, rfl⟩, h3⟩ := h
  exact h0.s.to.below
theorem GhS.gt (h : GhS rs fb hb xb N dd P K T H lim w0 w) : GT w := h.2.below h.bel
theorem GhS.ground (h : GhS rs fb hb xb N dd P K T H lim w0 w) : Ground w := by
  obtain ⟨⟨E, ⟨⟨D, f, hp, h0⟩, -⟩, rfl⟩, h3⟩ := h
  exact h0.s.to.ground
theorem GhS.fb_lt (h : GhS rs fb hb xb N dd P K T H lim w0 w) : fb < w.heap.size := by
  obtain ⟨⟨E, ⟨⟨D, f, hp, h0⟩, -⟩, he⟩, hg⟩ := h
  exact h0.at_.lt
theorem GhS.up (h : GhS rs fb hb xb N dd P K T H lim w0 w) (hl : lim <= lim') : GhS rs fb hb xb N dd P K T H lim' w0 w := by
  obtain ⟨⟨E, ⟨⟨D, f, hp, h0⟩, h1, h2, h3, h4, h5⟩, he⟩, hg⟩ := h
  obtain ⟨mem, wr, M, z1, z2, z3, z4, z5⟩ := h0.s
  exact ⟨⟨E, ⟨⟨D, f, hp, ⟨h0.at_, ⟨mem, wr, M, z1, z2, z3, ⟨z4.1, Int.le_trans z4.2 (by omega)⟩, z5⟩, h0.pl, h0.far, h0.tree⟩⟩, h1, h2, h3, h4, h5⟩, he⟩, hg⟩
theorem GhS.imp (h : GhS rs fb hb xb N dd P K T H lim w0 w) (hP : ∀ D f, P D f -> P' D f) : GhS rs fb hb xb N dd P' K T H lim w0 w := by
  obtain ⟨⟨E, ⟨⟨D, f, hp, h0⟩, h1, h2, h3, h4, h5⟩, he⟩, hg⟩ := h
  exact ⟨⟨E, ⟨⟨D, f, hP D f hp, h0⟩, h1, h2, h3, h4, h5⟩, he⟩, hg⟩
theorem GhS.tree (h : GhS rs fb hb xb N dd P K T H lim w0 w) : ∃ D f, P D f /\ TreeOk N K D T := by
  obtain ⟨⟨E, ⟨⟨D, f, hp, h0⟩, h1, h2, h3, h4, h5⟩, he⟩, hg⟩ := h
  rw [<- h4]
  exact ⟨D, f, hp, h0.tree⟩
theorem GhS.step {F : FuncId} {args : Array Value} {R : Ending -> World -> Prop} (h : GhS rs fb hb xb N dd P K T H lim w0 w)
    (k : ∀ E D f, GhR rs fb hb xb N dd P K T H lim E w -> P D f -> Fsz fb rs hb E K D T f lim w -> Calls Tryz.prog F args w fun e w' => R e w' /\ (∃ D' f', P' D' f' /\ Fsz fb rs hb E.rest K' D' T' f' lim' w') /\ HeldAt fb hb E.rest H' w' /\ Apart [E.d, E.g, E.mb, fb, hb] w w') :
    Calls Tryz.prog F args w fun e w' => R e w' /\ GhS rs fb hb xb N dd P' K' T' H' lim' w0 w' := by
  obtain ⟨⟨E, h1, h2⟩, h3⟩ := h
  obtain ⟨D, f, hp, hz⟩ := h1.st
  refine (k E D f h1 hp hz).mono ?_
  rintro e w' ⟨hR, ⟨D', f', hp', hz'⟩, hh, hA⟩
  exact ⟨hR, ⟨⟨E.rest, h1.turn hA hh hp' hz', h2⟩, h3⟩⟩
end
section
variable {rs fb hb xb N dd lim : Nat} {P P' : (Nat -> List Int) -> Nat -> Prop} {K : Nat -> Nat} {T : Nat -> List Rec} {H : Chg} {w0 w w' : World}
theorem gh_write (h : GhS rs fb hb xb N dd P K T H lim w0 w) {id at_ a : Nat} {zs : List Int} {ba : Option Addr} {bc : Nat} (h1 : 1 <= id) (h2 : id <= N) (hk1 : K id = 1) (ht : 0 < hT H (id : Nat)) (hbv : BytesC a w (.slice ba zs.length bc) zs) (hz0 : 0 < zs.length) (hat : at_ + zs.length <= 4000) (hmay : ∀ D f, P D f -> (rs : Int) + growb ((D id).length : Nat) ((max (D id).length (at_ + zs.length) : Nat) : Int) <= f) (hP' : ∀ (D : Nat -> List Int) (f f' : Nat), P D f -> (f' : Int) + growb ((D id).length : Nat) ((max (D id).length (at_ + zs.length) : Nat) : Int) = f -> P' (upd D id (putD (D id) zs at_ (max (D id).length (at_ + zs.length)))) f') (hlim : lim <= 300000000) :
    Calls Tryz.prog 15 #[ptr fb, .int .i64 (id : Nat), .int .i64 (at_ : Nat), .slice ba zs.length bc] w fun e w' => e = .returned .nilIface /\ GhS rs fb hb xb N dd P' K T H (lim + 1000) w0 w' := by
  have hid : id <= 200 := by
    obtain ⟨⟨E, hR, -⟩, -⟩ := h
    obtain ⟨D, f, -, hz⟩ := hR.st
    have := hz.pl.rest_ok.tn
    have e : E.rest.tn = E.tn := rfl
    have := hR.tn
    omega
  refine fWrite_ok ⟨by omega, by omega⟩ (fun w1 w2 q hB => q.below hB) (fun w1 q => q.ground) (h.step (R := fun e _ => e = .returned .nilIface) (fun E D f hR hq hz => ?_))
  have hm := hmay D f hq
  obtain ⟨n, hn⟩ : ∃ n : Nat, growb ((D id).length : Nat) ((max (D id).length (at_ + zs.length) : Nat) : Int) = (n : Int) := ⟨(growb ((D id).length : Nat) ((max (D id).length (at_ + zs.length) : Nat) : Int)).toNat, by unfold growb; omega⟩
  rw [hn] at hm
  have hb' : BytesC E.mb w (.slice ba zs.length bc) zs := bytesC_anyH hbv (fun j => hz.s.to.mapNo j)
  refine (write_some hz hR.held h1 (by rw [hR.tn]; exact h2) hk1 ht hb' hz0 hat rfl hn (by omega) hlim).mono ?_
  rintro e w' ⟨rfl, ⟨hz', hh'⟩, hT'⟩
  exact ⟨rfl, ⟨_, f - n, hP' D f (f - n) hq (by rw [hn]; omega), hz'⟩, hh', turns_wide hT'⟩
theorem gh_nought (h : GhS rs fb hb xb N dd P K T H lim w0 w) {id at_ : Nat} {ba : Option Addr} {bc : Nat} (h1 : 1 <= id) (h2 : id <= N) (hk1 : K id = 1) (ht : 0 < hT H (id : Nat)) (hat : at_ <= 4000) (hlim : lim <= 300000000) :
    Calls Tryz.prog 15 #[ptr fb, .int .i64 (id : Nat), .int .i64 (at_ : Nat), .slice ba 0 bc] w fun e w' => e = .returned .nilIface /\ GhS rs fb hb xb N dd P K T H (lim + 1000) w0 w' := by
  have hid : id <= 200 := by
    obtain ⟨⟨E, hR, -⟩, -⟩ := h
    obtain ⟨D, f, -, hz⟩ := hR.st
    have := hz.pl.rest_ok.tn
    have e : E.rest.tn = E.tn := rfl
    have := hR.tn
    omega
  refine fWrite_ok ⟨by omega, by omega⟩ (fun w1 w2 q hB => q.below hB) (fun w1 q => q.ground) (h.step (R := fun e _ => e = .returned .nilIface) (fun E D f hR hq hz => ?_))
  refine (write_nought hz hR.held h1 (by rw [hR.tn]; exact h2) hk1 ht hat hlim).mono ?_
  rintro e w' ⟨rfl, ⟨hz', hh'⟩, hT'⟩
  exact ⟨rfl, ⟨_, f, hq, hz'⟩, hh', turns_wide hT'⟩
theorem gh_read (h : GhS rs fb hb xb N dd P K T H lim w0 w) {id at_ n : Nat} {zs : List Int} (h1 : 1 <= id) (h2 : id <= N) (hk1 : K id = 1) (ht : 0 < hT H (id : Nat)) (hat : at_ <= 100000) (hn : (n : Int) <= 9223372036854775807) (hD : ∀ D f, P D f -> ((D id).drop at_).take n = zs) (hlim : lim <= 300000000) :
    Calls Tryz.prog 14 #[ptr fb, .int .i64 (id : Nat), .int .i64 (at_ : Nat), .int .i64 (n : Nat)] w fun e w' => ∃ v, e = .returned (.tuple #[v, .nilIface]) /\ (∃ base, OwnV base w' v zs) /\ GhS rs fb hb xb N dd P K T H (lim + 1000) w0 w' := by
  have hid : id <= 200 := by
    obtain ⟨⟨E, hR, -⟩, -⟩ := h
    obtain ⟨D, f, -, hz⟩ := hR.st
    have := hz.pl.rest_ok.tn
    have e : E.rest.tn = E.tn := rfl
    have := hR.tn
    omega
  refine fRead_ok (Q := fun v w' => (∃ base, OwnV base w' v zs) /\ GhS rs fb hb xb N dd P K T H (lim + 1000) w0 w') ⟨by omega, by omega⟩ (fun v w1 w2 q hB => by obtain ⟨⟨base, q1⟩, q2⟩ := q; exact ⟨⟨base, q1.keep (Apart.of_below (bs := []) hB) (by simp)⟩, q2.below hB⟩) (fun v w1 q => q.2.ground) ?_
  have := h.step (P' := P) (K' := K) (T' := T) (H' := H) (lim' := lim + 1000) (F := 39) (args := #[ptr fb, .int .i64 (id : Nat), .int .i64 (at_ : Nat), .int .i64 (n : Nat)]) (R := fun e w' => ∃ v ev, e = .returned (.tuple #[v, ev]) /\ ev = .nilIface /\ ∃ base, OwnV base w' v zs) (fun E D f hR hq hz => by
    refine (read_ok hz hR.held h1 (by rw [hR.tn]; exact h2) hk1 ht hat hn hlim).mono ?_
    rintro e w' ⟨v, ev, rfl, rfl, hV, ⟨hz', hh'⟩, hT'⟩
    rw [hD D f hq] at hV
    exact ⟨⟨v, _, rfl, rfl, _, hV⟩, ⟨D, f, hq, hz'⟩, hh', turns_wide hT'⟩)
  refine this.mono ?_
  rintro e w' ⟨⟨v, ev, rfl, rfl, hV⟩, hS⟩
  exact ⟨v, _, rfl, rfl, hV, hS⟩
theorem gh_cut (h : GhS rs fb hb xb N dd P K T H lim w0 w) {id S2 L : Nat} (h1 : 1 <= id) (h2 : id <= N) (hk1 : K id = 1) (ht : 0 < hT H (id : Nat)) (hS4 : S2 <= 4000) (hL : ∀ D f, P D f -> (D id).length = L) (hmay : ∀ D f, P D f -> (rs : Int) + growb (L : Nat) (S2 : Nat) <= f) (hP' : ∀ (D : Nat -> List Int) (f f' : Nat), P D f -> P' (upd D id ((grownL (D id) S2).take S2)) f') (hlim : lim <= 300000000) :
    Calls Tryz.prog 28 #[ptr fb, .int .i64 (id : Nat), .int .i64 (S2 : Nat)] w fun e w' => e = .returned .nilIface /\ GhS rs fb hb xb N dd P' K T H (lim + 1000) w0 w' := by
  have hid : id <= 200 := by
    obtain ⟨⟨E, hR, -⟩, -⟩ := h
    obtain ⟨D, f, -, hz⟩ := hR.st
    have := hz.pl.rest_ok.tn
    have e : E.rest.tn = E.tn := rfl
    have := hR.tn
    omega
  refine fCut_ok ⟨by omega, by omega⟩ (fun w1 w2 q hB => q.below hB) (fun w1 q => q.ground) (h.step (R := fun e _ => e = .returned .nilIface) (fun E D f hR hq hz => ?_))
  have hl := hL D f hq
  have hm := hmay D f hq
  have hld := hz.s.to.len h1 (by rw [hR.tn]; exact h2)
  rcases Nat.lt_or_ge S2 L with h' | h'
  · have hup := blk_upD (a := (S2 : Int)) (b := ((D id).length : Int)) (by omega) (by omega) (by omega)
    obtain ⟨n, hn⟩ : ∃ n : Nat, blk ((D id).length : Int) - blk (S2 : Int) = (n : Int) := ⟨(blk ((D id).length : Int) - blk (S2 : Int)).toNat, by omega⟩
    refine (hcut_less hz hR.held h1 (by rw [hR.tn]; exact h2) hk1 ht (by omega) hn hlim).mono ?_
    rintro e w' ⟨rfl, ⟨hz', hh'⟩, hT'⟩
    have e1 : (grownL (D id) S2).take S2 = (D id).take S2 := by
      unfold grownL
      rw [List.take_append_of_le_length (by omega)]
    refine ⟨rfl, ⟨_, f + n, ?_, hz'⟩, hh', turns_wide hT'⟩
    have := hP' D f (f + n) hq
    rw [e1] at this
    exact this
  · obtain ⟨n, hn⟩ : ∃ n : Nat, growb ((D id).length : Nat) (S2 : Int) = (n : Int) := ⟨(growb ((D id).length : Nat) (S2 : Int)).toNat, by unfold growb; omega⟩
    rw [<- hl, hn] at hm
    refine (hcut_more hz hR.held h1 (by rw [hR.tn]; exact h2) hk1 ht (by omega) hS4 hn (by omega) hlim).mono ?_
    rintro e w' ⟨rfl, ⟨hz', hh'⟩, hT'⟩
    have e1 : (grownL (D id) S2).take S2 = grownL (D id) S2 := List.take_of_length_le (by unfold grownL; rw [List.length_append, List.length_replicate]; omega)
    refine ⟨rfl, ⟨_, f - n, ?_, hz'⟩, hh', turns_wide hT'⟩
    have := hP' D f (f - n) hq
    rw [e1] at this
    exact this
theorem gh_get (h : GhS rs fb hb xb N dd P K T H lim w0 w) {path : List UInt8} {l : List (List UInt8)} {q : Nat} {zs : List Int} (hlen : path.length <= 2000) (hp : splitB path = some l) (hq : walkT K T 1 l = .ok q) (hk : K q = 1) (hD : ∀ D f, P D f -> D q = zs) (hlim : lim <= 300000000) :
    Calls Tryz.prog 17 #[ptr fb, .string (mkB path)] w fun e w' => (∃ v, e = .returned (.tuple #[v, .nilIface]) /\ OwnV w.heap.size w' v zs) /\ GhS rs fb hb xb N dd P K T H (lim + 1000) w0 w' := by
  refine h.step (R := fun e w' => ∃ v, e = .returned (.tuple #[v, .nilIface]) /\ OwnV w.heap.size w' v zs) (fun E D f hR hx hz => ?_)
  refine (fGet_ok (get_ok hz hlen hp hq hk hlim)).mono ?_
  rintro e w' ⟨v, rfl, hV, hz', hT⟩
  rw [hD D f hx] at hV
  exact ⟨⟨v, rfl, hV⟩, ⟨D, f, hx, hz'⟩, (hR.held.turns hT).rest, turns_wide hT⟩
theorem gh_check (h : GhS rs fb hb xb N dd P K T H lim w0 w) {rk : Nat -> Nat} (m : RankT K T N rk) (hdd : dd <= 500) (hlim : lim <= 300000000) :
    Calls Tryz.prog 16 #[ptr fb] w fun e w' => e = .returned .nilIface /\ GhS rs fb hb xb N dd P K T H (lim + 1000) w0 w' := by
  refine h.step (R := fun e _ => e = .returned .nilIface) (fun E D f hR hx hz => ?_)
  have ht := hz.tree
  rw [hR.tn] at ht
  obtain ⟨lv, hS⟩ := sound_rank ht (by have := hz.pl.tn1; rw [hR.tn] at this; exact this) m
  refine (fCheck_ok hz (by rw [hR.tn]; exact hS) (by rw [hR.k]; exact hdd) hlim).mono ?_
  rintro e w' ⟨rfl, hz', hT⟩
  exact ⟨rfl, ⟨D, f, hx, hz'⟩, (hR.held.turns hT).rest, turns_wide hT⟩
end
section
variable {rs fb hb xb N dd lim : Nat} {P P' : (Nat -> List Int) -> Nat -> Prop} {K : Nat -> Nat} {T : Nat -> List Rec} {H : Chg} {w0 w w' : World}
theorem gr_make (h : GrS rs fb hb xb N dd P K T lim w0 w) {path s : List UInt8} {l : List (List UInt8)} {p id : Nat} (hlen : path.length <= 2000) (hp : splitB path = some (l ++ [s])) (hd : dirT K T l = .ok p) (hno : lookT (T p) s = none) (hl : (T p).length < 120) (h1 : 1 <= id) (h2 : id <= N) (hfree : K id = 0) (hlow : ∀ i, 1 <= i -> i < id -> K i ≠ 0) (hP : ∀ D f, P D f -> 2 + rs <= f) (hP' : ∀ D f f', P D f -> D id = [] -> f' + bkL ((T p).length + 1) = f + bkL (T p).length -> P' (upd D p (recsL (T p ++ [⟨s, id⟩]))) f') (hlim : lim <= 300000000) :
    Calls Tryz.prog 27 #[ptr fb, .string (mkB path)] w fun e w' => e = .returned .nilIface /\ GrS rs fb hb xb N dd P' (upd K id 1) (upd T p (T p ++ [⟨s, id⟩])) (lim + 1000) w0 w' := by
  refine fMake_ok (h.step (R := fun e _ => e = .returned .nilIface) (fun E D f hR hq hz => ?_))
  have hb := bkL_one (T p).length (by omega)
  have hg := grow_bk (T p).length (by omega)
  have h2f := hP D f hq
  have e0z : growb 0 ((0 : Nat) : Int) = 0 := by simp [growb, blk]
  have hD0 : D id = [] := hz.s.to.noBytes h1 (by rw [hR.tn]; exact h2) hfree
  refine (create_new hz hlen hp hd hno hl (Or.inl rfl) h1 (by rw [hR.tn]; exact h2) hfree (fun e => by cases e) hlow hg (by rw [e0z]; unfold mayB; simp; omega) hlim).mono ?_
  rintro e w' ⟨rfl, ⟨f', hf', hz'⟩, hT⟩
  exact ⟨rfl, ⟨_, f', hP' D f f' hq hD0 (by omega), hz'⟩, hT⟩
theorem fHold_ok {path : List UInt8} {q : Int} {Q : World -> Prop} (k : Calls Tryz.prog 36 #[ptr fb, .string (mkB path)] w fun e w' => e = .returned (.tuple #[.int .i64 q, .nilIface]) /\ Q w') :
    Calls Tryz.prog 11 #[ptr fb, .string (mkB path)] w fun e w' => e = .returned (.tuple #[.int .i64 q, .nilIface]) /\ Q w' := by
  replace k := hidden k
  have kW := hidden (fun (wx : World) => wrap_nil ⟨#[104, 111, 108, 100]⟩ (mkB path) wx)
  go_enter Tryz.func11, Tryz.ntmps11
  go_wp2_with fail
  refine (k.out).mono ?_
  rintro ev w1 ⟨rfl, hQ⟩
  replace hQ := hidden hQ
  go_wp2_with fail
  refine (kW.out _).mono ?_
  rintro ev w2 ⟨rfl, hw2⟩
  subst w2
  go_wp2
  go_ret2
  exact ⟨rfl, hQ.out⟩
theorem gh_hold (h : GhS rs fb hb xb N dd P K T H lim w0 w) {path : List UInt8} {l : List (List UInt8)} {q : Nat} (hlen : path.length <= 2000) (hp : splitB path = some l) (hq : walkT K T 1 l = .ok q) (hk : K q = 1) (hl : H.length <= 1000) (ht0 : -1000000 <= hT H (q : Nat) /\ hT H (q : Nat) <= 1000000) (hlim : lim <= 300000000) :
    Calls Tryz.prog 11 #[ptr fb, .string (mkB path)] w fun e w' => e = .returned (.tuple #[.int .i64 (q : Nat), .nilIface]) /\ GhS rs fb hb xb N dd P K T (putM (q : Nat) [hT H (q : Nat) + 1, if hBit H (q : Nat) then 1 else 0] H) (lim + 1000) w0 w' := by
  refine fHold_ok (h.step (R := fun e _ => e = .returned (.tuple #[.int .i64 (q : Nat), .nilIface])) (fun E D f hR hx hz => ?_))
  refine (hold_ok hz hR.held hlen hp hq hk hl ht0 hlim).mono ?_
  rintro e w' ⟨rfl, hz', hh', hA⟩
  exact ⟨rfl, ⟨D, f, hx, hz'⟩, hh', hA⟩
end
def pcK : Nat -> Nat := upd rootK 2 1
def pcT : Nat -> List Rec := upd (fun _ => []) 1 [⟨[97], 2⟩]
def pcH : Chg := [(2, [1, 0])]
def pcP (d : List Int) (D : Nat -> List Int) (f : Nat) : Prop := D 2 = d /\ (f : Int) + 1 + blk (d.length : Int) = 131
def PcS (fb hb xb : Nat) (d : List Int) (lim : Nat) (w0 w : World) : Prop := GhS 0 fb hb xb 12 131 (pcP d) pcK pcT pcH lim w0 w /\ d.length <= 4000
theorem pc_may (a b : Int) (_h0 : 0 <= a) (ha : a <= 4000) (hb : b <= 4000) (_hb0 : 0 <= b) : growb a b <= 40 /\ 0 <= growb a b /\ blk a <= 40 /\ 0 <= blk a := by
  have h1 : ∀ n : Int, n <= 4000 -> blk n <= 40 := fun n hn => by unfold blk; split <;> (try split) <;> (try split) <;> omega
  have := h1 a ha
  have := h1 b hb
  have := blk_range a
  have := blk_range b
  unfold growb
  omega
section
variable {fb hb xb lim lim' : Nat} {d : List Int} {w0 w w' : World}
theorem PcS.x1 (h : PcS fb hb xb d lim w0 w) : w.cell? ⟨xb, 1, none⟩ = some (ptr fb) := h.1.x1
theorem PcS.below (h : PcS fb hb xb d lim w0 w) (hB : Below w.heap.size w w') : PcS fb hb xb d lim w0 w' := ⟨h.1.below hB, h.2⟩
theorem PcS.up (h : PcS fb hb xb d lim w0 w) (hl : lim <= lim') : PcS fb hb xb d lim' w0 w := ⟨h.1.up hl, h.2⟩
theorem pc_new {E : TE} (hN : New11 240 12 0 131 w0 E fb hb xb w) (hg : GT w0) : GrS 0 fb hb xb 12 131 (fun _ f => f = 131) rootK (fun _ => []) 6000 w0 w := gr_new hN hg rfl
theorem pc_make (h : GrS 0 fb hb xb 12 131 (fun _ f => f = 131) rootK (fun _ => []) lim w0 w) (hlim : lim <= 300000000) :
    Calls Tryz.prog 27 #[ptr fb, .string ⟨#[47, 97]⟩] w fun e w' => e = .returned .nilIface /\ GrS 0 fb hb xb 12 131 (pcP []) pcK pcT (lim + 1000) w0 w' := by
  refine gr_make h (path := [47, 97]) (s := [97]) (l := []) (p := 1) (id := 2) (P' := pcP []) (by decide) (by decide) (by rfl) (by rfl) (by simp) (by omega) (by omega) (by rfl) (fun i a b => by have e : i = 1 := (by omega); rw [e]; decide) (fun D f hf => by omega) (fun D f f' hf hD e => ?_) hlim
  have b1 : bkL 1 = 1 := by decide
  have b0 : bkL 0 = 0 := by decide
  simp only [List.length_nil, Nat.zero_add] at e
  refine ⟨by rw [upd_other _ _ (by omega)]; exact hD, ?_⟩
  have e0 : blk (([] : List Int).length : Int) = 0 := rfl
  rw [e0]
  omega
theorem pc_hold (h : GrS 0 fb hb xb 12 131 (pcP []) pcK pcT lim w0 w) (hlim : lim <= 300000000) :
    Calls Tryz.prog 11 #[ptr fb, .string ⟨#[47, 97]⟩] w fun e w' => e = .returned (.tuple #[.int .i64 2, .nilIface]) /\ PcS fb hb xb [] (lim + 1000) w0 w' := by
  refine (gh_hold h.held (path := [47, 97]) (l := [[97]]) (q := 2) (by decide) (by decide) (by rfl) (by rfl) (by simp) (by decide) hlim).mono ?_
  rintro e w' ⟨rfl, hS⟩
  exact ⟨rfl, hS, by simp⟩
theorem pc_write (h : PcS fb hb xb d lim w0 w) {at_ a : Nat} {zs : List Int} {ba : Option Addr} {bc : Nat} (hbv : BytesC a w (.slice ba zs.length bc) zs) (hz0 : 0 < zs.length) (hat : at_ + zs.length <= 4000) (hlim : lim <= 300000000) :
    Calls Tryz.prog 15 #[ptr fb, .int .i64 2, .int .i64 (at_ : Nat), .slice ba zs.length bc] w fun e w' => e = .returned .nilIface /\ PcS fb hb xb (putD d zs at_ (max d.length (at_ + zs.length))) (lim + 1000) w0 w' := by
  obtain ⟨h, hd⟩ := h
  have hpl : (putD d zs at_ (max d.length (at_ + zs.length))).length = max d.length (at_ + zs.length) := by simp [putD]
  have hm := pc_may (d.length : Int) ((max d.length (at_ + zs.length) : Nat) : Int) (by omega) (by omega) (by omega) (by omega)
  refine (gh_write h (id := 2) (P' := pcP (putD d zs at_ (max d.length (at_ + zs.length)))) (by omega) (by omega) (by rfl) (by decide) hbv hz0 hat (fun D f hq => ?_) (fun D f f' hq e => ?_) hlim).mono ?_
  · have h1 := hq.2
    rw [hq.1]
    omega
  · have h1 := hq.2
    rw [hq.1] at e ⊢
    refine ⟨by rw [upd_same], ?_⟩
    rw [hpl]
    have hup := blk_upD (a := (d.length : Int)) (b := ((max d.length (at_ + zs.length) : Nat) : Int)) (by omega) (by omega) (by omega)
    unfold growb at e
    omega
  · rintro e w' ⟨rfl, hS⟩
    exact ⟨rfl, hS, by rw [hpl]; omega⟩
theorem pc_nought (h : PcS fb hb xb d lim w0 w) {at_ : Nat} {ba : Option Addr} {bc : Nat} (hat : at_ <= 4000) (hlim : lim <= 300000000) :
    Calls Tryz.prog 15 #[ptr fb, .int .i64 2, .int .i64 (at_ : Nat), .slice ba 0 bc] w fun e w' => e = .returned .nilIface /\ PcS fb hb xb d (lim + 1000) w0 w' := by
  refine (gh_nought h.1 (id := 2) (by omega) (by omega) (by rfl) (by decide) hat hlim).mono ?_
  rintro e w' ⟨rfl, hS⟩
  exact ⟨rfl, hS, h.2⟩
theorem pc_read (h : PcS fb hb xb d lim w0 w) (hlim : lim <= 300000000) :
    Calls Tryz.prog 14 #[ptr fb, .int .i64 2, .int .i64 0, .int .i64 5000] w fun e w' => ∃ v, e = .returned (.tuple #[v, .nilIface]) /\ (∃ base, OwnV base w' v d) /\ PcS fb hb xb d (lim + 1000) w0 w' := by
  have hd := h.2
  refine (gh_read h.1 (id := 2) (at_ := 0) (n := 5000) (zs := d) (by omega) (by omega) (by rfl) (by decide) (by omega) (by decide) (fun D f hq => by rw [hq.1, List.drop_zero, List.take_of_length_le (by omega)]) hlim).mono ?_
  rintro e w' ⟨v, rfl, hV, hS⟩
  exact ⟨v, rfl, hV, hS, hd⟩
def PcE (fb hb xb : Nat) (d : List Int) (lim : Nat) (w0 w : World) : Prop := GhS 0 fb hb xb 12 131 (fun D _ => D 2 = d) pcK pcT pcH lim w0 w
theorem PcE.x1 (h : PcE fb hb xb d lim w0 w) : w.cell? ⟨xb, 1, none⟩ = some (ptr fb) := GhS.x1 h
theorem PcE.below (h : PcE fb hb xb d lim w0 w) (hB : Below w.heap.size w w') : PcE fb hb xb d lim w0 w' := GhS.below h hB
theorem pc_cut (h : PcS fb hb xb d lim w0 w) {n : Nat} (hn : n <= 4000) (hlim : lim <= 300000000) :
    Calls Tryz.prog 28 #[ptr fb, .int .i64 2, .int .i64 (n : Nat)] w fun e w' => e = .returned .nilIface /\ PcE fb hb xb ((grownL d n).take n) (lim + 1000) w0 w' := by
  have hd := h.2
  have hm := pc_may (d.length : Int) (n : Int) (by omega) (by omega) (by omega) (by omega)
  refine gh_cut h.1 (id := 2) (S2 := n) (L := d.length) (P' := fun D _ => D 2 = (grownL d n).take n) (by omega) (by omega) (by rfl) (by decide) hn (fun D f hq => by rw [hq.1]) (fun D f hq => ?_) (fun D f f' hq => ?_) hlim
  · have h1 := hq.2
    omega
  · rw [upd_same, hq.1]
theorem pc_get (h : PcE fb hb xb d lim w0 w) (hlim : lim <= 300000000) :
    Calls Tryz.prog 17 #[ptr fb, .string ⟨#[47, 97]⟩] w fun e w' => (∃ a c, e = .returned (.tuple #[.slice a d.length c, .nilIface]) /\ d.length <= c /\ c <= maxLen /\ BytesC fb w' (.slice a d.length c) d) /\ PcE fb hb xb d (lim + 1000) w0 w' := by
  have hfb := GhS.fb_lt h
  refine (gh_get h (path := [47, 97]) (l := [[97]]) (q := 2) (by decide) (by decide) (by rfl) (by rfl) (fun D f hq => hq) hlim).mono ?_
  rintro e w' ⟨⟨v, rfl, hV⟩, hS⟩
  have hb6 := hV.toC hfb
  have hb7 := hb6
  obtain ⟨a, c, rfl, h1, h2, -⟩ := hb6
  exact ⟨⟨a, c, rfl, h1, h2, hb7⟩, hS⟩
theorem pc_rank : RankT pcK pcT 12 (fun x => if x = 1 then 0 else 1) := by
  have k0 : ∀ q, q ≠ 1 -> q ≠ 2 -> pcK q = 0 := fun q h1 h2 => by unfold pcK rootK; rw [upd_other _ _ h2, upd_other _ _ h1]
  have kd : ∀ q, pcK q = 2 -> q = 1 := fun q hq => by
    by_cases e1 : q = 1
    · exact e1
    · by_cases e2 : q = 2
      · rw [e2] at hq; cases hq
      · rw [k0 q e1 e2] at hq; cases hq
  refine ⟨rfl, fun q _ _ hq r hr => ?_, fun q _ _ _ => by (try simp only []); split <;> omega, fun q _ _ hq => ?_, fun q q' _ _ hq _ _ hq' r _ r' _ _ => by rw [kd q hq, kd q' hq'], fun x _ _ hx hne => ?_⟩
  · obtain rfl := kd q hq
    have hr' : r ∈ [(⟨[97], 2⟩ : Rec)] := hr
    rw [List.mem_singleton.1 hr']
    rfl
  · obtain rfl := kd q hq
    show ([2] : List Nat).Nodup
    simp
  · have e2 : x = 2 := by
      by_cases e2 : x = 2
      · exact e2
      · exact absurd (k0 x hne e2) hx
    exact ⟨1, by omega, by omega, rfl, ⟨[97], 2⟩, by show _ ∈ [(⟨[97], 2⟩ : Rec)]; simp, e2.symm⟩
theorem pc_check (h : PcE fb hb xb d lim w0 w) (hlim : lim <= 300000000) :
    Calls Tryz.prog 16 #[ptr fb] w fun e w' => e = .returned .nilIface /\ Below w0.heap.size w0 w' /\ Ground w' /\ GT w' := by
  refine (gh_check h pc_rank (by omega) hlim).mono ?_
  rintro e w' ⟨rfl, hS⟩
  exact ⟨rfl, hS.bel, hS.ground, hS.gt⟩
end
end Go.Proofs.YtpofmiecjkghgaaGreatDoor
