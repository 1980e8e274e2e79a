/- Hold of a file. -/
import Derived.Test.YtpofmiecjkghgaaGreatDoorGYa
import Derived.Test.YtpofmiecjkghgaaGreatDoorGWs
namespace Go.Proofs.YtpofmiecjkghgaaGreatDoor
open Go.RowKit Go.Extern.Stop Go.Stop Go.Extern Go.Maps Go.Sort Go.Shelf
set_option maxRecDepth 100000
structure HoAt (w : World) (x : Nat) (t : Int) (b : Bool) : Prop where
  c0 : w.cell? ⟨x, 0, none⟩ = some (.int .i64 t)
  c1 : w.cell? ⟨x, 1, none⟩ = some (.bool b)
  f0 : w.frozen? ⟨x, 0, none⟩ = false
  f1 : w.frozen? ⟨x, 1, none⟩ = false
theorem ho_new (w : World) (t : Int) (b : Bool) : HoAt (w.alloc (Obj.cells #[.int .i64 t, .bool b] 113)) w.heap.size t b := ⟨by simp, by simp, by simp, by simp⟩
section
variable {w w' : World} {x : Nat} {t : Int} {b : Bool}
theorem HoAt.lt (h : HoAt w x t b) : x < w.heap.size := lt_of_cell (a := ⟨x, 0, none⟩) h.c0
theorem HoAt.keep {bs : List Nat} (h : HoAt w x t b) (ha : Apart bs w w') (hn : x ∉ bs) : HoAt w' x t b :=
  have k : ∀ j, w'.cell? ⟨x, j, none⟩ = w.cell? ⟨x, j, none⟩ := fun j => ha.cell (p := ⟨x, j, none⟩) h.lt hn
  have z : ∀ j, w'.frozen? ⟨x, j, none⟩ = w.frozen? ⟨x, j, none⟩ := fun j => ha.frozen (p := ⟨x, j, none⟩) h.lt hn
  ⟨(k 0).trans h.c0, (k 1).trans h.c1, (z 0).trans h.f0, (z 1).trans h.f1⟩
theorem load_ho (h : HoAt w x t b) : (loadVar 113 ⟨x, 0, none⟩).run Tryz.prog w = .ok (.agg #[.int .i64 t, .bool b]) w := by
  have c0 := h.c0
  have c1 := h.c1
  clear h
  go_simp
theorem HoAt.s0 (h : HoAt w x t b) (v : Int) : HoAt (w.setCell ⟨x, 0, none⟩ (.int .i64 v)) x v b :=
  ⟨World.cell?_setCell_same' _ _ _ (by rw [h.c0]; rfl), (World.cell?_setCell_other _ _ _ _ (by simp)).trans h.c1, by simpa using h.f0, by simpa using h.f1⟩
theorem run_ho0 (h : HoAt w x t b) (v : Int) : (storeVar 3 ⟨x, 0, none⟩ (.int .i64 v)).run Tryz.prog w = .ok () (w.setCell ⟨x, 0, none⟩ (.int .i64 v)) := by
  have q := h.c0
  have z := h.f0
  clear h
  go_simp
end
section
variable {fb rs hb : Nat} {E : TE} {w w' : World} {K : Nat -> Nat} {D : Nat -> List Int} {T : Nat -> List Rec} {f u lim : Nat} {H : Chg}
set_option maxHeartbeats 1000000 in
theorem hold1_file {c0 q : Nat} {old : Value} (g1 : w.cell? ⟨c0, 0, none⟩ = some old) (f1 : w.frozen? ⟨c0, 0, none⟩ = false) :
    Calls Tryz.prog 68 #[fnV (q : Nat) 1, ptr c0] w fun e w' => e = .returned .nilIface /\ ∃ w2, Below w.heap.size w w2 /\ w' = w2.setCell ⟨c0, 0, none⟩ (.int .i64 (q : Nat)) := by
  have hB : Below w.heap.size w (w.alloc (.cells #[.int .i64 (q : Nat), .int .i64 1] 105)) := (Below.refl _ _).alloc (Nat.le_refl _) _
  have k1 := (hB.cell (p := ⟨c0, 0, none⟩) (lt_of_cell (a := ⟨c0, 0, none⟩) g1)).trans g1
  have k2 := ((Apart.of_below (bs := []) hB).frozen (p := ⟨c0, 0, none⟩) (lt_of_cell (a := ⟨c0, 0, none⟩) g1) (by simp)).trans f1
  have hl := lt_of_cell (a := ⟨c0, 0, none⟩) k1
  obtain ⟨w1, hw1, hN1⟩ : ∃ w1, w.alloc (.cells #[.int .i64 (q : Nat), .int .i64 1] 105) = w1 /\ FnAt w1 w.heap.size (q : Nat) 1 := ⟨_, rfl, fn_new _ _ _⟩
  rw [hw1] at hB k1 k2 hl
  have n0 := hN1.c0
  have n1 := hN1.c1
  have hlN := hN1.lt
  replace hw1 := hidden hw1
  replace hB := hidden hB
  clear hN1 g1 f1
  go_enter Tryz.func68, Tryz.ntmps68
  go_upto_region 1 with fail
  rw [hw1.out]
  clear hw1
  go_wp2
  go_ret
  exact ⟨rfl, _, hB.out, rfl⟩
set_option maxHeartbeats 4000000 in
theorem hold_ok (h : Fsz fb rs hb E K D T f lim w) (hh : HeldAt fb hb E H w) {path : List UInt8} {l : List (List UInt8)} (hlen : path.length <= 2000) (hp : splitB path = some l) {q : Nat} (hq : walkT K T 1 l = .ok q) (hk : K q = 1) (hup : H.Pairwise (fun p q => p.1 < q.1)) (hl : H.length <= 1000) (ht0 : -1000000 <= hT H (q : Nat) /\ hT H (q : Nat) <= 1000000) (hlim : lim <= 300000000) :
    Calls Tryz.prog 36 #[ptr fb, .string (mkB path)] w fun e w' => e = .returned (.tuple #[.int .i64 (q : Nat), .nilIface]) /\ Fsz fb rs hb E.rest K D T f (lim + 1000) w' /\ HeldAt fb hb E.rest (putM (q : Nat) [hT H (q : Nat) + 1, if hBit H (q : Nat) then 1 else 0] H) w' /\ Apart [E.d, E.g, E.mb, fb, hb] w w' := by
  have hmf : ∀ (fn : Fn) (first cap : Array Value) (w : World), (Instr.makeFunc fn first cap).run Tryz.prog w = .ok (.func fn first cap) w := fun _ _ _ _ => rfl
  have hmp := may_all (split_may hp)
  have hpl := h.pl
  obtain ⟨q1, q2, -⟩ := walkT_in h.tree l 1 q (Nat.le_refl _) hpl.tn1 (by rw [h.tree.root]; decide) hq
  have hi : i64 ((q : Nat) : Int) := by have := hpl.rest_ok.tn; have e : E.rest.tn = E.tn := rfl; exact ⟨by omega, by omega⟩
  have hah := h.s.to.lts
  have hfar := h.far
  unfold TE.Ahead at hah
  obtain ⟨wx, hw2, hx, g1, f1⟩ : ∃ wx, w.alloc (Obj.cells #[.int .i64 0] 3) = wx /\ Below w.heap.size w wx /\ wx.cell? ⟨w.heap.size, 0, none⟩ = some (.int .i64 0) /\ wx.frozen? ⟨w.heap.size, 0, none⟩ = false := ⟨_, rfl, (Below.refl _ _).alloc (Nat.le_refl _) _, by simp, by simp⟩
  have hc2 := lt_of_cell (a := ⟨w.heap.size, 0, none⟩) g1
  have kA := hidden (at_via (w := wx) (fb := fb) (fc := 68) (caps := #[ptr w.heap.size]) (Q := fun ev w' => ev = .nilIface /\ w'.cell? ⟨w.heap.size, 0, none⟩ = some (.int .i64 (q : Nat)) /\ Fsz fb rs hb E.rest K D T f (lim + 1000) w' /\ E.Turns fb w w') hlen hp (fun wy b0 b1 b2 names hy hbx hT => by
    have hxy : Below w.heap.size w wy := hx.trans (hy.mono hx.size)
    have hr := h.rest.below hxy
    have k1 := (hy.cell (p := ⟨w.heap.size, 0, none⟩) hc2).trans g1
    have kf := ((Apart.of_below (bs := []) hy).frozen (p := ⟨w.heap.size, 0, none⟩) hc2 (by simp)).trans f1
    have hc1y : w.heap.size < wy.heap.size := Nat.lt_of_lt_of_le hc2 hy.size
    have kC := at1_one (E := E.rest) (K := K) (D := D) (T := T) (q := q) ent_hold1 hbx hr.at_ hr.s.to hpl.rest_ok hr.tree hpl.tn1 hT (by omega) hmp.2 hq (Q := fun ev w' => ev = .nilIface /\ ∃ w2, Below wy.heap.size wy w2 /\ w' = w2.setCell ⟨w.heap.size, 0, none⟩ (.int .i64 (q : Nat))) (fun wz hz => by
      rw [hk]
      refine (hold1_file (w := wz) (c0 := w.heap.size) (q := q) ((hz.cell (p := ⟨w.heap.size, 0, none⟩) hc1y).trans k1) (((Apart.of_below (bs := []) hz).frozen (p := ⟨w.heap.size, 0, none⟩) hc1y (by simp)).trans kf)).mono ?_
      rintro e w' ⟨rfl, w2, r2, r3⟩
      exact ⟨_, rfl, rfl, w2, hz.trans (r2.mono hz.size), r3⟩)
    refine (step_ok (E := E.rest) (P := fun w1 => ∃ w2, Below wy.heap.size wy w2 /\ w1 = w2.setCell ⟨w.heap.size, 0, none⟩ (.int .i64 (q : Nat))) (K := K) (D := D) (f := f) (u := 0) (lim := lim) ent_at1 hr.at_ hfar hpl.rest_ok hpl.far hpl.live (by show 1 <= E.most /\ E.most <= 200; rw [hpl.most]; omega) hlim (kC.mono ?_)).mono ?_
    · rintro e w1 ⟨ev, rfl, rfl, w2, r2, rfl⟩
      have hb' : Below w.heap.size w (w2.setCell ⟨w.heap.size, 0, none⟩ (.int .i64 (q : Nat))) := (hxy.trans (r2.mono hxy.size)).setCell (p := ⟨w.heap.size, 0, none⟩) (Nat.le_refl _) _
      have hz := h.rest.below hb'
      exact ⟨rfl, ⟨w2, r2, rfl⟩, hz.at_, hz.s.to⟩
    · rintro e w3 ⟨rfl, w1, ⟨w2, r2, rfl⟩, hF3, hS3, hA3⟩
      have hb' : Below w.heap.size w (w2.setCell ⟨w.heap.size, 0, none⟩ (.int .i64 (q : Nat))) := (hxy.trans (r2.mono hxy.size)).setCell (p := ⟨w.heap.size, 0, none⟩) (Nat.le_refl _) _
      have hcv : (w2.setCell ⟨w.heap.size, 0, none⟩ (.int .i64 (q : Nat))).cell? ⟨w.heap.size, 0, none⟩ = some (.int .i64 (q : Nat)) := World.cell?_setCell_same' _ _ _ (by rw [(r2.cell (p := ⟨w.heap.size, 0, none⟩) hc1y).trans k1]; rfl)
      have hA3' : Apart [E.d, E.g, E.mb] (w2.setCell ⟨w.heap.size, 0, none⟩ (.int .i64 (q : Nat))) w3 := hA3
      refine ⟨_, rfl, rfl, (hA3'.cell (p := ⟨w.heap.size, 0, none⟩) (lt_of_cell (a := ⟨w.heap.size, 0, none⟩) hcv) (by simp; omega)).trans hcv, ⟨hF3, hS3, hpl.at _ _ _ _ _, hfar, h.tree⟩, ?_⟩
      exact (Apart.of_below hb').trans (hA3'.mono (fun x hx' _ => by
        simp only [List.mem_cons, List.not_mem_nil, or_false] at hx'
        rcases hx' with rfl | rfl | rfl <;> simp))))
  have hfb := h.at_.lt
  have hhl := hh.lt
  have hhne := hh.ne
  have kH := hidden (fun (wy : World) (hy : E.Turns fb w wy) => hh.turns hy)
  replace hw2 := hidden hw2
  replace hi := hidden hi
  replace hup := hidden hup
  have hhd := hidden (And.intro hfb (And.intro hhl hhne))
  have hsz := hidden hfar
  clear h hx hmp hh hq hah g1 f1 hc2 hpl hhne hhl hfar
  obtain ⟨TT, hTT⟩ : ∃ t, hT H (q : Nat) = t := ⟨_, rfl⟩
  obtain ⟨BB, hBB⟩ : ∃ b, hBit H (q : Nat) = b := ⟨_, rfl⟩
  rw [hTT] at ht0
  rw [hTT, hBB]
  replace hTT := hidden hTT
  replace hBB := hidden hBB
  go_enter Tryz.func36, Tryz.ntmps36
  go_upto_region 2 with fail
  rw [hw2.out]
  clear hw2
  generalize hC0 : w.heap.size = C0 at *
  replace hC0 := hidden hC0
  go_wp2_with fail
  refine (kA.out).mono ?_
  rintro ev w3 ⟨er, rfl, rfl, hcq, hz3, hT3⟩
  have hh3 := kH.out w3 hT3
  have c6 := hz3.at_.c6
  have hl3 := hz3.at_.lt
  have hlc := lt_of_cell (a := ⟨C0, 0, none⟩) hcq
  have hlk := hh3.look ((q : Nat) : Int) hi.out false
  simp only [Bool.false_eq_true, if_false] at hlk
  rw [hTT.out, hBB.out] at hlk
  obtain ⟨w4, hw4, hB4, hN4⟩ : ∃ w4, w3.alloc (Obj.cells #[.int .i64 TT, .bool BB] 113) = w4 /\ Below w3.heap.size w3 w4 /\ HoAt w4 w3.heap.size TT BB := ⟨_, rfl, (Below.refl _ _).alloc (Nat.le_refl _) _, ho_new _ _ _⟩
  have hN5 := hN4.s0 (TT + 1)
  have hst := run_ho0 hN4 (TT + 1)
  have hld := load_ho hN5
  have n0 := hN4.c0
  have nlt := hN4.lt
  have hB5 : Below w3.heap.size w3 (w4.setCell ⟨w3.heap.size, 0, none⟩ (.int .i64 (TT + 1))) := hB4.setCell (p := ⟨w3.heap.size, 0, none⟩) (Nat.le_refl _) _
  have hh5 := hh3.below hB5
  obtain ⟨w6, hrun, hh6, hA6⟩ := hh5.store ((q : Nat) : Int) hi.out hup.out hl (TT + 1) BB
  have c64 := (hB4.cell (p := ⟨fb, 6, none⟩) (lt_of_cell (a := ⟨fb, 6, none⟩) c6)).trans c6
  have c65 := (hB5.cell (p := ⟨fb, 6, none⟩) (lt_of_cell (a := ⟨fb, 6, none⟩) c6)).trans c6
  have hcq4 := (hB4.cell (p := ⟨C0, 0, none⟩) hlc).trans hcq
  have hcq5 := (hB5.cell (p := ⟨C0, 0, none⟩) hlc).trans hcq
  have hcq6 := (hA6.cell (p := ⟨C0, 0, none⟩) (lt_of_cell (a := ⟨C0, 0, none⟩) hcq5) (by have h1 := hhd.out.2.1; have h2 := hC0.out; simp; omega)).trans hcq5
  have hl6 := lt_of_cell (a := ⟨C0, 0, none⟩) hcq6
  have hl5 := lt_of_cell (a := ⟨C0, 0, none⟩) hcq5
  have lf5 := lt_of_cell (a := ⟨fb, 6, none⟩) c65
  have hE := hidden (show Fsz fb rs hb E.rest K D T f (lim + 1000) w6 /\ HeldAt fb hb E.rest (putM (q : Nat) [TT + 1, if BB then 1 else 0] H) w6 /\ Apart [E.d, E.g, E.mb, fb, hb] w w6 from by
    refine ⟨hh5.fsz (hz3.below hB5) hA6, hh6.rest, ?_⟩
    exact ((hT3.mono (fun x hx' _ => by
        simp only [List.mem_cons, List.not_mem_nil, or_false] at hx'
        rcases hx' with rfl | rfl | rfl | rfl <;> simp)).trans (Apart.of_below hB5)).trans (hA6.mono (fun x hx' _ => by
        simp only [List.mem_cons, List.not_mem_nil, or_false] at hx'
        rcases hx' with rfl
        simp)))
  replace hw4 := hidden hw4
  clear hz3 hT3 hh3 kH kA hB4 hN4 hN5 hB5 hh5 hh6 hA6
  go_wp2_with fail
  trace_state
  sorry
end
end Go.Proofs.YtpofmiecjkghgaaGreatDoor
