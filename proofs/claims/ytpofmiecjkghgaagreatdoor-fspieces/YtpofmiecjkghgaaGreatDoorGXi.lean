/- Room. -/
import Derived.Test.YtpofmiecjkghgaaGreatDoorGWg
import Derived.Deep.RegionHeld
import Derived.Test.YtpofmiecjkghgaaGreatDoorGXf
namespace Go.Proofs.YtpofmiecjkghgaaGreatDoor
open Go.RowKit Go.Extern.Stop Go.Stop Go.Extern Go.Maps Go.Sort Go.Shelf
set_option maxRecDepth 100000
theorem wpAnyH_act {P : Program} {md : Region.Mode} {ops : Array Oper} {Q : Exit -> Act -> World -> Prop} {S : World -> Prop} {fuel : Nat} {listed : Array Bool} {a a' : Act} {w : World} (e : a = a') (h : wpAnyH P md ops Q S fuel listed a' w) : wpAnyH P md ops Q S fuel listed a w := e ▸ h
theorem any_store {P : Program} {ops : Array Oper} {o : Oper} {a : Act} {w : World} {K : Act -> World -> Prop} {Q : Exit -> Act -> World -> Prop} {ty : TypeId} {x y : Operand} (hg : Region.wanted o (yielded ops a.tmps) = true) (ho : o.op = .store ty x y)
    (p : Addr) (v : Value) (hx : a.eval x = .pointer (some p)) (hy : a.eval y = v) (w' : World) (hr : (storeVar ty p v).run P w = .ok () w') (h : K (a.put o.dst undef) w') : if Region.wanted o (yielded ops a.tmps) = true then Oper.wp P o a w K Q else K (a.put o.dst undef) w := by
  rw [if_pos hg]
  unfold Oper.wp
  simp [execOp, ho, hx, hy, Instr.storeAt, Instr.sureAddr, hr, Result.andThen]
  exact h
def sRoom : ByteArray := ⟨#[114, 111, 111, 109]⟩
abbrev rmV (a b c d : Int) : Value := .agg #[.int .i64 a, .int .i64 b, .int .i64 c, .int .i64 d]
structure RmAt (w : World) (x : Nat) (a b c d : Int) : Prop where
  c0 : w.cell? ⟨x, 0, none⟩ = some (.int .i64 a)
  c1 : w.cell? ⟨x, 1, none⟩ = some (.int .i64 b)
  c2 : w.cell? ⟨x, 2, none⟩ = some (.int .i64 c)
  c3 : w.cell? ⟨x, 3, none⟩ = some (.int .i64 d)
  f0 : w.frozen? ⟨x, 0, none⟩ = false
  f1 : w.frozen? ⟨x, 1, none⟩ = false
  f2 : w.frozen? ⟨x, 2, none⟩ = false
  f3 : w.frozen? ⟨x, 3, none⟩ = false
theorem rm_new (w : World) (a b c d : Int) : RmAt (w.alloc (Obj.cells #[.int .i64 a, .int .i64 b, .int .i64 c, .int .i64 d] 26)) w.heap.size a b c d := ⟨by simp, by simp, by simp, by simp, by simp, by simp, by simp, by simp⟩
section
variable {w w' : World} {x : Nat} {a b c d : Int}
theorem RmAt.lt (h : RmAt w x a b c d) : x < w.heap.size := lt_of_cell (a := ⟨x, 0, none⟩) h.c0
theorem RmAt.keep {bs : List Nat} (h : RmAt w x a b c d) (ha : Apart bs w w') (hn : x ∉ bs) : RmAt w' x a b c d :=
  have k : ∀ j, w'.cell? ⟨x, j, none⟩ = w.cell? ⟨x, j, none⟩ := fun j => ha.cell (p := ⟨x, j, none⟩) h.lt hn
  have z : ∀ j, w'.frozen? ⟨x, j, none⟩ = w.frozen? ⟨x, j, none⟩ := fun j => ha.frozen (p := ⟨x, j, none⟩) h.lt hn
  ⟨(k 0).trans h.c0, (k 1).trans h.c1, (k 2).trans h.c2, (k 3).trans h.c3, (z 0).trans h.f0, (z 1).trans h.f1, (z 2).trans h.f2, (z 3).trans h.f3⟩
theorem RmAt.below (h : RmAt w x a b c d) (hb : Below w.heap.size w w') : RmAt w' x a b c d := h.keep (Apart.of_below (bs := []) hb) (by simp)
theorem load_rm (h : RmAt w x a b c d) : (loadVar 26 ⟨x, 0, none⟩).run Tryz.prog w = .ok (rmV a b c d) w := by
  have c0 := h.c0
  have c1 := h.c1
  have c2 := h.c2
  have c3 := h.c3
  clear h
  go_simp
def rmSet (w : World) (x : Nat) (a b c d : Int) : World := (((w.setCell ⟨x, 0, none⟩ (.int .i64 a)).setCell ⟨x, 1, none⟩ (.int .i64 b)).setCell ⟨x, 2, none⟩ (.int .i64 c)).setCell ⟨x, 3, none⟩ (.int .i64 d)
theorem rm_stored {a' b' c' d' : Int} (h : RmAt w x a b c d) : RmAt (rmSet w x a' b' c' d') x a' b' c' d' := by
  unfold rmSet
  have o : ∀ (W : World) (i j : Nat) (v : Value), j ≠ i -> (W.setCell ⟨x, i, none⟩ v).cell? ⟨x, j, none⟩ = W.cell? ⟨x, j, none⟩ := fun W i j v hne => World.cell?_setCell_other _ _ _ _ (by simp <;> omega)
  refine ⟨?_, ?_, ?_, ?_, by simpa using h.f0, by simpa using h.f1, by simpa using h.f2, by simpa using h.f3⟩
  · rw [o _ _ _ _ (by omega), o _ _ _ _ (by omega), o _ _ _ _ (by omega)]
    exact World.cell?_setCell_same' _ _ _ (by rw [h.c0]; rfl)
  · rw [o _ _ _ _ (by omega), o _ _ _ _ (by omega)]
    exact World.cell?_setCell_same' _ _ _ (by rw [o _ _ _ _ (by omega), h.c1]; rfl)
  · rw [o _ _ _ _ (by omega)]
    exact World.cell?_setCell_same' _ _ _ (by rw [o _ _ _ _ (by omega), o _ _ _ _ (by omega), h.c2]; rfl)
  · exact World.cell?_setCell_same' _ _ _ (by rw [o _ _ _ _ (by omega), o _ _ _ _ (by omega), o _ _ _ _ (by omega), h.c3]; rfl)
theorem rm_apart (w : World) (x : Nat) (a b c d : Int) : Apart [x] w (rmSet w x a b c d) := ((((Apart.refl [x] w).setCell (p := ⟨x, 0, none⟩) (by simp) _).setCell (p := ⟨x, 1, none⟩) (by simp) _).setCell (p := ⟨x, 2, none⟩) (by simp) _).setCell (p := ⟨x, 3, none⟩) (by simp) _
theorem RmAt.s0 (h : RmAt w x a b c d) (v : Int) : RmAt (w.setCell ⟨x, 0, none⟩ (.int .i64 v)) x v b c d :=
  ⟨World.cell?_setCell_same' _ _ _ (by rw [h.c0]; rfl), (World.cell?_setCell_other _ _ _ _ (by simp)).trans h.c1, (World.cell?_setCell_other _ _ _ _ (by simp)).trans h.c2, (World.cell?_setCell_other _ _ _ _ (by simp)).trans h.c3, by simpa using h.f0, by simpa using h.f1, by simpa using h.f2, by simpa using h.f3⟩
theorem RmAt.s1 (h : RmAt w x a b c d) (v : Int) : RmAt (w.setCell ⟨x, 1, none⟩ (.int .i64 v)) x a v c d :=
  ⟨(World.cell?_setCell_other _ _ _ _ (by simp)).trans h.c0, World.cell?_setCell_same' _ _ _ (by rw [h.c1]; rfl), (World.cell?_setCell_other _ _ _ _ (by simp)).trans h.c2, (World.cell?_setCell_other _ _ _ _ (by simp)).trans h.c3, by simpa using h.f0, by simpa using h.f1, by simpa using h.f2, by simpa using h.f3⟩
theorem RmAt.s2 (h : RmAt w x a b c d) (v : Int) : RmAt (w.setCell ⟨x, 2, none⟩ (.int .i64 v)) x a b v d :=
  ⟨(World.cell?_setCell_other _ _ _ _ (by simp)).trans h.c0, (World.cell?_setCell_other _ _ _ _ (by simp)).trans h.c1, World.cell?_setCell_same' _ _ _ (by rw [h.c2]; rfl), (World.cell?_setCell_other _ _ _ _ (by simp)).trans h.c3, by simpa using h.f0, by simpa using h.f1, by simpa using h.f2, by simpa using h.f3⟩
theorem RmAt.s3 (h : RmAt w x a b c d) (v : Int) : RmAt (w.setCell ⟨x, 3, none⟩ (.int .i64 v)) x a b c v :=
  ⟨(World.cell?_setCell_other _ _ _ _ (by simp)).trans h.c0, (World.cell?_setCell_other _ _ _ _ (by simp)).trans h.c1, (World.cell?_setCell_other _ _ _ _ (by simp)).trans h.c2, World.cell?_setCell_same' _ _ _ (by rw [h.c3]; rfl), by simpa using h.f0, by simpa using h.f1, by simpa using h.f2, by simpa using h.f3⟩
theorem run_rm0 (h : RmAt w x a b c d) (v : Int) : (storeVar 3 ⟨x, 0, none⟩ (.int .i64 v)).run Tryz.prog w = .ok () (w.setCell ⟨x, 0, none⟩ (.int .i64 v)) := by
  have q := h.c0
  have z := h.f0
  clear h
  go_simp
theorem run_rm1 (h : RmAt w x a b c d) (v : Int) : (storeVar 3 ⟨x, 1, none⟩ (.int .i64 v)).run Tryz.prog w = .ok () (w.setCell ⟨x, 1, none⟩ (.int .i64 v)) := by
  have q := h.c1
  have z := h.f1
  clear h
  go_simp
theorem run_rm2 (h : RmAt w x a b c d) (v : Int) : (storeVar 3 ⟨x, 2, none⟩ (.int .i64 v)).run Tryz.prog w = .ok () (w.setCell ⟨x, 2, none⟩ (.int .i64 v)) := by
  have q := h.c2
  have z := h.f2
  clear h
  go_simp
theorem run_rm3 (h : RmAt w x a b c d) (v : Int) : (storeVar 3 ⟨x, 3, none⟩ (.int .i64 v)).run Tryz.prog w = .ok () (w.setCell ⟨x, 3, none⟩ (.int .i64 v)) := by
  have q := h.c3
  have z := h.f3
  clear h
  go_simp
theorem run_rm4 (h : RmAt w x a b c d) : (storeVar 26 ⟨x, 0, none⟩ (rmV 0 0 0 0)).run Tryz.prog w = .ok () ((((w.setCell ⟨x, 0, none⟩ (.int .i64 0)).setCell ⟨x, 1, none⟩ (.int .i64 0)).setCell ⟨x, 2, none⟩ (.int .i64 0)).setCell ⟨x, 3, none⟩ (.int .i64 0)) := by
  have q0 := h.c0
  have q1 := h.c1
  have q2 := h.c2
  have q3 := h.c3
  have z0 := h.f0
  have z1 := h.f1
  have z2 := h.f2
  have z3 := h.f3
  clear h
  go_simp
def RmS (x : Nat) (w w' : World) : Prop := ∃ a b c d, RmAt w' x a b c d /\ Apart [x] w w'
theorem RmS.s0 (h : RmS x w w') (v : Int) : RmS x w (w'.setCell ⟨x, 0, none⟩ (.int .i64 v)) := by
  obtain ⟨a, b, c, d, h1, h2⟩ := h
  exact ⟨_, _, _, _, h1.s0 v, h2.setCell (p := ⟨x, 0, none⟩) (by simp) _⟩
theorem RmS.s1 (h : RmS x w w') (v : Int) : RmS x w (w'.setCell ⟨x, 1, none⟩ (.int .i64 v)) := by
  obtain ⟨a, b, c, d, h1, h2⟩ := h
  exact ⟨_, _, _, _, h1.s1 v, h2.setCell (p := ⟨x, 1, none⟩) (by simp) _⟩
theorem RmS.s2 (h : RmS x w w') (v : Int) : RmS x w (w'.setCell ⟨x, 2, none⟩ (.int .i64 v)) := by
  obtain ⟨a, b, c, d, h1, h2⟩ := h
  exact ⟨_, _, _, _, h1.s2 v, h2.setCell (p := ⟨x, 2, none⟩) (by simp) _⟩
theorem RmS.s3 (h : RmS x w w') (v : Int) : RmS x w (w'.setCell ⟨x, 3, none⟩ (.int .i64 v)) := by
  obtain ⟨a, b, c, d, h1, h2⟩ := h
  exact ⟨_, _, _, _, h1.s3 v, h2.setCell (p := ⟨x, 3, none⟩) (by simp) _⟩
theorem RmS.z4 (h : RmS x w w') : RmS x w ((((w'.setCell ⟨x, 0, none⟩ (.int .i64 0)).setCell ⟨x, 1, none⟩ (.int .i64 0)).setCell ⟨x, 2, none⟩ (.int .i64 0)).setCell ⟨x, 3, none⟩ (.int .i64 0)) := (((h.s0 0).s1 0).s2 0).s3 0
theorem ret_rm {fn : Func} {p t : Tmp} (h : fn.results = #[.cell p 26, .tmp t]) {tmps : Array Value} (hp : tmps.getD p undef = ptr x) (hn : RmAt w x a b c d) :
    (results fn tmps).run Tryz.prog w = .ok (.tuple #[rmV a b c d, tmps.getD t undef]) w := by
  rw [results_cell_tmp h, hp]
  simp [asAddr, Result.andThen, load_rm hn]
end
section
variable {fb rs hb : Nat} {E : TE} {w w' : World} {K : Nat -> Nat} {D : Nat -> List Int} {T : Nat -> List Rec} {f u lim : Nat}
theorem ent_room1 : ∀ (args : Array Value) (w : World), (callFunc 55 args).run Tryz.prog w = .ok (.enter 55 args) w := enters_of Tryz.func55 (by kernel_rfl) rfl
set_option maxHeartbeats 4000000 in
theorem room1_ok {b0 b1 : Nat} (g0 : w.cell? ⟨b0, 0, none⟩ = some (ptr fb)) (g1 : RmAt w b1 0 0 0 0) (hF : FsAt fb E rs hb w) (h : S8 E K D f u lim w) (ok : E.Ok) (hkk : E.kk = E.k) :
    Calls Tryz.prog 55 #[ptr b0, ptr b1] w fun e w' => e = .returned .nilIface /\ RmAt w' b1 (f : Nat) (rs : Nat) (cntN K (E.tn + 1) : Nat) (E.kk : Nat) /\ ∃ w2, Below w.heap.size w w2 /\ Apart [b1] w2 w' := by
  have kM := hidden (S8.mfree ok hkk h)
  have kL := hidden (fun (wx : World) (hx : Below w.heap.size w wx) => S8.left ok (h.more hx))
  have l0 := lt_of_cell (a := ⟨b0, 0, none⟩) g0
  have k0 := hidden (fun (wx : World) (hx : Below w.heap.size w wx) => (hx.cell (p := ⟨b0, 0, none⟩) l0).trans g0)
  have kF := hidden (fun (wx : World) (hx : Below w.heap.size w wx) => hF.below hx)
  have k1 := hidden (fun (wx : World) (hx : Below w.heap.size w wx) => g1.below hx)
  have c1 := hF.c1
  have hlt := hF.lt
  have n1 : b1 ≠ fb := by rintro rfl; have := g1.c0; rw [hF.c0] at this; cases this
  have n2 : b1 ≠ b0 := by rintro rfl; have := g1.c0; rw [g0] at this; cases this
  have n3 : fb ≠ b1 := Ne.symm n1
  have n4 : b0 ≠ b1 := Ne.symm n2
  clear hF h ok g1
  generalize ((cntN K (E.tn + 1) : Nat) : Int) = CL at *
  go_enter Tryz.func55, Tryz.ntmps55
  go_wp2_with fail
  refine (kM.out).mono ?_
  rintro ev w1 ⟨rfl, hB1⟩
  have e0 := k0.out w1 hB1
  have l1 := lt_of_cell (a := ⟨b0, 0, none⟩) e0
  have hF1 := kF.out w1 hB1
  have c2 := hF1.c2
  have hlt1 := hF1.lt
  have kL1 := hidden (kL.out w1 hB1)
  replace hB1 := hidden hB1
  clear kM kL g0 c1 hF1
  go_wp2_with fail
  refine (kL1.out).mono ?_
  rintro ev w2 ⟨rfl, hB2⟩
  have hb2 := hB1.out.trans (hB2.mono hB1.out.size)
  have hbd : Below w.heap.size w w2.drew := hb2.trans ((below_drew1 w2).mono hb2.size)
  have d0 := k0.out _ hb2
  have l2 := lt_of_cell (a := ⟨b0, 0, none⟩) d0
  have hF2 := kF.out _ hb2
  have c4 := hF2.c4
  have c5 := hF2.c5
  have hlt2 := hF2.lt
  have hR2 := k1.out _ hb2
  have r0 := hR2.c0
  have r1 := hR2.c1
  have r2 := hR2.c2
  have r3 := hR2.c3
  have z0 := hR2.f0
  have z1 := hR2.f1
  have z2 := hR2.f2
  have z3 := hR2.f3
  have lR := hR2.lt
  have hS0 := hidden (show RmS b1 w2 w2.drew from ⟨_, _, _, _, hR2.below (below_drew1 w2), Apart.of_below (below_drew1 w2)⟩)
  have kS0 := hidden (fun (wx : World) (hx : RmS b1 w2 wx) => show wx.cell? ⟨b0, 0, none⟩ = some (ptr fb) from by
    obtain ⟨_, _, _, _, -, hA⟩ := hx
    exact (hA.cell (p := ⟨b0, 0, none⟩) l2 (by simpa using n4)).trans d0)
  have kS4 := hidden (fun (wx : World) (hx : RmS b1 w2 wx) => show wx.cell? ⟨fb, 4, none⟩ = some (.int .i64 (rs : Nat)) from by
    obtain ⟨_, _, _, _, -, hA⟩ := hx
    exact (hA.cell (p := ⟨fb, 4, none⟩) hlt2 (by simpa using n3)).trans c4)
  have kS5 := hidden (fun (wx : World) (hx : RmS b1 w2 wx) => show wx.cell? ⟨fb, 5, none⟩ = some (.int .i64 (E.kk : Nat)) from by
    obtain ⟨_, _, _, _, -, hA⟩ := hx
    exact (hA.cell (p := ⟨fb, 5, none⟩) hlt2 (by simpa using n3)).trans c5)
  have hEnd := hidden (show RmAt (((((((((w2.drew.setCell ⟨b1, 0, none⟩ (.int .i64 0)).setCell ⟨b1, 1, none⟩ (.int .i64 0)).setCell ⟨b1, 2, none⟩ (.int .i64 0)).setCell ⟨b1, 3, none⟩ (.int .i64 0)).setCell ⟨b1, 0, none⟩ (.int .i64 (f : Nat))).setCell ⟨b1, 1, none⟩ (.int .i64 (rs : Nat))).setCell ⟨b1, 2, none⟩ (.int .i64 CL)).setCell ⟨b1, 3, none⟩ (.int .i64 (E.kk : Nat)))) b1 (f : Nat) (rs : Nat) CL (E.kk : Nat) /\ ∃ w3, Below w.heap.size w w3 /\ Apart [b1] w3 (((((((((w2.drew.setCell ⟨b1, 0, none⟩ (.int .i64 0)).setCell ⟨b1, 1, none⟩ (.int .i64 0)).setCell ⟨b1, 2, none⟩ (.int .i64 0)).setCell ⟨b1, 3, none⟩ (.int .i64 0)).setCell ⟨b1, 0, none⟩ (.int .i64 (f : Nat))).setCell ⟨b1, 1, none⟩ (.int .i64 (rs : Nat))).setCell ⟨b1, 2, none⟩ (.int .i64 CL)).setCell ⟨b1, 3, none⟩ (.int .i64 (E.kk : Nat)))) from
    ⟨((((((((hR2.below (below_drew1 w2)).s0 0).s1 0).s2 0).s3 0).s0 _).s1 _).s2 _).s3 _, w2, hb2, by
      obtain ⟨_, _, _, _, -, hA⟩ := (((((((hS0.out.s0 0).s1 0).s2 0).s3 0).s0 (f : Nat)).s1 (rs : Nat)).s2 CL).s3 (E.kk : Nat)
      exact hA⟩)
  clear hB2 kL1 c2 e0 l1 r0 r1 r2 r3 z0 z1 z2 z3 lR hR2 hF2 c4 c5 d0 hbd
  generalize hKKI : ((E.kk : Nat) : Int) = KKI at *
  replace hKKI := hidden hKKI
  go_upto_region 7 with fail
  refine wp_region_held_drew (S := RmS b1 w2) (by kernel_rfl) hS0.out ?_
  intro _
  generalize w2.drew = wd at *
  refine wpAnyH_take (i := 0) (v := ?_) rfl (by kernel_rfl) (by kernel_rfl) (by kernel_rfl) (fun _ _ _ h => h) (Or.inl ⟨by rfl, ?_⟩) hS0.out ?_
  rotate_left
  · intro w hw; clear hw; go_simp; try (with_reducible rfl)
  refine wpAnyH_take (i := 1) (v := ?_) rfl (by kernel_rfl) (by kernel_rfl) (by kernel_rfl) (fun _ _ _ h => h) (Or.inl ⟨by rfl, ?_⟩) hS0.out ?_
  rotate_left
  · intro w hw; have c := kS0.out _ hw; have lc := lt_of_cell (a := ⟨b0, 0, none⟩) c; clear hw; go_simp; try (with_reducible rfl)
  refine wpAnyH_take (i := 2) (v := ?_) rfl (by kernel_rfl) (by kernel_rfl) (by kernel_rfl) (fun _ _ _ h => h) (Or.inl ⟨by rfl, ?_⟩) hS0.out ?_
  rotate_left
  · intro w hw; clear hw; go_simp; try (with_reducible rfl)
  refine wpAnyH_take (i := 3) (v := ?_) rfl (by kernel_rfl) (by kernel_rfl) (by kernel_rfl) (fun _ _ _ h => h) (Or.inl ⟨by rfl, ?_⟩) hS0.out ?_
  rotate_left
  · intro w hw; clear hw; go_simp; try (with_reducible rfl)
  refine wpAnyH_take (i := 4) (v := ?_) rfl (by kernel_rfl) (by kernel_rfl) (by kernel_rfl) (fun _ _ _ h => h) (Or.inl ⟨by rfl, ?_⟩) hS0.out ?_
  rotate_left
  · intro w hw; have c := kS4.out _ hw; have lc := lt_of_cell (a := ⟨fb, 4, none⟩) c; clear hw; go_simp; try (with_reducible rfl)
  refine wpAnyH_take (i := 5) (v := ?_) rfl (by kernel_rfl) (by kernel_rfl) (by kernel_rfl) (fun _ _ _ h => h) (Or.inl ⟨by rfl, ?_⟩) hS0.out ?_
  rotate_left
  · intro w hw; clear hw; go_simp; try (with_reducible rfl)
  refine wpAnyH_take (i := 6) (v := ?_) rfl (by kernel_rfl) (by kernel_rfl) (by kernel_rfl) (fun _ _ _ h => h) (Or.inl ⟨by rfl, ?_⟩) hS0.out ?_
  rotate_left
  · intro w hw; have c := kS0.out _ hw; have lc := lt_of_cell (a := ⟨b0, 0, none⟩) c; clear hw; go_simp; try (with_reducible rfl)
  refine wpAnyH_take (i := 7) (v := ?_) rfl (by kernel_rfl) (by kernel_rfl) (by kernel_rfl) (fun _ _ _ h => h) (Or.inl ⟨by rfl, ?_⟩) hS0.out ?_
  rotate_left
  · intro w hw; clear hw; go_simp; try (with_reducible rfl)
  refine wpAnyH_take (i := 8) (v := ?_) rfl (by kernel_rfl) (by kernel_rfl) (by kernel_rfl) (fun _ _ _ h => h) (Or.inl ⟨by rfl, ?_⟩) hS0.out ?_
  rotate_left
  · intro w hw; clear hw; go_simp; try (with_reducible rfl)
  refine wpAnyH_take (i := 9) (v := ?_) rfl (by kernel_rfl) (by kernel_rfl) (by kernel_rfl) (fun _ _ _ h => h) (Or.inl ⟨by rfl, ?_⟩) hS0.out ?_
  rotate_left
  · intro w hw; have c := kS5.out _ hw; have lc := lt_of_cell (a := ⟨fb, 5, none⟩) c; clear hw; go_simp; try (with_reducible rfl)
  go_simp
  refine wpAnyH_ready (rs := [10]) (by kernel_rfl) (by simp) ?_
  refine AllReadyH.cons rfl (fun K hK => ?_) AllReadyH.nil
  have hqq := hS0.out
  obtain ⟨qa, qb, qc, qd, hq, -⟩ := hqq
  refine any_store (by rfl) rfl ⟨b1, 0, none⟩ _ (by rfl) (by rfl) _ (run_rm4 hq) ?_; clear hq
  refine hK.out _ _ (RmS.z4 hS0.out) (fun hSn1 => ?_)
  generalize ((((wd.setCell ⟨b1, 0, none⟩ (.int .i64 0)).setCell ⟨b1, 1, none⟩ (.int .i64 0)).setCell ⟨b1, 2, none⟩ (.int .i64 0)).setCell ⟨b1, 3, none⟩ (.int .i64 0)) = W1 at *
  clear hK K
  refine wpAnyH_ready (rs := [11]) (by kernel_rfl) (by simp) ?_
  refine AllReadyH.cons rfl (fun K hK => ?_) AllReadyH.nil
  go_simp
  refine hK.out _ _ hSn1 (fun _ => ?_)
  clear hK K
  go_simp
  refine wpAnyH_ready (rs := [12]) (by kernel_rfl) (by simp) ?_
  refine AllReadyH.cons rfl (fun K hK => ?_) AllReadyH.nil
  have hqq := hSn1
  obtain ⟨qa, qb, qc, qd, hq, -⟩ := hqq
  refine any_store (by rfl) rfl ⟨b1, 0, none⟩ _ (by rfl) (by rfl) _ (run_rm0 hq _) ?_; clear hq
  refine hK.out _ _ (RmS.s0 hSn1 _) (fun hSn2 => ?_)
  generalize W1.setCell ⟨b1, 0, none⟩ (.int .i64 (f : Nat)) = W2 at *
  clear hK K
  refine wpAnyH_ready (rs := [13]) (by kernel_rfl) (by simp) ?_
  refine AllReadyH.cons rfl (fun K hK => ?_) AllReadyH.nil
  go_simp
  refine hK.out _ _ hSn2 (fun _ => ?_)
  clear hK K
  go_simp
  refine wpAnyH_ready (rs := [14]) (by kernel_rfl) (by simp) ?_
  refine AllReadyH.cons rfl (fun K hK => ?_) AllReadyH.nil
  have hqq := hSn2
  obtain ⟨qa, qb, qc, qd, hq, -⟩ := hqq
  refine any_store (by rfl) rfl ⟨b1, 1, none⟩ _ (by rfl) (by rfl) _ (run_rm1 hq _) ?_; clear hq
  refine hK.out _ _ (RmS.s1 hSn2 _) (fun hSn3 => ?_)
  generalize W2.setCell ⟨b1, 1, none⟩ (.int .i64 (rs : Nat)) = W3 at *
  clear hK K
  refine wpAnyH_ready (rs := [15]) (by kernel_rfl) (by simp) ?_
  refine AllReadyH.cons rfl (fun K hK => ?_) AllReadyH.nil
  go_simp
  refine hK.out _ _ hSn3 (fun _ => ?_)
  clear hK K
  go_simp
  refine wpAnyH_ready (rs := [16]) (by kernel_rfl) (by simp) ?_
  refine AllReadyH.cons rfl (fun K hK => ?_) AllReadyH.nil
  have hqq := hSn3
  obtain ⟨qa, qb, qc, qd, hq, -⟩ := hqq
  refine any_store (by rfl) rfl ⟨b1, 2, none⟩ _ (by rfl) (by rfl) _ (run_rm2 hq _) ?_; clear hq
  refine hK.out _ _ (RmS.s2 hSn3 _) (fun hSn4 => ?_)
  generalize W3.setCell ⟨b1, 2, none⟩ (.int .i64 CL) = W4 at *
  clear hK K
  refine wpAnyH_ready (rs := [17]) (by kernel_rfl) (by simp) ?_
  refine AllReadyH.cons rfl (fun K hK => ?_) AllReadyH.nil
  go_simp
  refine hK.out _ _ hSn4 (fun _ => ?_)
  clear hK K
  go_simp
  refine wpAnyH_ready (rs := [18]) (by kernel_rfl) (by simp) ?_
  refine AllReadyH.cons rfl (fun K hK => ?_) AllReadyH.nil
  have hqq := hSn4
  obtain ⟨qa, qb, qc, qd, hq, -⟩ := hqq
  refine any_store (by rfl) rfl ⟨b1, 3, none⟩ _ (by rfl) (by rfl) _ (run_rm3 hq _) ?_; clear hq
  refine hK.out _ _ (RmS.s3 hSn4 _) (fun hSn5 => ?_)
  generalize W4.setCell ⟨b1, 3, none⟩ (.int .i64 KKI) = W5 at *
  clear hK K
  refine wpAnyH_done (by kernel_rfl) ?_ _
  go_wp2
  go_ret
  exact ⟨rfl, by rw [hKKI.out]; exact hEnd.out⟩
theorem boxesRm (w : World) (fb : Nat) : ∃ w2, ((w.alloc (Obj.cells #[ptr fb] 31)).alloc (Obj.cells #[.int .i64 0, .int .i64 0, .int .i64 0, .int .i64 0] 26)).alloc (Obj.cells #[.int .i64 0, .int .i64 0, .int .i64 0, .int .i64 0] 26) = w2 /\ Below w.heap.size w w2 /\ w2.cell? ⟨w.heap.size, 0, none⟩ = some (ptr fb) /\ RmAt w2 (w.heap.size + 1) 0 0 0 0 /\ RmAt w2 (w.heap.size + 1 + 1) 0 0 0 0 := by
  generalize e1 : w.alloc (Obj.cells #[ptr fb] 31) = W1
  have a1 : W1.cell? ⟨w.heap.size, 0, none⟩ = some (ptr fb) := by rw [<- e1]; simp
  have s1 : W1.heap.size = w.heap.size + 1 := by rw [<- e1]; simp
  have b1 : Below w.heap.size w W1 := by rw [<- e1]; exact (Below.refl _ _).alloc (Nat.le_refl _) _
  generalize e2 : W1.alloc (Obj.cells #[.int .i64 0, .int .i64 0, .int .i64 0, .int .i64 0] 26) = W2
  have a2 : RmAt W2 (w.heap.size + 1) 0 0 0 0 := by rw [<- e2, <- s1]; exact rm_new _ _ _ _ _
  have b12 : Below W1.heap.size W1 W2 := by rw [<- e2]; exact (Below.refl _ _).alloc (Nat.le_refl _) _
  have s2 : W2.heap.size = w.heap.size + 1 + 1 := by rw [<- e2]; simp [s1]
  have hBx : Below W2.heap.size W2 (W2.alloc (Obj.cells #[.int .i64 0, .int .i64 0, .int .i64 0, .int .i64 0] 26)) := (Below.refl _ _).alloc (Nat.le_refl _) _
  have b2 : Below w.heap.size w W2 := b1.trans (b12.mono b1.size)
  have a12 := (b12.cell (p := ⟨w.heap.size, 0, none⟩) (lt_of_cell a1)).trans a1
  exact ⟨_, rfl, b2.trans (hBx.mono b2.size), (hBx.cell (p := ⟨w.heap.size, 0, none⟩) (lt_of_cell a12)).trans a12, a2.below hBx, by rw [<- s2]; exact rm_new _ _ _ _ _⟩
set_option maxHeartbeats 2000000 in
theorem room_ok (h : Fsz fb rs hb E K D T f lim w) (hlim : lim <= 300000000) :
    Calls Tryz.prog 32 #[ptr fb] w fun e w' => e = .returned (.tuple #[rmV (f : Nat) (rs : Nat) (cntN K (E.tn + 1) : Nat) (E.k : Nat), .nilIface]) /\ Fsz fb rs hb E.rest K D T f (lim + 1000) w' /\ E.Turns fb w w' := by
  have hmf : ∀ (fn : Fn) (first cap : Array Value) (w : World), (Instr.makeFunc fn first cap).run Tryz.prog w = .ok (.func fn first cap) w := fun _ _ _ _ => rfl
  have hpl := h.pl
  have hah := h.s.to.lts
  have hfar := h.far
  obtain ⟨w2, hw2, hB2, g0, g1, g2⟩ := boxesRm w fb
  have l0 := lt_of_cell (a := ⟨w.heap.size, 0, none⟩) g0
  have hr := h.rest.below hB2
  have kA := room1_ok (E := E.rest) (K := K) (D := D) (f := f) (u := 0) (lim := lim) g0 g2 hr.at_ hr.s.to hpl.rest_ok hpl.kk.symm
  have hlow : ∀ k ∈ [E.d, E.g, E.mb], k < w.heap.size := fun k hk => by
    unfold TE.Ahead at hah
    simp only [List.mem_cons, List.not_mem_nil, or_false] at hk
    omega
  have kS := hidden ((step_ok (E := E.rest) (P := fun w1 => RmAt w1 (w.heap.size + 1 + 1) (f : Nat) (rs : Nat) (cntN K (E.tn + 1) : Nat) (E.kk : Nat) /\ RmAt w1 (w.heap.size + 1) 0 0 0 0 /\ w1.cell? ⟨w.heap.size, 0, none⟩ = some (ptr fb) /\ Below w.heap.size w w1) (K := K) (D := D) (f := f) (u := 0) (lim := lim) ent_room1 hr.at_ hfar hpl.rest_ok hpl.far hpl.live (by show 1 <= E.most /\ E.most <= 200; rw [hpl.most]; omega) hlim (kA.mono (R' := fun e w1 => e = .returned .nilIface /\ (RmAt w1 (w.heap.size + 1 + 1) (f : Nat) (rs : Nat) (cntN K (E.tn + 1) : Nat) (E.kk : Nat) /\ RmAt w1 (w.heap.size + 1) 0 0 0 0 /\ w1.cell? ⟨w.heap.size, 0, none⟩ = some (ptr fb) /\ Below w.heap.size w w1) /\ FsAt fb E.rest rs hb w1 /\ S8 E.rest K D f 0 lim w1) (by
    rintro e w1 ⟨rfl, hR, w3, hB3, hA3⟩
    have hb3 := hB2.trans (hB3.mono hB2.size)
    have hb1 : Below w.heap.size w w1 := hb3.trans (hA3.below (by simp; omega) hb3.size)
    have hz := h.rest.below hb1
    refine ⟨rfl, ⟨hR, (g1.below hB3).keep hA3 (by simp <;> omega), ?_, hb1⟩, hz.at_, hz.s.to⟩
    have c := (hB3.cell (p := ⟨w.heap.size, 0, none⟩) l0).trans g0
    exact (hA3.cell (p := ⟨w.heap.size, 0, none⟩) (lt_of_cell (a := ⟨w.heap.size, 0, none⟩) c) (by simp <;> omega)).trans c))))
  have hH := hidden (And.intro hpl (And.intro hfar h.tree))
  have hfbl := hidden h.at_.lt
  have hah' := hidden hah
  have hlow' := hidden hlow
  have hkk := hidden hpl.kk
  clear h hr kA g1 g2 hpl hfar hah hlow
  replace hw2 := hidden hw2
  generalize hCL : ((cntN K (E.tn + 1) : Nat) : Int) = CL at *
  go_enter Tryz.func32, Tryz.ntmps32
  go_upto_region 2 with fail
  rw [hw2.out]
  clear hw2
  go_wp2_with fail
  refine (kS.out).mono ?_
  rintro ev w4 ⟨rfl, w3, ⟨hR, hR1, hc, hb3⟩, hF4, hS4, hA4⟩
  have hA4' : Apart [E.d, E.g, E.mb] w3 w4 := hA4
  have hR4 := hR.keep hA4' (fun hm => by have := hlow'.out _ hm; omega)
  have hR5 := hR1.keep hA4' (fun hm => by have := hlow'.out _ hm; omega)
  have r0 := hR4.c0
  have r1 := hR4.c1
  have r2 := hR4.c2
  have r3 := hR4.c3
  have q0 := hR5.c0
  have q1 := hR5.c1
  have q2 := hR5.c2
  have q3 := hR5.c3
  have z0 := hR5.f0
  have z1 := hR5.f1
  have z2 := hR5.f2
  have z3 := hR5.f3
  have lR := hR4.lt
  have lQ := hR5.lt
  have hT4 : E.Turns fb w w4 := (Apart.of_below hb3).trans (hA4'.mono (fun x hx' _ => by
        simp only [List.mem_cons, List.not_mem_nil, or_false] at hx'
        rcases hx' with rfl | rfl | rfl <;> simp))
  have hAs := rm_apart w4 (w.heap.size + 1) (f : Nat) (rs : Nat) CL (E.kk : Nat)
  have hb45 : Below w.heap.size w4 (rmSet w4 (w.heap.size + 1) (f : Nat) (rs : Nat) CL (E.kk : Nat)) := hAs.below (by simp) (Nat.le_trans hb3.size hA4'.size)
  have hE := hidden (show RmAt (rmSet w4 (w.heap.size + 1) (f : Nat) (rs : Nat) CL (E.kk : Nat)) (w.heap.size + 1) (f : Nat) (rs : Nat) CL (E.kk : Nat) /\ Fsz fb rs hb E.rest K D T f (lim + 1000) (rmSet w4 (w.heap.size + 1) (f : Nat) (rs : Nat) CL (E.kk : Nat)) /\ E.Turns fb w (rmSet w4 (w.heap.size + 1) (f : Nat) (rs : Nat) CL (E.kk : Nat)) from by
    obtain ⟨q1, q2, q3⟩ := hH.out
    have hfl : fb ≠ w.heap.size + 1 := by have := hfbl.out; omega
    exact ⟨rm_stored hR5, ⟨hF4.keep hAs (by simpa using hfl), hS4.over hah'.out hb45, q1.at _ _ _ _ _, q2, q3⟩, hT4.over (Nat.le_refl _) hb45⟩)
  unfold rmSet at hE
  clear hR hR1 hc hb3 hF4 hS4 hA4 hA4' hR4 hR5 hT4 hAs hb45 kS g0 l0
  go_wp2
  (try simp only [Exit.inBlock, Exit.then])
  obtain ⟨e1, e2, e3⟩ := hE.out
  exact bodyPost_ret (ret_rm rfl rfl e1) rfl ⟨by rw [hkk.out]; rfl, e2, e3⟩
set_option maxHeartbeats 2000000 in
theorem fRoom_ok (h : Fsz fb rs hb E K D T f lim w) (hlim : lim <= 300000000) :
    Calls Tryz.prog 8 #[ptr fb] w fun e w' => e = .returned (.tuple #[rmV (f : Nat) (rs : Nat) (cntN K (E.tn + 1) : Nat) (E.k : Nat), .nilIface]) /\ Fsz fb rs hb E.rest K D T f (lim + 1000) w' /\ E.Turns fb w w' := by
  obtain ⟨w1, hw1, hB1, hN1⟩ : ∃ w1, w.alloc (Obj.cells #[.int .i64 0, .int .i64 0, .int .i64 0, .int .i64 0] 26) = w1 /\ Below w.heap.size w w1 /\ RmAt w1 w.heap.size 0 0 0 0 := ⟨_, rfl, (Below.refl _ _).alloc (Nat.le_refl _) _, rm_new _ _ _ _ _⟩
  have k := hidden (room_ok (h.below hB1) hlim)
  have kW := hidden (fun (wx : World) => wrap_nil sRoom ⟨#[]⟩ wx)
  unfold sRoom at kW
  have hah := hidden h.s.to.lts
  have hfbl := hidden h.at_.lt
  have hno := hidden (show w.heap.size ∉ [E.d, E.g, E.mb, fb] from by
    have h1 := h.s.to.lts
    have h2 := h.at_.lt
    unfold TE.Ahead at h1
    simp only [List.mem_cons, List.not_mem_nil, or_false]
    omega)
  have hBN := hidden (And.intro hB1 hN1)
  clear h hB1 hN1
  generalize hCL : ((cntN K (E.tn + 1) : Nat) : Int) = CL at *
  generalize hKI : ((E.k : Nat) : Int) = KI at *
  go_enter Tryz.func8, Tryz.ntmps8
  go_wp2_with fail
  refine (k.out).mono ?_
  rintro ev w2 ⟨rfl, hz2, hT2⟩
  have hT2' : Apart [E.d, E.g, E.mb, fb] w1 w2 := hT2
  obtain ⟨w3, hw3, hB3, hN3⟩ : ∃ w3, w2.alloc (Obj.cells #[.int .i64 (f : Nat), .int .i64 (rs : Nat), .int .i64 CL, .int .i64 KI] 26) = w3 /\ Below w2.heap.size w2 w3 /\ RmAt w3 w2.heap.size (f : Nat) (rs : Nat) CL KI := ⟨_, rfl, (Below.refl _ _).alloc (Nat.le_refl _) _, rm_new _ _ _ _ _⟩
  have hR3 := (hBN.out.2.keep hT2' hno.out).below hB3
  have n0 := hN3.c0
  have n1 := hN3.c1
  have n2 := hN3.c2
  have n3 := hN3.c3
  have ln := hN3.lt
  have r0 := hR3.c0
  have r1 := hR3.c1
  have r2 := hR3.c2
  have r3 := hR3.c3
  have z0 := hR3.f0
  have z1 := hR3.f1
  have z2 := hR3.f2
  have z3 := hR3.f3
  have lR := hR3.lt
  have hsz : w.heap.size <= w3.heap.size := Nat.le_trans hBN.out.1.size (Nat.le_trans hT2'.size hB3.size)
  have hT3 : E.Turns fb w w3 := ((Apart.of_below hBN.out.1).trans hT2').trans (Apart.of_below hB3)
  have hEnd := hidden (fun (wx : World) (hx : Below w.heap.size w3 wx) => show Fsz fb rs hb E.rest K D T f (lim + 1000) wx /\ E.Turns fb w wx from by
    have hz3 := hz2.below hB3
    exact ⟨⟨hz3.at_.keep (apart_behind hx) (not_behind hfbl.out), hz3.s.over hah.out hx, hz3.pl, hz3.far, hz3.tree⟩, hT3.over (Nat.le_refl _) hx⟩)
  have hR3' := hidden hR3
  have hw3' := hidden hw3
  clear hw3 hz2 hT2 hT2' hB3 hN3 hR3 hT3 hBN k hno
  generalize hX3 : w2.heap.size = x3 at *
  go_upto_region 2 with fail
  rw [hw3'.out]
  clear hw3'
  go_region_with (go_at_call 33; refine (kW.out _).mono ?_; rintro ev w4 ⟨rfl, hw4⟩; subst w4)
  all_goals
    go_wp2
    (try simp only [Exit.inBlock, Exit.then])
    have hst := rm_stored (a' := (f : Nat)) (b' := (rs : Nat)) (c' := CL) (d' := KI) (hR3'.out.below (below_drew1 w3))
    exact bodyPost_ret (ret_rm rfl rfl hst) rfl ⟨rfl, hEnd.out _ (((((below_drew1 w3).mono hsz).setCell (p := ⟨w.heap.size, 0, none⟩) (Nat.le_refl _) _).setCell (p := ⟨w.heap.size, 1, none⟩) (Nat.le_refl _) _).setCell (p := ⟨w.heap.size, 2, none⟩) (Nat.le_refl _) _ |>.setCell (p := ⟨w.heap.size, 3, none⟩) (Nat.le_refl _) _)⟩
end
end Go.Proofs.YtpofmiecjkghgaaGreatDoor
