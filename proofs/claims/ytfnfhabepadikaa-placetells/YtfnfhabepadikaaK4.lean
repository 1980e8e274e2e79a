/- rest: what r leaves of a range. -/
import Derived.Test.YtfnfhabepadikaaK3
namespace Go.Proofs.Ytfnfhabepadikaa
open Go Go.RowKit
set_option maxRecDepth 100000

theorem RgOwn.push1 {base : Nat} {w w1 : World} {v : Value} {L : List Rg} (h : RgOwn base w v L) (hw : Below w.heap.size w w1) (hb : base ≤ w.heap.size) (hn : L.length < 1000000) (x y : Int) :
    ∃ v' w', (Builtin.append_ #[22, 22] 22 #[v, .slice (some ⟨w1.heap.size, 0, none⟩) 1 1]).run Try.prog (w1.alloc (Obj.cells #[Value.int .i64 x, Value.int .i64 y] 25)) = .ok v' w' ∧ RgOwn base w' v' (L ++ [(x, y)]) ∧ Below base w w' ∧ w1.heap.size ≤ w'.heap.size ∧ ∀ b, b < w1.heap.size → some b ≠ v.ownBlock → w'.heap[b]? = w1.heap[b]? := by
  obtain ⟨v', w', h1, h2, h3, h4⟩ := ((h.below hw).below (box_new w1 (Obj.cells #[Value.int .i64 x, Value.int .i64 y] 25))).push (x, y) ⟨w1.heap.size, 0, none⟩ 1 (by simp) (by simp [Addr.add]) hn (by have := hw.size; simp; omega) 22
  have hs := h3.size
  rw [show (w1.alloc (Obj.cells #[Value.int .i64 x, Value.int .i64 y] 25)).heap.size = w1.heap.size + 1 by simp] at hs
  refine ⟨v', w', h1, h2, ?_, by omega, fun b hb' hne => (h4 b (by simp; omega) hne).trans ((box_new w1 _).block b hb')⟩
  exact (hw.mono hb).trans (((box_new w1 _).mono (Nat.le_trans hb hw.size)).trans h3)
theorem Box.heap {w w' : World} {b : Nat} {x y : Int} (h : Box w b x y) (hh : w'.heap[b]? = w.heap[b]?) : Box w' b x y :=
  ⟨(cell_heap hh 0).trans h.c0, (cell_heap hh 1).trans h.c1, fun j => (frozen_heap hh j).trans (h.fz j)⟩
theorem RgOwn.fresh {base : Nat} {w : World} {v : Value} {L : List Rg} (h : RgOwn base w v L) {b : Nat} (hb : w.heap.size ≤ b) : some b ≠ v.ownBlock := fun e => by have := h.own_lt e.symm; omega
/-- Two boxes, one behind the other. -/
theorem box2 (w : World) (x y p q : Int) : Box ((w.alloc (Obj.cells #[Value.int .i64 x, Value.int .i64 y] 25)).alloc (Obj.cells #[Value.int .i64 p, Value.int .i64 q] 25)) w.heap.size x y ∧ Box ((w.alloc (Obj.cells #[Value.int .i64 x, Value.int .i64 y] 25)).alloc (Obj.cells #[Value.int .i64 p, Value.int .i64 q] 25)) (w.heap.size + 1) p q ∧ Below w.heap.size w ((w.alloc (Obj.cells #[Value.int .i64 x, Value.int .i64 y] 25)).alloc (Obj.cells #[Value.int .i64 p, Value.int .i64 q] 25)) :=
  ⟨(box_at w x y).below (box_new _ _), by have := box_at (w.alloc (Obj.cells #[Value.int .i64 x, Value.int .i64 y] 25)) p q; simpa using this, (box_new w _).trans ((box_new _ _).mono (box_new w _).size)⟩
set_option maxHeartbeats 2000000 in
theorem rest_ahead (base : Nat) (L : List Rg) (x y p q : Int) (w : World) (v : Value) (hv : RgOwn base w v L) (hb : base ≤ w.heap.size) (hl : L.length < 1000000) (h2 : q ≤ x) : Calls Try.prog 35 #[v, .agg #[.int .i64 x, .int .i64 y], .agg #[.int .i64 p, .int .i64 q]] w fun e w' => (∃ v, e = .returned v ∧ RgOwn base w' v (L ++ [(x, y)])) ∧ Below base w w' := by
  have hpush := hidden (fun (w1 : World) (hw : Below w.heap.size w w1) => hv.push1 hw hb hl x y)
  obtain ⟨b1, b2, hB⟩ := box2 w x y p q
  go_enter Try.func35, Try.ntmps35
  go_upto_region 1 with fail
  generalize (w.alloc (Obj.cells #[Value.int .i64 x, Value.int .i64 y] 25)).alloc (Obj.cells #[Value.int .i64 p, Value.int .i64 q] 25) = w1 at b1 b2 hB ⊢
  obtain ⟨v', w', hrun, hown, hbel, -, -⟩ := hpush.out w1 hB
  have c0 := b1.c0
  have c1 := b1.c1
  have d0 := b2.c0
  have d1 := b2.c1
  replace hrun := hidden hrun
  have hE := hidden (And.intro hown hbel)
  clear hpush hown hbel b1 b2 hB hv hb hl
  go_wp2_with (at_builtin; refine wpList_append_eq _ _ 22 rfl _ _ v' w' rfl rfl hrun.out rfl ?_)
  go_ret
  exact ⟨⟨_, rfl, hE.out.1⟩, hE.out.2⟩
set_option maxHeartbeats 2000000 in
theorem rest_behind (base : Nat) (L : List Rg) (x y p q : Int) (w : World) (v : Value) (hv : RgOwn base w v L) (hb : base ≤ w.heap.size) (hl : L.length < 1000000) (h1 : ¬ q ≤ x) (h2 : y ≤ p) : Calls Try.prog 35 #[v, .agg #[.int .i64 x, .int .i64 y], .agg #[.int .i64 p, .int .i64 q]] w fun e w' => (∃ v, e = .returned v ∧ RgOwn base w' v (L ++ [(x, y)])) ∧ Below base w w' := by
  have hpush := hidden (fun (w1 : World) (hw : Below w.heap.size w w1) => hv.push1 hw hb hl x y)
  obtain ⟨b1, b2, hB⟩ := box2 w x y p q
  go_enter Try.func35, Try.ntmps35
  go_upto_region 1 with fail
  generalize (w.alloc (Obj.cells #[Value.int .i64 x, Value.int .i64 y] 25)).alloc (Obj.cells #[Value.int .i64 p, Value.int .i64 q] 25) = w1 at b1 b2 hB ⊢
  obtain ⟨v', w', hrun, hown, hbel, -, -⟩ := hpush.out w1 hB
  have c0 := b1.c0
  have c1 := b1.c1
  have d0 := b2.c0
  have d1 := b2.c1
  replace hrun := hidden hrun
  have hE := hidden (And.intro hown hbel)
  clear hpush hown hbel b1 b2 hB hv hb hl
  go_wp2_with (at_builtin; refine wpList_append_eq _ _ 22 rfl _ _ v' w' rfl rfl hrun.out rfl ?_)
  go_ret
  exact ⟨⟨_, rfl, hE.out.1⟩, hE.out.2⟩
set_option maxHeartbeats 2000000 in
theorem rest_tail (base : Nat) (L : List Rg) (x y p q : Int) (w : World) (v : Value) (hv : RgOwn base w v L) (hb : base ≤ w.heap.size) (hl : L.length < 1000000) (h1 : ¬ q ≤ x) (h2 : ¬ y ≤ p) (h3 : ¬ x < p) (h4 : q < y) : Calls Try.prog 35 #[v, .agg #[.int .i64 x, .int .i64 y], .agg #[.int .i64 p, .int .i64 q]] w fun e w' => (∃ v, e = .returned v ∧ RgOwn base w' v (L ++ [(q, y)])) ∧ Below base w w' := by
  have hpush := hidden (fun (w1 : World) (hw : Below w.heap.size w w1) => hv.push1 hw hb hl q y)
  obtain ⟨b1, b2, hB⟩ := box2 w x y p q
  go_enter Try.func35, Try.ntmps35
  go_upto_region 1 with fail
  generalize (w.alloc (Obj.cells #[Value.int .i64 x, Value.int .i64 y] 25)).alloc (Obj.cells #[Value.int .i64 p, Value.int .i64 q] 25) = w1 at b1 b2 hB ⊢
  obtain ⟨v', w', hrun, hown, hbel, -, -⟩ := hpush.out w1 hB
  have c0 := b1.c0
  have c1 := b1.c1
  have d0 := b2.c0
  have d1 := b2.c1
  replace hrun := hidden hrun
  have hE := hidden (And.intro hown hbel)
  clear hpush hown hbel b1 b2 hB hv hb hl
  go_wp2_with (at_builtin; refine wpList_append_eq _ _ 22 rfl _ _ v' w' rfl rfl hrun.out rfl ?_)
  go_ret
  exact ⟨⟨_, rfl, hE.out.1⟩, hE.out.2⟩
set_option maxHeartbeats 2000000 in
theorem rest_head (base : Nat) (L : List Rg) (x y p q : Int) (w : World) (v : Value) (hv : RgOwn base w v L) (hb : base ≤ w.heap.size) (hl : L.length < 1000000) (h1 : ¬ q ≤ x) (h2 : ¬ y ≤ p) (h3 : x < p) (h4 : ¬ q < y) : Calls Try.prog 35 #[v, .agg #[.int .i64 x, .int .i64 y], .agg #[.int .i64 p, .int .i64 q]] w fun e w' => (∃ v, e = .returned v ∧ RgOwn base w' v (L ++ [(x, p)])) ∧ Below base w w' := by
  have hpush := hidden (fun (w1 : World) (hw : Below w.heap.size w w1) => hv.push1 hw hb hl x p)
  obtain ⟨b1, b2, hB⟩ := box2 w x y p q
  go_enter Try.func35, Try.ntmps35
  go_upto_region 1 with fail
  generalize (w.alloc (Obj.cells #[Value.int .i64 x, Value.int .i64 y] 25)).alloc (Obj.cells #[Value.int .i64 p, Value.int .i64 q] 25) = w1 at b1 b2 hB ⊢
  obtain ⟨v', w', hrun, hown, hbel, -, -⟩ := hpush.out w1 hB
  have c0 := b1.c0
  have c1 := b1.c1
  have d0 := b2.c0
  have d1 := b2.c1
  replace hrun := hidden hrun
  have hE := hidden (And.intro hown hbel)
  clear hpush hown hbel b1 b2 hB hv hb hl
  go_wp2_with (at_builtin; refine wpList_append_eq _ _ 22 rfl _ _ v' w' rfl rfl hrun.out rfl ?_)
  go_ret
  exact ⟨⟨_, rfl, hE.out.1⟩, hE.out.2⟩
set_option maxHeartbeats 2000000 in
theorem rest_none (base : Nat) (L : List Rg) (x y p q : Int) (w : World) (v : Value) (hv : RgOwn base w v L) (hb : base ≤ w.heap.size) (h1 : ¬ q ≤ x) (h2 : ¬ y ≤ p) (h3 : ¬ x < p) (h4 : ¬ q < y) : Calls Try.prog 35 #[v, .agg #[.int .i64 x, .int .i64 y], .agg #[.int .i64 p, .int .i64 q]] w fun e w' => (∃ v, e = .returned v ∧ RgOwn base w' v L) ∧ Below base w w' := by
  obtain ⟨b1, b2, hB⟩ := box2 w x y p q
  go_enter Try.func35, Try.ntmps35
  go_upto_region 1 with fail
  generalize (w.alloc (Obj.cells #[Value.int .i64 x, Value.int .i64 y] 25)).alloc (Obj.cells #[Value.int .i64 p, Value.int .i64 q] 25) = w1 at b1 b2 hB ⊢
  have c0 := b1.c0
  have c1 := b1.c1
  have d0 := b2.c0
  have d1 := b2.c1
  have hE := hidden (And.intro (hv.below hB) (hB.mono hb))
  clear b1 b2 hB hv hb
  go_wp2
  go_ret
  exact ⟨⟨_, rfl, hE.out.1⟩, hE.out.2⟩
set_option maxHeartbeats 4000000 in
theorem rest_two (base : Nat) (L : List Rg) (x y p q : Int) (w : World) (v : Value) (hv : RgOwn base w v L) (hb : base ≤ w.heap.size) (hl : L.length < 900000) (h1 : ¬ q ≤ x) (h2 : ¬ y ≤ p) (h3 : x < p) (h4 : q < y) : Calls Try.prog 35 #[v, .agg #[.int .i64 x, .int .i64 y], .agg #[.int .i64 p, .int .i64 q]] w fun e w' => (∃ v, e = .returned v ∧ RgOwn base w' v (L ++ [(x, p), (q, y)])) ∧ Below base w w' := by
  have hpush := hidden (fun (w1 : World) (hw : Below w.heap.size w w1) => hv.push1 hw hb (by omega) x p)
  obtain ⟨b1, b2, hB⟩ := box2 w x y p q
  go_enter Try.func35, Try.ntmps35
  go_upto_region 1 with fail
  generalize (w.alloc (Obj.cells #[Value.int .i64 x, Value.int .i64 y] 25)).alloc (Obj.cells #[Value.int .i64 p, Value.int .i64 q] 25) = w1 at b1 b2 hB ⊢
  obtain ⟨v', w', hrun, hown, hbel, hsz, hoth⟩ := hpush.out w1 hB
  have c0 := b1.c0
  have c1 := b1.c1
  have d0 := b2.c0
  have d1 := b2.c1
  have k1 := b1.heap (hoth w.heap.size b1.lt (hv.fresh (Nat.le_refl _)))
  have k2 := b2.heap (hoth (w.heap.size + 1) b2.lt (hv.fresh (by omega)))
  have e0 := k1.c0
  have e1 := k1.c1
  have g0 := k2.c0
  have g1 := k2.c1
  obtain ⟨v2, w2, hrun2, hown2, hbel2, -, -⟩ := hown.push1 (Below.refl _ _) (by have := hB.size; omega) (by simp; omega) q y
  replace hrun := hidden hrun
  replace hrun2 := hidden hrun2
  have hE := hidden (show RgOwn base w2 v2 (L ++ [(x, p), (q, y)]) ∧ Below base w w2 from ⟨by have := hown2; rwa [List.append_assoc] at this, hbel.trans hbel2⟩)
  clear hpush hown hbel b1 b2 hB hv hb hl hown2 hbel2 hoth hsz k1 k2
  go_wp2_with (at_builtin; first
    | refine wpList_append_eq _ _ 22 rfl _ _ v' w' rfl rfl hrun.out rfl ?_
    | refine wpList_append_eq _ _ 22 rfl _ _ v2 w2 rfl rfl hrun2.out rfl ?_)
  go_ret
  exact ⟨⟨_, rfl, hE.out.1⟩, hE.out.2⟩
theorem rest_calls (base : Nat) (L : List Rg) (a r : Rg) (w : World) (v : Value) (hv : RgOwn base w v L) (hb : base ≤ w.heap.size) (hl : L.length < 900000) (ha : a.1 < a.2) (hr : r.1 < r.2) : Calls Try.prog 35 #[v, rv a, rv r] w fun e w' => (∃ v, e = .returned v ∧ RgOwn base w' v (L ++ restP a r)) ∧ Below base w w' := by
  obtain ⟨x, y⟩ := a
  obtain ⟨p, q⟩ := r
  dsimp only at ha hr
  unfold restP rv
  dsimp only
  by_cases h1 : q ≤ x
  · rw [if_neg (by omega), if_pos (by omega), show max x q = x by omega]
    exact rest_ahead base L x y p q w v hv hb (by omega) h1
  by_cases h2 : y ≤ p
  · rw [if_pos (by omega), if_neg (by omega), show min y p = y by omega, List.append_nil]
    exact rest_behind base L x y p q w v hv hb (by omega) h1 h2
  by_cases h3 : x < p <;> by_cases h4 : q < y
  · rw [if_pos (by omega), if_pos (by omega), show min y p = p by omega, show max x q = q by omega]
    exact rest_two base L x y p q w v hv hb (by omega) h1 h2 h3 h4
  · rw [if_pos (by omega), if_neg (by omega), show min y p = p by omega, List.append_nil]
    exact rest_head base L x y p q w v hv hb (by omega) h1 h2 h3 h4
  · rw [if_neg (by omega), if_pos (by omega), show max x q = q by omega]
    exact rest_tail base L x y p q w v hv hb (by omega) h1 h2 h3 h4
  · rw [if_neg (by omega), if_neg (by omega), List.append_nil, List.append_nil]
    exact rest_none base L x y p q w v hv hb h1 h2 h3 h4
end Go.Proofs.Ytfnfhabepadikaa
