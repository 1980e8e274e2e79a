/- join: a range behind a clean list. -/
import Derived.Test.YtfnfhabepadikaaK2
namespace Go.Proofs.Ytfnfhabepadikaa
open Go Go.RowKit
set_option maxRecDepth 100000

set_option maxHeartbeats 2000000 in
theorem join_nil (base : Nat) (a : Rg) (w : World) (hb : base ≤ w.heap.size) : Calls Try.prog 34 #[.slice none 0 0, rv a] w fun e w' => (∃ v, e = .returned v ∧ RgOwn base w' v [a]) ∧ Below base w w' := by
  obtain ⟨x, y⟩ := a
  unfold rv
  dsimp only
  have hpush := hidden (fun (w1 : World) (hw : w.heap.size ≤ w1.heap.size) => (RgOwn.nil base (w1.alloc (Obj.cells #[Value.int .i64 x, Value.int .i64 y] 25))).push (x, y) ⟨w1.heap.size, 0, none⟩ 1 (by simp) (by simp [Addr.add]) (by simp) (by simp; omega) 22)
  go_enter Try.func34, Try.ntmps34
  go_upto_region 2 with fail
  go_quiet (fail)
  have hx := hidden ((box_at w x y).below (bdN _ nq))
  have hB := hidden ((box_new w (Obj.cells #[Value.int .i64 x, Value.int .i64 y] 25)).trans ((bdN _ nq).mono (box_new w _).size))
  generalize (w.alloc (Obj.cells #[Value.int .i64 x, Value.int .i64 y] 25)).drewN nq = w1 at hx hB ⊢
  obtain ⟨v', w', hrun, hown, hbel, -⟩ := hpush.out w1 hB.out.size
  have c0 := hx.out.c0
  have c1 := hx.out.c1
  have hE := hidden (show RgOwn base w' v' [(x, y)] ∧ Below base w w' from ⟨hown, (hB.out.mono hb).trans (((box_new w1 _).mono (Nat.le_trans hb hB.out.size)).trans hbel)⟩)
  replace hrun := hidden hrun
  clear hpush hown hbel hx hB
  go_wp2_with (at_builtin; refine wpList_append_eq _ _ 22 rfl _ _ v' w' rfl rfl hrun.out rfl ?_)
  go_ret
  exact ⟨⟨_, rfl, hE.out.1⟩, hE.out.2⟩

set_option maxHeartbeats 4000000 in
theorem join_far (base : Nat) (M : List Rg) (b a : Rg) (w : World) (v : Value) (hv : RgOwn base w v (M ++ [b])) (hb : base ≤ w.heap.size) (hl : M.length < 10000) (hlt : b.2 < a.1) : Calls Try.prog 34 #[v, rv a] w fun e w' => (∃ v, e = .returned v ∧ RgOwn base w' v ((M ++ [b]) ++ [a])) ∧ Below base w w' := by
  obtain ⟨x, y⟩ := a
  obtain ⟨p, q⟩ := b
  unfold rv
  dsimp only at hlt ⊢
  obtain ⟨g, cap, rfl, hcap, hbg, hgl, -, hc⟩ := hv.lt (by simp)
  have hc1 := (hc M.length (p, q) (by simp)).2
  have hll : (M ++ [((p, q) : Rg)]).length = M.length + 1 := by simp
  rw [hll] at hcap hv ⊢
  generalize hLL : M ++ [((p, q) : Rg)] = L at *
  generalize M.length = m at *
  have hpush := hidden (fun (w1 : World) (hw : Below w.heap.size w w1) => ((hv.below hw).below (box_new w1 (Obj.cells #[Value.int .i64 x, Value.int .i64 y] 25))).push (x, y) ⟨w1.heap.size, 0, none⟩ 1 (by simp) (by simp [Addr.add]) (by omega) (by have := hw.size; simp; omega) 22)
  have d1 : (w.alloc (Obj.cells #[Value.int .i64 x, Value.int .i64 y] 25)).cell? ⟨g, m * 2 + 1, none⟩ = some (.int .i64 q) := ((box_new w _).cell (p := ⟨g, m * 2 + 1, none⟩) hgl).trans hc1
  replace hv := hidden hv
  replace hLL := hidden hLL
  replace hll := hidden hll
  clear hc hc1
  have m0 : ¬ (m : Int) < 0 := by omega
  have m1 : (m : Int) < (m : Int) + 1 := by omega
  go_enter Try.func34, Try.ntmps34
  go_upto_region 2 with fail
  go_quiet (fail)
  have hx := hidden ((box_at w x y).below (bdN _ nq))
  have hB := hidden ((box_new w (Obj.cells #[Value.int .i64 x, Value.int .i64 y] 25)).trans ((bdN _ nq).mono (box_new w _).size))
  clear d1
  generalize (w.alloc (Obj.cells #[Value.int .i64 x, Value.int .i64 y] 25)).drewN nq = w1 at hx hB ⊢
  obtain ⟨v', w', hrun, hown, hbel, -⟩ := hpush.out w1 hB.out
  have c0 := hx.out.c0
  have c1 := hx.out.c1
  have hE := hidden (show RgOwn base w' v' (L ++ [(x, y)]) ∧ Below base w w' from ⟨hown, (hB.out.mono hb).trans (((box_new w1 _).mono (Nat.le_trans hb hB.out.size)).trans hbel)⟩)
  replace hrun := hidden hrun
  clear hpush hown hbel hx hB hcap hbg hgl
  go_wp2_with (at_builtin; refine wpList_append_eq _ _ 22 rfl _ _ v' w' rfl rfl hrun.out rfl ?_)
  go_ret
  exact ⟨⟨_, rfl, hE.out.1⟩, hE.out.2⟩
set_option maxHeartbeats 4000000 in
theorem join_near (base : Nat) (M : List Rg) (b a : Rg) (w : World) (v : Value) (hv : RgOwn base w v (M ++ [b])) (hb : base ≤ w.heap.size) (hl : M.length < 10000) (hlt : ¬ b.2 < a.1) : Calls Try.prog 34 #[v, rv a] w fun e w' => (∃ v, e = .returned v ∧ RgOwn base w' v (M ++ [(b.1, max b.2 a.2)])) ∧ Below base w w' := by
  obtain ⟨x, y⟩ := a
  obtain ⟨p, q⟩ := b
  unfold rv
  dsimp only at hlt ⊢
  obtain ⟨g, cap, rfl, hcap, hbg, hgl, hfz, hc⟩ := hv.lt (by simp)
  have hc1 := (hc M.length (p, q) (by simp)).2
  have hll : (M ++ [((p, q) : Rg)]).length = M.length + 1 := by simp
  have hget : (M ++ [((p, q) : Rg)])[M.length]? = some (p, q) := by simp
  have hset : (M ++ [((p, q) : Rg)]).set M.length (p, max q y) = M ++ [(p, max q y)] := by simp
  rw [hll] at hcap hv ⊢
  generalize hLL : M ++ [((p, q) : Rg)] = L at *
  generalize hMM : M ++ [((p, max q y) : Rg)] = L2 at *
  generalize M.length = m at *
  generalize hmx : max q y = z at *
  have hstore := hidden (fun (w1 : World) (hw : Below w.heap.size w w1) => (show RgOwn base (w1.setCell ⟨g, m * 2 + 1, none⟩ (.int .i64 z)) (.slice (some ⟨g, 0, none⟩) (m + 1) cap) L2 ∧ Below base w (w1.setCell ⟨g, m * 2 + 1, none⟩ (.int .i64 z)) from
    ⟨hset ▸ (hv.below hw).setTo (hll.symm) hget z, (hw.mono hb).setCell (p := ⟨g, m * 2 + 1, none⟩) hbg _⟩))
  have d1 : (w.alloc (Obj.cells #[Value.int .i64 x, Value.int .i64 y] 25)).cell? ⟨g, m * 2 + 1, none⟩ = some (.int .i64 q) := ((box_new w _).cell (p := ⟨g, m * 2 + 1, none⟩) hgl).trans hc1
  have d2 : (w.alloc (Obj.cells #[Value.int .i64 x, Value.int .i64 y] 25)).frozen? ⟨g, m * 2 + 1, none⟩ = false := (World.frozen?_of_block (w := w) ((box_new w _).block g hgl)).trans (hfz _)
  replace hv := hidden hv
  replace hLL := hidden hLL
  replace hMM := hidden hMM
  replace hll := hidden hll
  replace hset := hidden hset
  replace hget := hidden hget
  clear hc hc1 hfz
  have m0 : ¬ (m : Int) < 0 := by omega
  have m1 : (m : Int) < (m : Int) + 1 := by omega
  go_enter Try.func34, Try.ntmps34
  go_upto_region 2 with fail
  go_quiet (fail)
  have hx := hidden ((box_at w x y).below (bdN _ nq))
  have hB := hidden ((box_new w (Obj.cells #[Value.int .i64 x, Value.int .i64 y] 25)).trans ((bdN _ nq).mono (box_new w _).size))
  have e1 : ((w.alloc (Obj.cells #[Value.int .i64 x, Value.int .i64 y] 25)).drewN nq).cell? ⟨g, m * 2 + 1, none⟩ = some (.int .i64 q) := d1
  have e2 : ((w.alloc (Obj.cells #[Value.int .i64 x, Value.int .i64 y] 25)).drewN nq).frozen? ⟨g, m * 2 + 1, none⟩ = false := d2
  clear d1 d2
  generalize (w.alloc (Obj.cells #[Value.int .i64 x, Value.int .i64 y] 25)).drewN nq = w1 at hx hB e1 e2 ⊢
  have c0 := hx.out.c0
  have c1 := hx.out.c1
  have hE := hidden (show RgOwn base (w1.setCell ⟨g, m * 2 + 1, none⟩ (.int .i64 z)).drew (.slice (some ⟨g, 0, none⟩) (m + 1) cap) L2 ∧ Below base w (w1.setCell ⟨g, m * 2 + 1, none⟩ (.int .i64 z)).drew from ⟨(hstore.out w1 hB.out).1.below ((Below.refl _ _).drew), (hstore.out w1 hB.out).2.drew⟩)
  have hz : (if q < y then y else q) = z := by rw [← hmx]; split <;> omega
  have hgl1 : g < w1.heap.size := Nat.lt_of_lt_of_le hgl hB.out.size
  clear hstore hx hB hcap hbg hgl hb hl
  replace hz := hidden hz
  replace hmx := hidden hmx
  go_upto_region 4 with fail
  go_region
  rw [hz.out]
  go_wp2
  go_ret
  exact ⟨⟨_, rfl, hE.out.1⟩, hE.out.2⟩
theorem join_calls (base : Nat) (L : List Rg) (a : Rg) (w : World) (v : Value) (hv : RgOwn base w v L) (h0 : L = [] → v = .slice none 0 0) (hb : base ≤ w.heap.size) (hl : L.length ≤ 10000) : Calls Try.prog 34 #[v, rv a] w fun e w' => (∃ v, e = .returned v ∧ RgOwn base w' v (joinL L a)) ∧ Below base w w' := by
  rcases List.eq_nil_or_concat L with rfl | ⟨M, b, rfl⟩
  · rw [h0 rfl]; exact join_nil base a w hb
  · rw [List.concat_eq_append] at *
    rw [joinL_snoc]
    have : M.length < 10000 := by simp at hl; omega
    split
    · rename_i h; exact join_far base M b a w v hv hb this h
    · rename_i h; exact join_near base M b a w v hv hb this h
theorem joinL_ne (L : List Rg) (a : Rg) : joinL L a ≠ [] := by
  rcases List.eq_nil_or_concat L with rfl | ⟨M, b, rfl⟩
  · simp [joinL_nil]
  · rw [List.concat_eq_append, joinL_snoc]; split <;> simp
theorem joinL_len (L : List Rg) (a : Rg) : (joinL L a).length ≤ L.length + 1 := by
  rcases List.eq_nil_or_concat L with rfl | ⟨M, b, rfl⟩
  · simp [joinL_nil]
  · rw [List.concat_eq_append, joinL_snoc]; split <;> simp
end Go.Proofs.Ytfnfhabepadikaa
