/- Lists of numbers of one's own; alloc's All and Taken. -/
import Derived.Test.YtildpgingcmfcaaGreatDoorAmB
import Derived.Test.YtildpgingcmfcaaGreatDoorCbA
import Derived.Deep.RegionHeld
import Derived.Laws.AppendOwnNone
namespace Go.Proofs.YtildpgingcmfcaaGreatDoor
open Go.RowKit Go.Extern.Stop Go.Stop Go.Extern Go.Maps Go.Sort Go.Shelf
set_option maxRecDepth 100000

/-- A list of numbers of the statement's own. -/
structure Kept (base : Nat) (w : World) (v : Value) (ks : List Int) : Prop where
  row : w.ownsRow base 3 1 v ks.length (ks.map encZ)
theorem Kept.nil (base : Nat) (w : World) : Kept base w (.slice none 0 0) [] := ⟨World.ownsRow_nil w base _ _⟩
theorem Kept.keep {base : Nat} {w w' : World} {v : Value} {ks : List Int} {bs : List Nat} (h : Kept base w v ks) (ha : Apart bs w w') (hb : ∀ k ∈ bs, k < base) : Kept base w' v ks := by
  refine ⟨h.row.1, ?_⟩
  rcases h.row.2 with h0 | ⟨g, cap, cur, hv, h1, hh, rest⟩
  · exact Or.inl h0
  · have hlt : g < w.heap.size := by
      rcases Nat.lt_or_ge g w.heap.size with h | h
      · exact h
      · rw [Array.getElem?_eq_none h] at hh; cases hh
    exact Or.inr ⟨g, cap, cur, hv, h1, (ha.block g hlt (fun hm => absurd (hb g hm) (by omega))).trans hh, rest⟩
theorem Kept.below {base : Nat} {w w' : World} {v : Value} {ks : List Int} (h : Kept base w v ks) (hb : Below w.heap.size w w') : Kept base w' v ks := h.keep (Apart.of_below (bs := []) hb) (by simp)
/-- It as it lies. -/
theorem Kept.form {base : Nat} {w : World} {v : Value} {ks : List Int} (h : Kept base w v ks) : ∃ a cap, v = .slice a ks.length cap ∧ (ks ≠ [] → ∃ b, a = some ⟨b, 0, none⟩ ∧ base ≤ b ∧ b < w.heap.size ∧ ∀ k, k < ks.length → w.cell? ⟨b, k, none⟩ = some (.int .i64 (ks.getD k 0))) := by
  rcases h.row.2 with ⟨rfl, h0⟩ | ⟨g', cap', cur, rfl, h1, hh, h2, h3, h4, h5⟩
  · exact ⟨none, 0, by rw [h0], fun e => absurd (List.length_eq_zero_iff.1 h0) e⟩
  · refine ⟨_, cap', rfl, fun _ => ⟨g', rfl, h1, ?_, fun k hk => ?_⟩⟩
    · rcases Nat.lt_or_ge g' w.heap.size with h | h
      · exact h
      · rw [Array.getElem?_eq_none h] at hh; cases hh
    · have hc := h.row.cellAt k (by omega)
      rw [hc]
      simp [List.getD, hk, encZ]
set_option maxHeartbeats 1000000 in
/-- Two lists of the same numbers. -/
theorem same_calls {b1 b2 : Nat} {w : World} {v1 v2 : Value} {ks : List Int} (h1 : Kept b1 w v1 ks) (h2 : Kept b2 w v2 ks) (hl : ks.length ≤ 1000) :
    Calls Tryz.prog 16 #[v1, v2] w fun e w' => e = .returned (.bool true) ∧ Below w.heap.size w w' := by
  obtain ⟨a1, c1, rfl, f1⟩ := h1.form
  obtain ⟨a2, c2, rfl, f2⟩ := h2.form
  replace f1 := hidden f1
  replace f2 := hidden f2
  go_enter Tryz.func16, Tryz.ntmps16
  go_wp2_with fail
  go_loopg [5] ks.length (fun gk q wr => ∃ k : Nat, k ≤ ks.length ∧ gk = ks.length - k ∧ q = .int .i64 k ∧ Hid (Below w.heap.size w wr))
  case atStart => exact ⟨0, by omega, rfl, rfl, hidden (Below.refl _ _)⟩
  case round =>
    obtain ⟨k, hk, hgk, rfl, hI⟩ := hrel
    replace hgk := hidden hgk
    by_cases hlt : k < ks.length
    · have hlt2 : (k : Int) < (ks.length : Int) := by omega
      have hne : ks ≠ [] := by intro e; rw [e] at hlt; simp at hlt
      obtain ⟨b1, rfl, -, l1, g1⟩ := f1.out hne
      obtain ⟨b2, rfl, -, l2, g2⟩ := f2.out hne
      have hS0 : Below w.heap.size w wr.drew := hI.out.drew
      have k1 := hidden (fun wx (hx : Below w.heap.size w wx) => (hx.cell (p := ⟨b1, k, none⟩) l1).trans (g1 k hlt))
      have k2 := hidden (fun wx (hx : Below w.heap.size w wx) => (hx.cell (p := ⟨b2, k, none⟩) l2).trans (g2 k hlt))
      generalize ks.getD k 0 = x at k1 k2
      clear g1 g2 hne hI
      go_upto_region 6 with fail
      refine wp_region_held_drew (S := fun w' => Below w.heap.size w w') (by kernel_rfl) hS0 ?_
      intro _
      refine wpAnyH_take (i := 0) (v := ?_) rfl (by kernel_rfl) (by kernel_rfl) (by kernel_rfl) (fun _ _ _ h => h) (Or.inl ⟨by rfl, ?_⟩) hS0 ?_
      rotate_left
      · intro w hw; clear hw; go_simp; try (with_reducible rfl)
      refine wpAnyH_take (i := 1) (v := ?_) rfl (by kernel_rfl) (by kernel_rfl) (by kernel_rfl) (fun _ _ _ h => h) (Or.inl ⟨by rfl, ?_⟩) hS0 ?_
      rotate_left
      · intro w hw; clear hw; go_simp; try (with_reducible rfl)
      refine wpAnyH_take (i := 2) (v := ?_) rfl (by kernel_rfl) (by kernel_rfl) (by kernel_rfl) (fun _ _ _ h => h) (Or.inl ⟨by rfl, ?_⟩) hS0 ?_
      rotate_left
      · intro w hw; clear hw; go_simp; try (with_reducible rfl)
      refine wpAnyH_take (i := 3) (v := ?_) rfl (by kernel_rfl) (by kernel_rfl) (by kernel_rfl) (fun _ _ _ h => h) (Or.inl ⟨by rfl, ?_⟩) hS0 ?_
      rotate_left
      · intro w hw; have e1 := k1.out _ hw; clear hw; go_simp; try (with_reducible rfl)
      refine wpAnyH_take (i := 4) (v := ?_) rfl (by kernel_rfl) (by kernel_rfl) (by kernel_rfl) (fun _ _ _ h => h) (Or.inl ⟨by rfl, ?_⟩) hS0 ?_
      rotate_left
      · intro w hw; clear hw; go_simp; try (with_reducible rfl)
      refine wpAnyH_ready (rs := [5]) (by kernel_rfl) (by simp) ?_
      refine AllReadyH.cons rfl (fun K hK => ?_) AllReadyH.nil
      go_simp
      refine hK.out _ _ hS0 (fun _ => ?_)
      clear hK K
      refine wpAnyH_ready (rs := [6]) (by kernel_rfl) (by simp) ?_
      refine AllReadyH.cons rfl (fun K hK => ?_) AllReadyH.nil
      go_simp
      refine hK.out _ _ hS0 (fun _ => ?_)
      clear hK K
      refine wpAnyH_ready (rs := [7]) (by kernel_rfl) (by simp) ?_
      refine AllReadyH.cons rfl (fun K hK => ?_) AllReadyH.nil
      have e2 := k2.out _ hS0
      go_simp
      refine hK.out _ _ hS0 (fun _ => ?_)
      clear hK K
      refine wpAnyH_ready (rs := [8]) (by kernel_rfl) (by simp) ?_
      refine AllReadyH.cons rfl (fun K hK => ?_) AllReadyH.nil
      go_simp
      refine hK.out _ _ hS0 (fun _ => ?_)
      clear hK K
      refine wpAnyH_done (by kernel_rfl) ?_ _
      go_wp2
      go_roundg (ks.length - (k + 1))
      case measure => rw [hgk.out]; omega
      case rel => exact ⟨k + 1, by omega, rfl, by go_num, hidden hS0⟩
    · obtain rfl : k = ks.length := by omega
      go_wp2
      go_ret
      exact ⟨rfl, hI.out⟩
theorem Tryz.infoInt : (Tryz.prog.info? 3).map (fun i => (i.zero, i.size, i.bytes)) = some (some (.int .i64 0), 1, 8) := by kernel_rfl
theorem Kept.mono {base base' : Nat} {w : World} {v : Value} {ks : List Int} (h : Kept base w v ks) (hb : base' ≤ base) : Kept base' w v ks := ⟨ownsRow_base_a h.row hb⟩
theorem one_cell (w : World) (x : Value) (n : Nat) (hn : w.heap.size = n) : (w.alloc (.cells #[x] 3)).cell? ⟨n, 0, none⟩ = some x := by subst hn; simp
theorem kept_append {base : Nat} {w : World} {v : Value} {ks : List Int} (h : Kept base w v ks) (a : Addr) (m c : Nat) (ys : List Int) (hm : ys.length = m) (hc : ∀ j, j < m → w.cell? (a.add j) = some (.int .i64 (ys.getD j 0))) (hn : ks.length + m ≤ 1000) (hbase : base ≤ w.heap.size) (ty : TypeId) :
    ∃ v' w', (Builtin.append_ #[44, 44] ty #[v, .slice (some a) m c]).run Tryz.prog w = .ok v' w' ∧ Kept base w' v' (ks ++ ys) ∧ Below base w w' ∧ ∀ b, b < w.heap.size → some b ≠ v.ownBlock → w'.heap[b]? = w.heap[b]? := by
  obtain ⟨i0, hi, hz0, hz1, hz2⟩ := info_parts3 Tryz.infoInt
  obtain ⟨v', w', hrun, hown, hgrow, -⟩ := run_append_own (P := Tryz.prog) w base 44 ty 3 i0 (.int .i64 0) 1 8 Tryz.underlying44 hi hz0 hz1 hz2 (by simp [Value.cells]) (by decide)
    v ks.length _ h.row a m c (ys.map encZ) (by simp [hm]) (fun j u hu => by
      have hj : j < m := by
        rcases Nat.lt_or_ge j m with h | h
        · exact h
        · rw [List.getElem?_eq_none (by simp [hm]; omega)] at hu; cases hu
      rw [hc j hj, ← hu]
      simp [List.getD, hm, hj, encZ]) (by intro u hu; obtain ⟨z, _, rfl⟩ := List.mem_map.1 hu; rfl) (by unfold maxLen; omega) (by omega) hbase
  refine ⟨v', w', hrun, ⟨?_⟩, (Below.refl base w).grown hgrow hbase (fun k hk => (h.row.lt k hk).1), hgrow.block⟩
  rw [List.length_append, List.map_append, hm]
  exact hown
/-- An append inside a region that draws. -/
theorem any_append {P : Program} {ops : Array Oper} {o : Oper} {a : Act} {w : World} {K : Act → World → Prop} {Q : Exit → Act → World → Prop} {s x : Operand} {t : TypeId} (hg : Region.wanted o (yielded ops a.tmps) = true)
    (ho : o.op = .call { callee := .builtin .append, args := #[s, x], argTypes := #[t, t] }) (v xv v' : Value) (w' : World) (hs : a.eval s = v) (hx : a.eval x = xv)
    (hr : (Builtin.append_ #[t, t] o.type #[v, xv]).run P w = .ok v' w') (h : K (a.put o.dst v') w') : if Region.wanted o (yielded ops a.tmps) = true then Oper.wp P o a w K Q else K (a.put o.dst undef) w := by
  rw [if_pos hg]
  unfold Oper.wp execOp
  simp only [ho, resolve, invoke, builtin, Sem.run_bind, Sem.run_pure, Result.andThen_ok, List.map_toArray, List.map_cons, List.map_nil, hs, hx, hr]
  exact h
/-- The blocks among the first j that are taken. -/
def takenL (S : Nat → Bool) (fr j : Nat) : List Int := ((List.range j).filter fun i => S i).map fun i => ((fr + i : Nat) : Int)
theorem takenL_succ (S : Nat → Bool) (fr j : Nat) : takenL S fr (j + 1) = takenL S fr j ++ (if S j then [((fr + j : Nat) : Int)] else []) := by
  unfold takenL
  rw [List.range_succ, List.filter_append, List.map_append]
  cases h : S j <;> simp [h]
theorem takenL_len (S : Nat → Bool) (fr j : Nat) : (takenL S fr j).length ≤ j := by
  unfold takenL
  rw [List.length_map]
  refine Nat.le_trans (List.length_filter_le _ _) ?_
  simp
theorem takenL_congr {S T : Nat → Bool} (fr : Nat) : ∀ (k : Nat), (∀ i, i < k → S i = T i) → takenL S fr k = takenL T fr k
  | 0, _ => rfl
  | k + 1, h => by rw [takenL_succ, takenL_succ, takenL_congr fr k (fun i hi => h i (by omega)), h k (by omega)]
/-- What holds while All goes through a Map: its list lies at p, the Map's pointer at q. -/
structure Gath (W : World) (p q ab : Nat) (v : Value) (ks : List Int) (w : World) : Prop where
  cell : w.cell? ⟨p, 0, none⟩ = some v
  free : w.frozen? ⟨p, 0, none⟩ = false
  map : w.cell? ⟨q, 0, none⟩ = some (ptr ab)
  kept : Kept (W.heap.size + 2) w v ks
  nil : ks = [] → v = .slice none 0 0
  pq : q = W.heap.size ∧ p = W.heap.size + 1
  below : Below W.heap.size W w
section
variable {W w w' : World} {p q ab : Nat} {v : Value} {ks : List Int}
theorem Gath.more (h : Gath W p q ab v ks w) (hb : Below w.heap.size w w') : Gath W p q ab v ks w' :=
  ⟨(hb.cell (p := ⟨p, 0, none⟩) (lt_of_cell h.cell)).trans h.cell, (hb.frozen (p := ⟨p, 0, none⟩) (lt_of_cell h.cell)).trans h.free, (hb.cell (p := ⟨q, 0, none⟩) (lt_of_cell h.map)).trans h.map, h.kept.below hb, h.nil, h.pq, h.below.trans (hb.mono h.below.size)⟩
/-- Its own block holds no bytes. -/
theorem Gath.own (h : Gath W p q ab v ks w) {b : Nat} {zs : List Int} (hr : RowB w b zs) : some b ≠ v.ownBlock := by
  intro e
  have hne : ks ≠ [] := fun e2 => by rw [h.nil e2] at e; cases e
  obtain ⟨a, cap, rfl, hf⟩ := h.kept.form
  obtain ⟨b', rfl, -, -, hc⟩ := hf hne
  have e' : b = b' := by simpa [Value.ownBlock] using e
  subst e'
  have h1 := hr 0 (by decide)
  rw [hc 0 (List.length_pos_iff.2 hne)] at h1
  cases h1
set_option maxHeartbeats 2000000 in
theorem all1_calls {fr j : Nat} {T : Bool} (h : Gath W p q ab v ks w) (hm : w.cell? ⟨ab, 2, none⟩ = some (.int .i64 fr)) (hfr : fr + j < 4611686018427387904) (hk : ks.length ≤ 500) :
    Calls Tryz.prog 33 #[.int .i64 j, .bool T, ptr p, ptr q] w fun e w' => e = .returned (.bool true) ∧ (∃ v', Gath W p q ab v' (ks ++ if T then [((fr + j : Nat) : Int)] else []) w') ∧ ∀ b zs, RowB w b zs → RowB w' b zs := by
  cases T with
  | false =>
    have hE := hidden h
    clear h hm
    go_enter Tryz.func33, Tryz.ntmps33
    go_wp2
    go_ret
    exact ⟨rfl, ⟨v, by simpa using hE.out⟩, fun b zs hr => hr⟩
  | true =>
    have c1 := h.cell
    have c2 := h.map
    have f1 := h.free
    have hpl := lt_of_cell h.cell
    have hql := lt_of_cell h.map
    have habl : ab < w.heap.size := lt_of_cell hm
    have hBA : Below w.heap.size w (w.alloc (.cells #[.int .i64 ((fr : Int) + (j : Int))] 3)).drew := ((Below.refl _ _).alloc (Nat.le_refl _) _).drew
    have hA := h.more hBA
    have hone : ∀ i, i < 1 → (w.alloc (.cells #[.int .i64 ((fr : Int) + (j : Int))] 3)).drew.cell? (Addr.add ⟨w.heap.size, 0, none⟩ i) = some (.int .i64 (([((fr : Int) + (j : Int))] : List Int).getD i 0)) := fun i hi => by
      obtain rfl : i = 0 := by omega
      simp [Addr.add]
    obtain ⟨v4, w4, hrun, hk4, hB4, hkp⟩ := kept_append hA.kept ⟨w.heap.size, 0, none⟩ 1 1 [((fr : Int) + (j : Int))] rfl hone (by omega) (by have := hA.below.size; have := hA.pq; have := lt_of_cell hA.cell; simp at this ⊢; omega) 44
    have hne : ∀ x, x < W.heap.size + 2 → some x ≠ v.ownBlock := fun x hx e => by
      rcases hA.kept.row.2 with ⟨rfl, -⟩ | ⟨g', cap', cur, rfl, h1, -⟩
      · cases e
      · have : x = g' := by simpa [Value.ownBlock] using e
        omega
    have hpq := h.pq
    have hkeep : ∀ x, x < w.heap.size → some x ≠ v.ownBlock → w4.heap[x]? = w.heap[x]? := fun x hx hn => (hkp x (Nat.lt_of_lt_of_le hx hBA.size) hn).trans (hBA.block x hx)
    have c1w : w4.cell? ⟨p, 0, none⟩ = some v := (World.cell?_of_block (a := ⟨p, 0, none⟩) (hkeep p hpl (hne p (by omega)))).trans c1
    have f1w : w4.frozen? ⟨p, 0, none⟩ = false := (World.frozen?_of_block (a := ⟨p, 0, none⟩) (hkeep p hpl (hne p (by omega)))).trans f1
    have c2w : w4.cell? ⟨q, 0, none⟩ = some (ptr ab) := (World.cell?_of_block (a := ⟨q, 0, none⟩) (hkeep q hql (hne q (by omega)))).trans c2
    have hcast : (((fr + j : Nat) : Int)) = (fr : Int) + (j : Int) := by omega
    have hE : Gath W p q ab v4 (ks ++ [((fr + j : Nat) : Int)]) (w4.setCell ⟨p, 0, none⟩ v4) := by
      have hAp : Apart [p] w4 (w4.setCell ⟨p, 0, none⟩ v4) := (Apart.refl [p] w4).setCell (p := ⟨p, 0, none⟩) (by simp) v4
      refine ⟨World.cell?_setCell_same' _ _ _ (by rw [c1w]; rfl), by simp [f1w], ?_, ?_, fun e => by simp at e, h.pq, ?_⟩
      · exact (World.cell?_setCell_other _ _ _ _ (by intro e; have := congrArg Addr.block e; simp at this; omega)).trans c2w
      · rw [hcast]
        exact hk4.keep hAp (by simp; omega)
      · exact ((hA.below.trans (hB4.mono (by omega))).setCell (p := ⟨p, 0, none⟩) (by show W.heap.size ≤ p; omega) v4)
    have hR : ∀ b zs, RowB w b zs → RowB (w4.setCell ⟨p, 0, none⟩ v4) b zs := fun b zs hr i hi => by
      have hbp : b ≠ p := by
        intro e
        have h1 := hr 0 (by decide)
        rw [e, c1] at h1
        obtain ⟨a, cap, rfl, -⟩ := h.kept.form
        cases h1
      refine (World.cell?_setCell_other _ _ _ _ (by intro e; exact hbp (congrArg Addr.block e).symm)).trans ?_
      exact (World.cell?_of_block (a := ⟨b, i, none⟩) (hkeep b hr.lt (h.own hr))).trans (hr i hi)
    have hEE := hidden (And.intro hE hR)
    replace hrun := hidden hrun
    obtain ⟨av, capv, rfl, -⟩ := h.kept.form
    obtain ⟨a4, cap4, rfl, -⟩ := hk4.form
    generalize (ks ++ [(fr : Int) + (j : Int)]).length = L4 at hrun hEE
    clear hE hR hkeep hne hkp hB4 hk4 hA hBA hone h c2w hcast hpq
    have hwr : IntKind.i64.wrap ((fr : Int) + (j : Int)) = (fr : Int) + (j : Int) := wrap_pos _ (by omega) (by omega)
    go_enter Tryz.func33, Tryz.ntmps33
    go_upto_region 2 with fail
    refine wp_region_any (by kernel_rfl) ?_
    try (change wpAny _ _ _ _ _ _ _ (World.drew _))
    refine wpAny_take (i := 5) (v := ?_) rfl (by kernel_rfl) (by kernel_rfl) (by kernel_rfl) (fun _ _ _ h => h) (Or.inl ⟨by rfl, ?_⟩) ?_
    rotate_left
    · intro w; go_simp; try (with_reducible rfl)
    refine wpAny_ready (rs := [0, 1]) (by kernel_rfl) (by simp) ?_
    refine AllReady.cons rfl (fun K hK => ?_) ?_
    · go_simp
      try (refine hK _ _ ?_; clear hK K)
      refine wpAny_ready (rs := [1]) (by kernel_rfl) (by simp) ?_
      refine AllReady.cons rfl (fun K hK => ?_) AllReady.nil
      go_simp
      try (refine hK _ _ ?_; clear hK K)
      refine wpAny_ready (rs := [2]) (by kernel_rfl) (by simp) ?_
      refine AllReady.cons rfl (fun K hK => ?_) AllReady.nil
      go_simp
      try (refine hK _ _ ?_; clear hK K)
      refine wpAny_ready (rs := [3]) (by kernel_rfl) (by simp) ?_
      refine AllReady.cons rfl (fun K hK => ?_) AllReady.nil
      go_simp
      try (refine hK _ _ ?_; clear hK K)
      refine wpAny_ready (rs := [4]) (by kernel_rfl) (by simp) ?_
      refine AllReady.cons rfl (fun K hK => ?_) AllReady.nil
      go_simp
      try (refine hK _ _ ?_; clear hK K)
      refine wpAny_ready (rs := [6]) (by kernel_rfl) (by simp) ?_
      refine AllReady.cons rfl (fun K hK => ?_) AllReady.nil
      go_simp
      try (refine hK _ _ ?_; clear hK K)
      refine wpAny_ready (rs := [7]) (by kernel_rfl) (by simp) ?_
      refine AllReady.cons rfl (fun K hK => ?_) AllReady.nil
      go_simp
      try (refine hK _ _ ?_; clear hK K)
      refine wpAny_ready (rs := [8]) (by kernel_rfl) (by simp) ?_
      refine AllReady.cons rfl (fun K hK => ?_) AllReady.nil
      refine any_append rfl rfl _ _ _ _ rfl rfl hrun.out ?_
      try (refine hK _ _ ?_; clear hK K)
      refine wpAny_ready (rs := [9]) (by kernel_rfl) (by simp) ?_
      refine AllReady.cons rfl (fun K hK => ?_) AllReady.nil
      go_simp
      try (refine hK _ _ ?_; clear hK K)
      refine wpAny_done (by kernel_rfl) ?_ _
      go_wp2
      go_ret
      exact ⟨rfl, ⟨_, by simpa using hEE.out.1⟩, hEE.out.2⟩
    refine AllReady.cons rfl (fun K hK => ?_) ?_
    · go_simp
      try (refine hK _ _ ?_; clear hK K)
      refine wpAny_take (i := 2) (v := ?_) rfl (by kernel_rfl) (by kernel_rfl) (by kernel_rfl) (fun _ _ _ h => h) (Or.inl ⟨by rfl, ?_⟩) ?_
      rotate_left
      · intro w; go_simp; try (with_reducible rfl)
      refine wpAny_take (i := 3) (v := ?_) rfl (by kernel_rfl) (by kernel_rfl) (by kernel_rfl) (fun _ _ _ h => h) (Or.inl ⟨by rfl, ?_⟩) ?_
      rotate_left
      · intro w; go_simp; try (with_reducible rfl)
      refine wpAny_ready (rs := [0, 4]) (by kernel_rfl) (by simp) ?_
      refine AllReady.cons rfl (fun K hK => ?_) ?_
      · go_simp
        try (refine hK _ _ ?_; clear hK K)
        refine wpAny_ready (rs := [4]) (by kernel_rfl) (by simp) ?_
        refine AllReady.cons rfl (fun K hK => ?_) AllReady.nil
        go_simp
        try (refine hK _ _ ?_; clear hK K)
        refine wpAny_ready (rs := [6]) (by kernel_rfl) (by simp) ?_
        refine AllReady.cons rfl (fun K hK => ?_) AllReady.nil
        go_simp
        try (refine hK _ _ ?_; clear hK K)
        refine wpAny_ready (rs := [7]) (by kernel_rfl) (by simp) ?_
        refine AllReady.cons rfl (fun K hK => ?_) AllReady.nil
        go_simp
        try (refine hK _ _ ?_; clear hK K)
        refine wpAny_ready (rs := [8]) (by kernel_rfl) (by simp) ?_
        refine AllReady.cons rfl (fun K hK => ?_) AllReady.nil
        refine any_append rfl rfl _ _ _ _ rfl rfl hrun.out ?_
        try (refine hK _ _ ?_; clear hK K)
        refine wpAny_ready (rs := [9]) (by kernel_rfl) (by simp) ?_
        refine AllReady.cons rfl (fun K hK => ?_) AllReady.nil
        go_simp
        try (refine hK _ _ ?_; clear hK K)
        refine wpAny_done (by kernel_rfl) ?_ _
        go_wp2
        go_ret
        exact ⟨rfl, ⟨_, by simpa using hEE.out.1⟩, hEE.out.2⟩
      refine AllReady.cons rfl (fun K hK => ?_) ?_
      · go_simp
        try (refine hK _ _ ?_; clear hK K)
        refine wpAny_take (i := 6) (v := ?_) rfl (by kernel_rfl) (by kernel_rfl) (by kernel_rfl) (fun _ _ _ h => h) (Or.inl ⟨by rfl, ?_⟩) ?_
        rotate_left
        · intro w; go_simp; try (with_reducible rfl)
        refine wpAny_ready (rs := [0, 7]) (by kernel_rfl) (by simp) ?_
        refine AllReady.cons rfl (fun K hK => ?_) ?_
        · go_simp
          try (refine hK _ _ ?_; clear hK K)
          refine wpAny_ready (rs := [7]) (by kernel_rfl) (by simp) ?_
          refine AllReady.cons rfl (fun K hK => ?_) AllReady.nil
          go_simp
          try (refine hK _ _ ?_; clear hK K)
          refine wpAny_ready (rs := [8]) (by kernel_rfl) (by simp) ?_
          refine AllReady.cons rfl (fun K hK => ?_) AllReady.nil
          refine any_append rfl rfl _ _ _ _ rfl rfl hrun.out ?_
          try (refine hK _ _ ?_; clear hK K)
          refine wpAny_ready (rs := [9]) (by kernel_rfl) (by simp) ?_
          refine AllReady.cons rfl (fun K hK => ?_) AllReady.nil
          go_simp
          try (refine hK _ _ ?_; clear hK K)
          refine wpAny_done (by kernel_rfl) ?_ _
          go_wp2
          go_ret
          exact ⟨rfl, ⟨_, by simpa using hEE.out.1⟩, hEE.out.2⟩
        refine AllReady.cons rfl (fun K hK => ?_) ?_
        · go_simp
          try (refine hK _ _ ?_; clear hK K)
          refine wpAny_ready (rs := [0]) (by kernel_rfl) (by simp) ?_
          refine AllReady.cons rfl (fun K hK => ?_) AllReady.nil
          go_simp
          try (refine hK _ _ ?_; clear hK K)
          refine wpAny_ready (rs := [8]) (by kernel_rfl) (by simp) ?_
          refine AllReady.cons rfl (fun K hK => ?_) AllReady.nil
          refine any_append rfl rfl _ _ _ _ rfl rfl hrun.out ?_
          try (refine hK _ _ ?_; clear hK K)
          refine wpAny_ready (rs := [9]) (by kernel_rfl) (by simp) ?_
          refine AllReady.cons rfl (fun K hK => ?_) AllReady.nil
          go_simp
          try (refine hK _ _ ?_; clear hK K)
          refine wpAny_done (by kernel_rfl) ?_ _
          go_wp2
          go_ret
          exact ⟨rfl, ⟨_, by simpa using hEE.out.1⟩, hEE.out.2⟩
        exact AllReady.nil
      exact AllReady.nil
    exact AllReady.nil
end
section
variable {w0 : World} {d g n jb cb mb at_ most : Nat} {blocks : Int} {mem : Nat → Int} {writes left : Int} {M : Chg} {w w' : World}
theorem all_sees (h : CSt w0 d g n jb cb mb at_ most blocks mem writes left M w) (hl : left ≠ 0) {ab ma fr k : Nat} (hm : MpAt ab cb ma fr k w) (hf : Fits n blocks ma fr k) (hk : k ≤ 500) (ht : fr + k < 4611686018427387904) :
    Sees 33 #[ptr (w.heap.size + 1), ptr w.heap.size] ab k (fun q => nowM mem M (ma + q)) (fun j wx => ∃ v, Gath w (w.heap.size + 1) w.heap.size ab v (takenL (bitM mem M ma) fr j) wx) (fun _ _ => False) where
  few := hf.k2
  ent := enters_of Tryz.func33 (by kernel_rfl) rfl
  more := fun j wx wy hI hb => by obtain ⟨v, hI⟩ := hI; exact ⟨v, hI.more hb⟩
  cell := fun wx hI => by obtain ⟨v, hI⟩ := hI; exact (hm.below hI.below).c3
  bits := fun j wx hj hI => by
    obtain ⟨v, hI⟩ := hI
    exact (bits_calls (h.more hI.below) hl (hm.below hI.below) hf j hj).mono fun e wy ⟨b, h1, h2, h3, h4⟩ => ⟨b, h1, h2.cell, h4⟩
  call := fun j wx b zs hj hI hr => by
    obtain ⟨v, hI⟩ := hI
    have hle := takenL_len (bitM mem M ma) fr j
    refine (all1_calls (T := bitM mem M ma j) (fr := fr) hI (hm.below hI.below).c2 (by omega) (by omega)).mono ?_
    rintro e wy ⟨rfl, hG, hR⟩
    left
    rw [takenL_succ]
    exact ⟨rfl, hG, hR b zs hr⟩
set_option maxHeartbeats 1000000 in
theorem all_calls (h : CSt w0 d g n jb cb mb at_ most blocks mem writes left M w) (hl : left ≠ 0) {ab ma fr k : Nat} (hm : MpAt ab cb ma fr k w) (hf : Fits n blocks ma fr k) (hk : k ≤ 500) (ht : fr + k < 4611686018427387904) :
    Calls Tryz.prog 15 #[ptr ab] w fun e w' => ∃ v, e = .returned (.tuple #[v, .nilIface]) ∧ Kept w.heap.size w' v (takenL (bitM mem M ma) fr k) ∧ Below w.heap.size w w' := by
  have hmf : ∀ (fn : Fn) (first cap : Array Value) (w : World), (Instr.makeFunc fn first cap).run Tryz.prog w = .ok (.func fn first cap) w := fun _ _ _ _ => rfl
  have hB0 : Below w.heap.size w ((w.alloc (.cells #[ptr ab] 28)).alloc (.cells #[.slice none 0 0] 44)) := ((Below.refl _ _).alloc (Nat.le_refl _) _).alloc (by simp) _
  have hG0 : Gath w (w.heap.size + 1) w.heap.size ab (.slice none 0 0) [] ((w.alloc (.cells #[ptr ab] 28)).alloc (.cells #[.slice none 0 0] 44)) :=
    ⟨by simp, by simp, by simp, Kept.nil _ _, fun _ => rfl, ⟨rfl, rfl⟩, hB0⟩
  have hW := hidden (walk_calls (all_sees h hl hm hf hk ht) _ ⟨_, hG0⟩)
  clear h hm hf hG0 hB0
  go_enter Tryz.func15, Tryz.ntmps15
  go_wp2_with fail
  refine (hW.out).mono ?_
  rintro ev w1 ⟨rfl, (⟨v, hG1⟩ | ⟨i, hi, hG1⟩)⟩
  · have c1 := hG1.cell
    have hE := hidden (And.intro (hG1.kept.mono (base' := w.heap.size) (by omega)) hG1.below)
    obtain ⟨av, cv, rfl, -⟩ := hG1.kept.form
    clear hG1 hW
    generalize (takenL (bitM mem M ma) fr k).length = L at c1 hE
    go_wp2
    go_ret2
    exact ⟨_, rfl, hE.out⟩
  · exact hG1.elim
set_option maxHeartbeats 1000000 in
theorem taken_calls (h : CSt w0 d g n jb cb mb at_ most blocks mem writes left M w) (hl : left ≠ 0) {ab ma fr k : Nat} (hm : MpAt ab cb ma fr k w) (hf : Fits n blocks ma fr k) (i : Nat) (hi : i < k) (no : Int) (hno : no = fr + i) :
    Calls Tryz.prog 11 #[ptr ab, .int .i64 no] w fun e w' => e = .returned (.tuple #[.bool (bitM mem M ma i), .nilIface]) ∧ Below w.heap.size w w' := by
  have ht := hf.top
  have hT := hidden (itaken_calls h hl hm hf i hi no hno)
  have kI := hidden (fun (wx : World) (hx : Below w.heap.size w wx) => itoa_below no ⟨by omega, by omega⟩ h.sys.ground hx)
  generalize itoaB no = nm at kI
  generalize bitM mem M ma i = T at hT ⊢
  replace hno := hidden hno
  clear h hm hf hl
  go_enter Tryz.func11, Tryz.ntmps11
  go_wp2_with fail
  refine (hT.out).mono ?_
  rintro ev w1 ⟨rfl, hB1⟩
  have hI := hidden (kI.out _ hB1)
  clear hB1 hT
  go_wp2_with fail
  refine (hI.out).mono ?_
  rintro ev w2 ⟨rfl, hB2⟩
  replace hB2 := hidden hB2
  clear hI
  go_wp2_with fail
  refine (awrong_nil _ _).mono ?_
  rintro ev w3 ⟨rfl, rfl⟩
  go_wp2
  go_ret2
  exact ⟨rfl, hB2.out⟩
set_option maxHeartbeats 1000000 in
theorem taken_bad (hG : Ground w) {ab ma fr k : Nat} (hm : MpAt ab cb ma fr k w) (hf : Fits n blocks ma fr k) (no : Int) (hi : i64 no) (hno : ¬ ((fr : Int) ≤ no ∧ no < fr + k)) :
    Calls Tryz.prog 11 #[ptr ab, .int .i64 no] w fun e w' => ∃ b, e = .returned (.tuple #[.bool false, flt b]) ∧ Chain w' [(sAlloc, itoaB no)] (num 1) (flt b) ∧ Below w.heap.size w w' := by
  have hT := hidden (itaken_bad hm hf no hi hno)
  have kI := hidden (fun (wx : World) (hx : Below w.heap.size w wx) => itoa_below no hi hG hx)
  generalize itoaB no = nm at kI ⊢
  have kW := hidden (fun (wx : World) => awrong_some nm wx [] (num 1) _ _ rfl)
  replace hno := hidden hno
  replace hi := hidden hi
  clear hm hf hG
  go_enter Tryz.func11, Tryz.ntmps11
  go_wp2_with fail
  refine (hT.out).mono ?_
  rintro ev w1 ⟨rfl, hB1⟩
  have hI := hidden (kI.out _ hB1)
  clear hB1 hT
  go_wp2_with fail
  refine (hI.out).mono ?_
  rintro ev w2 ⟨rfl, hB2⟩
  replace hB2 := hidden hB2
  clear hI
  go_wp2_with fail
  refine (kW.out _).mono ?_
  rintro ev w3 ⟨b, rfl, hc, hb, hB3⟩
  have hE := hidden (And.intro hc (hB2.out.trans (hB3.mono hB2.out.size)))
  clear hc hb hB3
  go_wp2
  go_ret2
  exact ⟨b, rfl, hE.out⟩
end
end Go.Proofs.YtildpgingcmfcaaGreatDoor
