/- A Disk's Copy: another one with the same blocks, Writes and Fuse, in new memory. -/
import Derived.Test.YtahehgbibmmaeaaDoorSy
namespace Go.Proofs.YtahehgbibmmaeaaDoor
open Go.RowKit Go.Extern.Stop Go.Stop Go.Extern
set_option maxRecDepth 100000

/-- append, by what it answers; also where it stands behind a test of the same statement. -/
theorem wpList_append_eq {P : Program} {ops : Array Oper} {rest : List Oper} {o : Oper} {a : Act} {w : World} {Q : Exit → Act → World → Prop} (s x : Operand) (t : TypeId)
    (ho : o.op = .call { callee := .builtin .append, args := #[s, x], argTypes := #[t, t] }) (v xv v' : Value) (w' : World) (hs : a.eval s = v) (hx : a.eval x = xv)
    (hr : (Builtin.append_ #[t, t] o.type #[v, xv]).run P w = .ok v' w') (hg : Region.wanted o (yielded ops a.tmps) = true) (h : wpList P ops Q rest (a.put o.dst v') w') : wpList P ops Q (o :: rest) a w :=
  wpList_step fun K hK => by
    rw [if_pos hg]
    unfold Oper.wp execOp
    simp only [ho, resolve, invoke, builtin, Sem.run_bind, Sem.run_pure, Result.andThen_ok, List.map_toArray, List.map_cons, List.map_nil, hs, hx, hr]
    exact hK _ _ h
theorem ownsRow_empty (w : World) (T : TypeId) (size : Nat) : (w.alloc (.cells #[] T)).ownsRow w.heap.size T size (.slice (some ⟨w.heap.size, 0, none⟩) 0 0) 0 [] :=
  ⟨by simp, Or.inr ⟨_, 0, #[], rfl, Nat.le_refl _, heap_alloc_new _ _, Nat.le_refl _, by simp, by simp, by simp⟩⟩
set_option maxHeartbeats 1000000 in
theorem clone_calls {d g n : Nat} {mem : Nat → Int} {writes left : Int} {w : World} (h : DiskAt d g n mem writes left w) (cap : Nat) :
    Calls Tryd.prog 25 #[.slice (some ⟨g, 0, none⟩) n cap] w fun e w' => ∃ g' cap', e = .returned (.slice (some ⟨g', 0, none⟩) n cap') ∧ w.heap.size ≤ g' ∧ (∀ k, k < n * 128 → w'.cell? ⟨g', k, none⟩ = some (.int .u8 (mem k))) ∧ (∀ k, k < n * 128 → w'.frozen? ⟨g', k, none⟩ = false) ∧ Below w.heap.size w w' := by
  have hq := fun (w : World) => Lib.run_eql_slice_nil (P := Tryd.prog) w 50 55 (some ⟨g, 0, none⟩) n cap 0 0 Tryd.underlying50
  obtain ⟨i0, hi, hz0, hz1, hz2⟩ := info_parts3 Tryd.infoBlock
  have hfew := h.few
  have hpos := h.some
  have hnl : ((List.range (n * 128)).map fun k => Value.int .u8 (mem k)).length = n * 128 := by simp
  have hlt := h.lt.2
  obtain ⟨v', w', hr, hown, hgrow, hnil⟩ := run_append_own (P := Tryd.prog) (w.alloc (.cells #[] 55)) w.heap.size 50 50 55 i0 (.agg (Array.replicate 128 (.int .u8 0))) 128 128 Tryd.underlying50 hi hz0 hz1 hz2 (by simp [Value.cells]) (by decide)
    (.slice (some ⟨w.heap.size, 0, none⟩) 0 0) 0 [] (ownsRow_empty w _ 128) ⟨g, 0, none⟩ n cap ((List.range (n * 128)).map fun k => Value.int .u8 (mem k)) hnl (fun j u hu => by
      have hj : j < n * 128 := by
        rcases Nat.lt_or_ge j (n * 128) with h | h
        · exact h
        · rw [List.getElem?_eq_none (by simpa using h)] at hu; cases hu
      rw [Go.WideShapes.add_plain, Nat.zero_add, World.cell?_alloc_lt _ _ ⟨g, j, none⟩ hlt, h.bytes j hj]
      simpa [hj] using hu) (by intro u hu; obtain ⟨z, _, rfl⟩ := List.mem_map.1 hu; rfl) (by unfold maxLen; omega) (by omega) (by simp)
  have hE : ∃ g' cap', v' = .slice (some ⟨g', 0, none⟩) n cap' ∧ w.heap.size ≤ g' ∧ (∀ k, k < n * 128 → w'.cell? ⟨g', k, none⟩ = some (.int .u8 (mem k))) ∧ (∀ k, k < n * 128 → w'.frozen? ⟨g', k, none⟩ = false) ∧ Below w.heap.size w w' := by
    have hB : Below w.heap.size w w' := ((Below.refl _ _).alloc (Nat.le_refl _) _).grown hgrow (by simp) (by intro k hk; simp [Value.ownBlock] at hk; omega)
    rw [Nat.zero_add, List.nil_append] at hown
    obtain ⟨h1, ⟨_, h2⟩ | ⟨g', cap', cur, rfl, hg, hh, hl, hm, hsz, htk⟩⟩ := hown
    · omega
    · refine ⟨g', cap', rfl, hg, fun k hk => ?_, fun k _ => frozen_of_row _ _ _ _ _ hh, hB⟩
      rw [cell_of_row _ _ _ _ _ _ hh]
      have h3 : (cur.toList.take (n * 128))[k]? = some (.int .u8 (mem k)) := by rw [htk]; simp [hk]
      rw [List.getElem?_take, if_pos hk] at h3
      simpa using h3
  replace hr := hidden hr
  replace hE := hidden hE
  clear hown hgrow hnil hnl hi hz0 hz1 hz2 h
  go_enter Tryd.func25, Tryd.ntmps25
  go_wp2_with (at_builtin; refine wpList_append_eq _ _ 50 rfl _ _ v' w' rfl rfl hr.out rfl ?_)
  go_ret
  obtain ⟨g', cap', hv, hrest⟩ := hE.out
  exact ⟨g', cap', congrArg Ending.returned hv, hrest⟩
set_option maxHeartbeats 1000000 in
theorem copy_calls {d g n : Nat} {mem : Nat → Int} {writes left : Int} {w : World} (h : DiskAt d g n mem writes left w) :
    Calls Tryd.prog 15 #[ptr d] w fun e w' => ∃ d' g', e = .returned (ptr d') ∧ DiskAt d' g' n mem writes left w' ∧ w.heap.size ≤ d' ∧ w.heap.size ≤ g' ∧ Below w.heap.size w w' := by
  obtain ⟨cap, h0⟩ := h.blocks
  have h1 := h.writes
  have h2 := h.left
  have hlt := h.lt.1
  have hH := hidden h
  clear h
  go_enter Tryd.func15, Tryd.ntmps15
  go_wp2_with fail
  have hB0 : Below w.heap.size w (w.alloc (.cells #[.slice (some ⟨g, 0, none⟩) n cap, .int .i64 writes, .int .i64 left] 52)) := (Below.refl _ _).alloc (Nat.le_refl _) _
  refine (clone_calls (hH.out.below hB0) cap).mono ?_
  rintro ev w2 ⟨g', cap', rfl, hg', hc', hf', hB2⟩
  have hsz : (w.alloc (.cells #[.slice (some ⟨g, 0, none⟩) n cap, .int .i64 writes, .int .i64 left] 52)).heap.size = w.heap.size + 1 := by simp
  rw [hsz] at hg' hB2
  have q0 : w2.cell? ⟨w.heap.size, 0, none⟩ = some (.slice (some ⟨g, 0, none⟩) n cap) := (hB2.cell (p := ⟨w.heap.size, 0, none⟩) (by show w.heap.size < _; omega)).trans (by simp)
  have q1 : w2.cell? ⟨w.heap.size, 1, none⟩ = some (.int .i64 writes) := (hB2.cell (p := ⟨w.heap.size, 1, none⟩) (by show w.heap.size < _; omega)).trans (by simp)
  have q2 : w2.cell? ⟨w.heap.size, 2, none⟩ = some (.int .i64 left) := (hB2.cell (p := ⟨w.heap.size, 2, none⟩) (by show w.heap.size < _; omega)).trans (by simp)
  have f0 : w2.frozen? ⟨w.heap.size, 0, none⟩ = false := (hB2.frozen (p := ⟨w.heap.size, 0, none⟩) (by show w.heap.size < _; omega)).trans (by simp)
  have f1 : w2.frozen? ⟨w.heap.size, 1, none⟩ = false := (hB2.frozen (p := ⟨w.heap.size, 1, none⟩) (by show w.heap.size < _; omega)).trans (by simp)
  have f2 : w2.frozen? ⟨w.heap.size, 2, none⟩ = false := (hB2.frozen (p := ⟨w.heap.size, 2, none⟩) (by show w.heap.size < _; omega)).trans (by simp)
  have hne : w.heap.size ≠ g' := by omega
  have hD : DiskAt w.heap.size g' n mem writes left (w2.setCell ⟨w.heap.size, 0, none⟩ (.slice (some ⟨g', 0, none⟩) n cap')) :=
    ⟨⟨cap', World.cell?_setCell_same' _ _ _ (by rw [q0]; rfl)⟩, (World.cell?_setCell_other _ _ _ _ (by intro e; simp at e)).trans q1, (World.cell?_setCell_other _ _ _ _ (by intro e; simp at e)).trans q2, by simp [f0], by simp [f1], by simp [f2],
      fun k hk => (World.cell?_setCell_other _ _ _ _ (by intro e; exact hne (congrArg Addr.block e))).trans (hc' k hk), fun k hk => by simp [hf' k hk], hH.out.range, hne, hH.out.some, hH.out.few⟩
  have hE := hidden (And.intro hD (And.intro (Nat.le_refl w.heap.size) (And.intro (show w.heap.size ≤ g' by omega) ((hB0.trans (hB2.mono (by omega))).setCell (p := ⟨w.heap.size, 0, none⟩) (Nat.le_refl _) (.slice (some ⟨g', 0, none⟩) n cap')))))
  clear hD q1 q2 f1 f2 hc' hf' hB2 hB0
  go_wp2
  go_ret
  exact ⟨_, g', rfl, hE.out⟩
theorem sys_copy {w0 : World} {d g n : Nat} {mem : Nat → Int} {writes left : Int} {w : World} (h : Sys w0 d g n mem writes left w) :
    Calls Tryd.prog 15 #[ptr d] w fun e w' => ∃ d' g', e = .returned (ptr d') ∧ Sys w d' g' n mem writes left w' ∧ Sys w0 d g n mem writes left w' ∧ Below w.heap.size w w' :=
  (copy_calls h.disk).mono fun _ _ ⟨d', g', h1, h2, h3, h4, h5⟩ => ⟨d', g', h1, ⟨h.ground, h2, h5, h3, h4⟩, h.more h5, h5⟩
theorem sys_read_op {w0 : World} {d g n : Nat} {mem : Nat → Int} {writes left : Int} {w : World} (h : Sys w0 d g n mem writes left w) (i : Nat) (hi : i < n) (hl : left ≠ 0) :
    Calls Tryd.prog 11 #[ptr d, .int .i64 i] w fun e w' => ∃ v, e = .returned (.tuple #[v, .nilIface]) ∧ BytesAt w' v (blockL mem i) ∧ Sys w0 d g n mem writes left w' ∧ Below w.heap.size w w' :=
  (sys_read h i hi hl).mono fun _ _ ⟨_, h1, h2, _, _, h5, h6⟩ => ⟨_, h1, h2, h5, h6⟩
theorem fill_new (n : Int) (w : World) :
    Calls Tryd.prog 9 #[.int .i64 n] w fun e w' => ∃ v, e = .returned v ∧ BytesAt w' v (fillL n) ∧ Below w.heap.size w w' :=
  (fill_calls n w).mono fun _ _ ⟨h1, h2⟩ => ⟨_, h1, by rw [h2]; exact fillA_bytes n w, by rw [h2]; exact (Below.refl _ _).alloc (Nat.le_refl _) _⟩
abbrev zeroL : List Int := List.replicate 128 0
/-- What the statements call is: noughts, or Fill of a number less one. -/
def isL (n : Int) : List Int := if n = 0 then zeroL else fillL (n - 1)
theorem zero_bytes (w : World) : BytesAt (w.alloc (.cells (Array.replicate 128 (.int .u8 0)) 5)) (.slice (some ⟨w.heap.size, 0, none⟩) 128 128) zeroL :=
  ⟨some ⟨w.heap.size, 0, none⟩, 128, by simp, fun z hz => by obtain ⟨_, rfl⟩ := List.mem_replicate.1 hz; omega, by simp [maxLen], fun h => (by cases h), fun _ => ⟨w.heap.size, 0, rfl, by simp, fun k hk => by
    have hk' : k < 128 := by simpa using hk
    rw [Nat.zero_add, cells_new]
    simp [List.getD, hk']⟩⟩
theorem is_calls (n : Int) (h0 : 0 ≤ n) (h1 : n ≤ 1000000) (w : World) :
    Calls Tryd.prog 18 #[.int .i64 n] w fun e w' => ∃ v, e = .returned v ∧ BytesAt w' v (isL n) ∧ Below w.heap.size w w' := by
  by_cases hn : n = 0
  · subst hn
    have hmk := make_block w
    have hz := hidden (zero_bytes w)
    go_enter Tryd.func18, Tryd.ntmps18
    go_wp2
    go_ret
    exact ⟨_, rfl, hz.out, (Below.refl _ _).alloc (Nat.le_refl _) _⟩
  · have hn' : (n == 0) = false := by simpa using hn
    have hE : isL n = fillL (n - 1) := by unfold isL; rw [if_neg hn]
    rw [hE]
    clear hE
    go_enter Tryd.func18, Tryd.ntmps18
    go_wp2_with fail
    refine (fill_new (n - 1) w).mono ?_
    rintro ev w1 ⟨v, rfl, hb, hB⟩
    have hE := hidden (And.intro hb hB)
    clear hb hB
    go_wp2
    go_ret
    exact ⟨v, rfl, hE.out⟩
end Go.Proofs.YtahehgbibmmaeaaDoor
