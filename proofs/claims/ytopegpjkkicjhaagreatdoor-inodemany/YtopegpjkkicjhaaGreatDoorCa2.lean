/- A Cache as it lies in memory; its has, wrong, now and takes. -/
import Derived.Test.YtopegpjkkicjhaaGreatDoorCa1
import Derived.Maps.OwnSet
namespace Go.Proofs.YtopegpjkkicjhaaGreatDoor
open Go.RowKit Go.Extern.Stop Go.Stop Go.Extern
set_option maxRecDepth 100000

/-- A row of 128 bytes at block b, as a call made it. -/
structure Lie (w : World) (b : Nat) (zs : List Int) : Prop where
  cell : ∀ k, k < 128 → w.cell? ⟨b, k, none⟩ = some (.int .u8 (zs.getD k 0))
  free : ∀ k, k < 128 → w.frozen? ⟨b, k, none⟩ = false
  row : Row zs
theorem Lie.lt {w : World} {b : Nat} {zs : List Int} (h : Lie w b zs) : b < w.heap.size := lt_of_cell (a := ⟨b, 0, none⟩) (h.cell 0 (by decide))
theorem Lie.bytes {w : World} {b : Nat} {zs : List Int} (h : Lie w b zs) : BytesAt w (.slice (some ⟨b, 0, none⟩) 128 128) zs :=
  ⟨_, 128, by rw [h.row.1], h.row.2, by rw [h.row.1]; decide, fun e => (by cases e), fun _ => ⟨b, 0, rfl, h.lt, fun k hk => by rw [Nat.zero_add]; exact h.cell k (by rw [h.row.1] at hk; exact hk)⟩⟩
theorem Lie.keep {w w' : World} {b : Nat} {zs : List Int} {bs : List Nat} (h : Lie w b zs) (ha : Apart bs w w') (hn : b ∉ bs) : Lie w' b zs :=
  ⟨fun k hk => (ha.cell (p := ⟨b, k, none⟩) h.lt hn).trans (h.cell k hk), fun k hk => (ha.frozen (p := ⟨b, k, none⟩) h.lt hn).trans (h.free k hk), h.row⟩
theorem Lie.below {w w' : World} {b : Nat} {zs : List Int} (h : Lie w b zs) (hb : Below w.heap.size w w') : Lie w' b zs := h.keep (Apart.of_below (bs := []) hb) (by simp)
theorem rowC_size {zs : List Int} (h : Row zs) : (rowC zs).size = 128 := by simp [rowC, h.1]
theorem rowC_get {zs : List Int} (h : Row zs) (k : Nat) (hk : k < 128) : (rowC zs)[k]? = some (.int .u8 (zs.getD k 0)) := by
  unfold rowC
  rw [List.getElem?_toArray, getD_map (by rw [h.1]; exact hk)]
theorem rowC_one (zs : List Int) : (rowC zs).all (·.oneCell') = true := by
  rw [Array.all_eq_true_iff_forall_mem]
  intro v hv
  obtain ⟨z, _, rfl⟩ := List.mem_map.1 (by simpa [rowC] using hv)
  rfl
theorem lie_of_row {w : World} {b : Nat} {zs : List Int} (hz : Row zs) (h : w.heap[b]? = some (.cells (rowC zs) 113 (0, 0))) : Lie w b zs :=
  ⟨fun k hk => by rw [cell_of_row _ _ _ _ _ _ h]; exact rowC_get hz k hk, fun k _ => frozen_of_row _ _ _ _ _ h, hz⟩
/-- A row read as one value. -/
theorem Lie.load {w : World} {b : Nat} {zs : List Int} (h : Lie w b zs) : (loadVar 113 ⟨b, 0, none⟩).run Tryz.prog w = .ok (.agg (rowC zs)) w := by
  have hl := run_loadCells_list (P := Tryz.prog) w ⟨b, 0, none⟩ (zs.map (Value.int .u8)) (fun j v hv => by
    have hj : j < 128 := by
      rcases Nat.lt_or_ge j 128 with h | h'
      · exact h
      · rw [List.getElem?_eq_none (by simp [h.row.1]; omega)] at hv; cases hv
    rw [Go.WideShapes.add_plain, Nat.zero_add, h.cell j hj, ← getD_map (by rw [h.row.1]; exact hj)]
    exact hv)
  obtain ⟨i0, hi0, hz0, hz1, hz2⟩ := info_parts3 Tryz.infoBlock
  have hagg : (isAgg 113).run Tryz.prog w = .ok true w := by
    unfold isAgg
    rw [Sem.run_bind, run_underlying Tryz.underlying113 w]
    rfl
  have hlen : (zs.map (Value.int .u8)).length = 128 := by simp [h.row.1]
  rw [hlen] at hl
  simp [loadVar, Sem.run_bind, hagg, sizeOf, typeInfo, hi0, hz1, hl, rowC]

/-- A Cache at block cb, over the Journal at jb; its map is at block mb. -/
structure CAt (cb jb mb : Nat) (blocks : Int) (w : World) : Prop where
  c0 : w.cell? ⟨cb, 0, none⟩ = some (ptr jb)
  c1 : w.cell? ⟨cb, 1, none⟩ = some (.int .i64 blocks)
  c2 : w.cell? ⟨cb, 2, none⟩ = some (.map (some mb))
theorem CAt.lt {cb jb mb : Nat} {blocks : Int} {w : World} (h : CAt cb jb mb blocks w) : cb < w.heap.size := lt_of_cell (a := ⟨cb, 0, none⟩) h.c0
theorem CAt.keep {cb jb mb : Nat} {blocks : Int} {w w' : World} {bs : List Nat} (h : CAt cb jb mb blocks w) (ha : Apart bs w w') (hn : cb ∉ bs) : CAt cb jb mb blocks w' :=
  ⟨(ha.cell (p := ⟨cb, 0, none⟩) h.lt hn).trans h.c0, (ha.cell (p := ⟨cb, 1, none⟩) h.lt hn).trans h.c1, (ha.cell (p := ⟨cb, 2, none⟩) h.lt hn).trans h.c2⟩
theorem CAt.below {cb jb mb : Nat} {blocks : Int} {w w' : World} (h : CAt cb jb mb blocks w) (hb : Below w.heap.size w w') : CAt cb jb mb blocks w' := h.keep (Apart.of_below (bs := []) hb) (by simp)

theorem has_calls {cb jb mb : Nat} {blocks : Int} {w : World} (h : CAt cb jb mb blocks w) (no : Int) :
    Calls Tryz.prog 60 #[ptr cb, .int .i64 no] w fun e w' => e = .returned (.bool (decide (0 ≤ no ∧ no < blocks))) ∧ w' = w := by
  have h1 := h.c1
  clear h
  obtain ⟨B, hB⟩ : ∃ B, decide (0 ≤ no ∧ no < blocks) = B := ⟨_, rfl⟩
  rw [hB]
  by_cases h0 : 0 ≤ no
  · by_cases hb : no < blocks
    · obtain rfl : B = true := by rw [← hB]; exact decide_eq_true ⟨h0, hb⟩
      clear hB
      go_enter Tryz.func60, Tryz.ntmps60
      go_wp2
      go_ret
      exact ⟨rfl, rfl⟩
    · obtain rfl : B = false := by rw [← hB]; exact decide_eq_false fun h => hb h.2
      clear hB
      go_enter Tryz.func60, Tryz.ntmps60
      go_wp2
      go_ret
      exact ⟨rfl, rfl⟩
  · obtain rfl : B = false := by rw [← hB]; exact decide_eq_false fun h => h0 h.1
    clear hB
    go_enter Tryz.func60, Tryz.ntmps60
    go_wp2
    go_ret
    exact ⟨rfl, rfl⟩
abbrev sCache : ByteArray := ⟨#[99, 97, 99, 104, 101]⟩
theorem cwrong_nil (i : Int) (hi : i64 i) (w : World) (hG : Ground w) :
    Calls Tryz.prog 61 #[.int .i64 i, .nilIface] w fun e w' => e = .returned .nilIface ∧ Below w.heap.size w w' := by
  have hI := hidden (Tryz.strconv_Itoa i hi.1 hi.2 w hG.p)
  clear hG
  go_enter Tryz.func61, Tryz.ntmps61
  go_wp2_with fail
  refine (hI.out).mono ?_
  rintro ev w1 ⟨rfl, d, os, rfl⟩
  have hB1 : Below w.heap.size w (Go.Sort.grow (w.drewN d) os) := Lib.below_grow _ w (Nat.le_refl _) d os
  generalize Go.Sort.grow (w.drewN d) os = w1 at hB1 ⊢
  go_wp2_with fail
  refine (wrap_nil _ _ w1).mono ?_
  rintro ev w2 ⟨rfl, rfl⟩
  go_wp2
  go_ret
  exact ⟨rfl, hB1⟩
theorem cwrong_some (i : Int) (hi : i64 i) (w : World) (hG : Ground w) (l : List (ByteArray × ByteArray)) (bot : Value) (u : TypeId) (v : Value) (hc : Chain w l bot (.iface u v)) :
    Calls Tryz.prog 61 #[.int .i64 i, .iface u v] w fun e w' => ∃ b, e = .returned (flt b) ∧ Chain w' ((sCache, itoaB i) :: l) bot (flt b) ∧ w.heap.size ≤ b ∧ Below w.heap.size w w' := by
  have hI := hidden (Tryz.strconv_Itoa i hi.1 hi.2 w hG.p)
  replace hc := hidden hc
  clear hG
  go_enter Tryz.func61, Tryz.ntmps61
  go_wp2_with fail
  refine (hI.out).mono ?_
  rintro ev w1 ⟨rfl, d, os, rfl⟩
  have hB1 : Below w.heap.size w (Go.Sort.grow (w.drewN d) os) := Lib.below_grow _ w (Nat.le_refl _) d os
  generalize Go.Sort.grow (w.drewN d) os = w1 at hB1 ⊢
  go_wp2_with fail
  refine (wrap_some sCache (itoaB i) _ _ w1).mono ?_
  rintro ev w2 ⟨rfl, rfl⟩
  go_wp2
  go_ret
  exact ⟨_, rfl, Chain.alloc (w := w1) sCache (itoaB i) (Chain.below hB1 _ _ _ hc.out), hB1.size, hB1.alloc hB1.size _⟩
/-- m[k], as the walk meets it. -/
theorem wpList_lookup_eq {P : Program} {ops : Array Oper} {rest : List Oper} {o : Oper} {a : Act} {w : World} {Q : Exit → Act → World → Prop} (hgd : o.guard = none) (t : TypeId) (m x : Operand) (c : Bool) (ho : o.op = .lookup t m x c)
    (mv key v : Value) (hm : a.eval m = mv) (hx : a.eval x = key) (hr : (Instr.lookup t mv key c).run P w = .ok v w) (h : wpList P ops Q rest (a.put o.dst v) w) : wpList P ops Q (o :: rest) a w := by
  refine wpList_plain hgd fun K' hK' => ?_
  unfold Oper.wp
  simp [execOp, ho, hm, hx, hr, Result.andThen]
  exact hK' _ _ h
/-- The Journal's Read, with the row that it made. -/
theorem jread_row {w0 : World} {d g n : Nat} {mem : Nat → Int} {writes left : Int} {w : World} (h : Sys w0 d g n mem writes left w) (hl : left ≠ 0) (jb at_ most : Nat) (hj : JAt jb d at_ most w) (i : Nat) (hi : i < n) :
    Calls Tryz.prog 95 #[ptr jb, .int .i64 i] w fun e w' => ∃ b, e = .returned (.tuple #[.slice (some ⟨b, 0, none⟩) 128 128, .nilIface]) ∧ Lie w' b (blockL mem i) ∧ w.heap.size ≤ b ∧ Below w.heap.size w w' := by
  have j0 := hj.c0
  have hrg := h.disk.range
  have hR := hidden (sys_read h i hi hl)
  clear hj h
  go_enter Tryz.func95, Tryz.ntmps95
  go_wp2_with fail
  refine (hR.out).mono ?_
  rintro ev w1 ⟨b, rfl, hb, hnew, hfree, -, hB⟩
  have hLi : Lie w1 b (blockL mem i) := by
    obtain ⟨a, cap, hv, hr, -, -, hc⟩ := hb
    obtain ⟨b', off, ha, -, hcell⟩ := hc (by intro e; have := blockL_len mem i; rw [e] at this; simp at this)
    have he := (Value.slice.inj hv).1
    rw [ha] at he
    simp only [Option.some.injEq, Addr.mk.injEq] at he
    obtain ⟨rfl, rfl, -⟩ := he
    exact ⟨fun k hk => by have := hcell k (by rw [blockL_len]; exact hk); rw [Nat.zero_add] at this; exact this, hfree, blockL_len mem i, hr⟩
  have hE := hidden (And.intro hLi (And.intro hnew hB))
  clear hb hB hR hLi hnew hfree
  go_wp2_with fail
  refine (jwrong_nil _).mono ?_
  rintro ev w4 ⟨rfl, rfl⟩
  go_wp2
  go_ret2
  exact ⟨_, rfl, hE.out⟩
section
variable {w0 : World} {d g n : Nat} {mem : Nat → Int} {writes left : Int} {w : World}
set_option maxHeartbeats 1000000 in
/-- What a block holds now, changed. -/
theorem now_hit {cb jb mb : Nat} {blocks : Int} {M : Chg} (hc : CAt cb jb mb blocks w) (hm : MapAt w mb M) (no : Int) (hi : i64 no) (hh : hasM no M = true) :
    Calls Tryz.prog 63 #[ptr cb, .int .i64 no] w fun e w' => ∃ b, e = .returned (.tuple #[.slice (some ⟨b, 0, none⟩) 128 128, .nilIface]) ∧ Lie w' b (getM no M zeroRow) ∧ w.heap.size ≤ b ∧ Below w.heap.size w w' := by
  have h2 := hc.c2
  have hlk := hm.look no hi true
  rw [hh] at hlk
  simp only [if_true] at hlk
  have hz : Row (getM no M zeroRow) := hm.tidy.rows _ (getM_mem hh)
  generalize getM no M zeroRow = zs at hlk hz
  have hrow := hidden (fun (w' : World) (b : Nat) => lie_of_row (w := w') (b := b) hz)
  have hcs : Hid ((rowC zs).size = 128) := hidden (rowC_size hz)
  have hall := hidden (rowC_one zs)
  generalize rowC zs = cs at hlk hrow hcs hall
  replace hlk := hidden hlk
  clear hc hm hz hh
  go_enter Tryz.func63, Tryz.ntmps63
  have hnew : (w.alloc (.cells (Array.replicate 128 (.int .u8 0)) 113)).heap[w.heap.size]? = some (.cells (Array.replicate 128 (.int .u8 0)) 113 (0, 0)) := heap_alloc_new _ _
  replace hnew := hidden hnew
  go_wp2_with (first
    | (at_lookup; refine wpList_lookup_eq rfl 78 _ _ true rfl _ _ _ rfl rfl hlk.out ?_)
    | (refine wpList_store_row rfl 113 _ _ rfl w.heap.size cs rfl rfl 113 _ hnew.out (by rw [hcs.out]; exact Tryz.sizeBlock) (by rw [hcs.out]; simp) hall.out ?_))
  go_ret2
  have hh : ((w.alloc (.cells Tryz.zeroCells113 113)).setRow w.heap.size cs).heap[w.heap.size]? = some (.cells cs 113 (0, 0)) := setRow_heap _ _ _ _ _ _ (heap_alloc_new _ _)
  exact ⟨_, rfl, hrow.out _ _ hh, Nat.le_refl _, below_setRow ((Below.refl _ _).alloc (Nat.le_refl _) _) (Nat.le_refl _) cs⟩
set_option maxHeartbeats 1000000 in
/-- What a block holds now, not changed. -/
theorem now_miss (h : Sys w0 d g n mem writes left w) (hl : left ≠ 0) {cb jb mb at_ most : Nat} {blocks : Int} {M : Chg} (hj : JAt jb d at_ most w) (hc : CAt cb jb mb blocks w) (hm : MapAt w mb M) (no : Nat) (hno : no < n) (hh : hasM no M = false) :
    Calls Tryz.prog 63 #[ptr cb, .int .i64 no] w fun e w' => ∃ b, e = .returned (.tuple #[.slice (some ⟨b, 0, none⟩) 128 128, .nilIface]) ∧ Lie w' b (blockL mem no) ∧ w.heap.size ≤ b ∧ Below w.heap.size w w' := by
  have hfew := h.disk.few
  have h2 := hc.c2
  have hlk := hm.look no ⟨by omega, by omega⟩ true
  rw [hh, getM_none hh] at hlk
  simp only [if_true] at hlk
  have hcs : Hid ((rowC zeroRow).size = 128) := hidden (rowC_size zeroRow_row)
  have hall := hidden (rowC_one zeroRow)
  generalize rowC zeroRow = cs at hlk hcs hall
  replace hlk := hidden hlk
  have hBa : Below w.heap.size w ((w.alloc (.cells Tryz.zeroCells113 113)).setRow w.heap.size cs) := below_setRow ((Below.refl _ _).alloc (Nat.le_refl _) _) (Nat.le_refl _) cs
  have hR := hidden (jread_row (h.more hBa) hl jb at_ most (hj.below hBa) no hno)
  have c0 := (hc.below hBa).c0
  replace hBa := hidden hBa
  clear hc hm hh h hj
  go_enter Tryz.func63, Tryz.ntmps63
  have hnew : (w.alloc (.cells (Array.replicate 128 (.int .u8 0)) 113)).heap[w.heap.size]? = some (.cells (Array.replicate 128 (.int .u8 0)) 113 (0, 0)) := heap_alloc_new _ _
  replace hnew := hidden hnew
  go_wp2_with (first
    | (at_lookup; refine wpList_lookup_eq rfl 78 _ _ true rfl _ _ _ rfl rfl hlk.out ?_)
    | (refine wpList_store_row rfl 113 _ _ rfl w.heap.size cs rfl rfl 113 _ hnew.out (by rw [hcs.out]; exact Tryz.sizeBlock) (by rw [hcs.out]; simp) hall.out ?_; generalize (w.alloc (.cells Tryz.zeroCells113 113)).setRow w.heap.size cs = w1 at hR hBa c0 ⊢))
  refine (hR.out).mono ?_
  rintro ev w2 ⟨b, rfl, hLi, hnb, hB2⟩
  have hE := hidden (And.intro hLi (And.intro (Nat.le_trans hBa.out.size hnb) (hBa.out.trans (hB2.mono hBa.out.size))))
  clear hLi hnb hB2 hR
  go_wp2
  go_ret2
  exact ⟨b, rfl, hE.out⟩
set_option maxHeartbeats 1000000 in
theorem ctakes_calls {cb jb mb at_ most : Nat} {blocks : Int} {M : Chg} (hj : JAt jb d at_ most w) (hc : CAt cb jb mb blocks w) (hm : MapAt w mb M) (no : Int) (hi : i64 no) :
    Calls Tryz.prog 62 #[ptr cb, .int .i64 no] w fun e w' => e = .returned (.bool (hasM no M || decide (M.length < most))) ∧ Below w.heap.size w w' := by
  have h2 := hc.c2
  have hlk := hm.look no hi true
  simp only [if_true] at hlk
  have hmax : M.length ≤ 9223372036854775807 := by
    obtain ⟨es, clock, -, F, -, hD⟩ := hm.own
    have h1 := congrArg Maps.size hD
    rw [size_dat, Maps.size_eq, length_sorted] at h1
    have h2 := F.size
    simp at h1
    unfold maxLen at h2
    omega
  have hz : Row (getM no M zeroRow) := by
    cases hh : hasM no M with
    | true => exact hm.tidy.rows _ (getM_mem hh)
    | false => rw [getM_none hh]; exact zeroRow_row
  generalize getM no M zeroRow = zs at hlk hz
  have hcs : Hid ((rowC zs).size = 128) := hidden (rowC_size hz)
  have hall := hidden (rowC_one zs)
  generalize rowC zs = cs at hlk hcs hall
  replace hlk := hidden hlk
  obtain ⟨B, hB⟩ : ∃ B, (hasM no M || decide (M.length < most)) = B := ⟨_, rfl⟩
  rw [hB]
  generalize hasM no M = H at hB hlk
  replace hB := hidden hB
  have hBa : Below w.heap.size w ((w.alloc (.cells Tryz.zeroCells113 113)).setRow w.heap.size cs) := below_setRow ((Below.refl _ _).alloc (Nat.le_refl _) _) (Nat.le_refl _) cs
  have c0 := (hc.below hBa).c0
  have c2 := (hc.below hBa).c2
  have hJ := hidden (hj.below hBa)
  have hMp := hidden (hm.below hBa)
  replace hBa := hidden hBa
  clear hc hm hj hz
  go_enter Tryz.func62, Tryz.ntmps62
  have hnew : (w.alloc (.cells (Array.replicate 128 (.int .u8 0)) 113)).heap[w.heap.size]? = some (.cells (Array.replicate 128 (.int .u8 0)) 113 (0, 0)) := heap_alloc_new _ _
  replace hnew := hidden hnew
  go_wp2_with (first
    | (at_lookup; refine wpList_lookup_eq rfl 78 _ _ true rfl _ _ _ rfl rfl hlk.out ?_)
    | (refine wpList_store_row rfl 113 _ _ rfl w.heap.size cs rfl rfl 113 _ hnew.out (by rw [hcs.out]; exact Tryz.sizeBlock) (by rw [hcs.out]; simp) hall.out ?_; generalize (w.alloc (.cells Tryz.zeroCells113 113)).setRow w.heap.size cs = w1 at hJ hMp hBa c0 c2 ⊢))
  clear hlk hnew h2
  have hlen : ∀ k ty, (Builtin.len_ #[78] ty #[.map (some mb)]).run Tryz.prog (w1.drewN k) = .ok (.int .i64 M.length) (w1.drewN k) := fun k ty => by
    have := (hMp.out.below (below_drewN (Below.refl _ _) k)).own.len Tryz.underlying78 ty
    rw [size_dat] at this
    exact this
  clear hMp
  generalize M.length = L at hB hlen hmax
  cases H with
  | true =>
    go_quiet (fail)
    go_wp2
    go_ret
    exact ⟨by rw [← hB.out]; rfl, below_drewN hBa.out nq⟩
  | false =>
    by_cases hlt : L < most
    · obtain rfl : B = true := by rw [← hB.out]; simpa using hlt
      have hlt' : (L : Int) < (most : Int) := by omega
      clear hB hlt
      go_quiet (first
        | (go_at_call 94; exact Calls.quiet_of_same (most_calls jb at_ most (hJ.out.below (below_drewN (Below.refl _ _) _)))))
      go_wp2
      go_ret
      exact ⟨rfl, below_drewN hBa.out nq⟩
    · obtain rfl : B = false := by rw [← hB.out]; simpa using hlt
      have hlt' : ¬ (L : Int) < (most : Int) := by omega
      clear hB hlt
      go_quiet (first
        | (go_at_call 94; exact Calls.quiet_of_same (most_calls jb at_ most (hJ.out.below (below_drewN (Below.refl _ _) _)))))
      go_wp2
      go_ret
      exact ⟨rfl, below_drewN hBa.out nq⟩
end
end Go.Proofs.YtopegpjkkicjhaaGreatDoor
