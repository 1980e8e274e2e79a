/- A Disk's Write and Read. -/
import Derived.Test.YtopegpjkkicjhaaGreatDoorDrW
import Derived.Deep.DeepCutAuto
import Derived.Laws.CopyOwn
namespace Go.Proofs.YtopegpjkkicjhaaGreatDoor
open Go.RowKit Go.Extern.Stop Go.Stop Go.Extern
set_option maxRecDepth 100000

/-- The bytes behind a Write of block i. -/
def memW (i : Nat) (zs : List Int) (mem : Nat → Int) (k : Nat) : Int := if i * 128 ≤ k ∧ k < i * 128 + 128 then zs.getD (k - i * 128) 0 else mem k
/-- What is left of a Fuse behind a Write. -/
def burnt (left : Int) : Int := if 0 < left then left - 1 else left
theorem Tryz.sizeByte : (Tryz.prog.info? 5).map (·.size) = some 1 := by kernel_rfl

theorem DiskAt.wrote {d g n : Nat} {mem : Nat → Int} {writes left : Int} {w : World} (h : DiskAt d g n mem writes left w) (i : Nat) (hi : i < n) (zs : List Int) (hz : zs.length = 128) (hr : ∀ z ∈ zs, 0 ≤ z ∧ z ≤ 255) :
    DiskAt d g n (memW i zs mem) writes left (w.setCells g (i * 128) (zs.map (Value.int .u8))) := by
  obtain ⟨cap, hb⟩ := h.blocks
  have hne := h.apart
  have hlen : (zs.map (Value.int .u8)).length = 128 := by simp [hz]
  have hin : i * 128 + 128 ≤ n * 128 := by omega
  have ho : ∀ j : Nat, (w.setCells g (i * 128) (zs.map (Value.int .u8))).cell? ⟨d, j, none⟩ = w.cell? ⟨d, j, none⟩ := fun j => World.cell?_setCells_out g _ _ w ⟨d, j, none⟩ (fun e => absurd e hne)
  refine ⟨⟨cap, (ho 0).trans hb⟩, (ho 1).trans h.writes, (ho 2).trans h.left, by rw [World.frozen?_setCells]; exact h.free0, by rw [World.frozen?_setCells]; exact h.free1, by rw [World.frozen?_setCells]; exact h.free2, fun k hk => ?_, fun k hk => by rw [World.frozen?_setCells]; exact h.free k hk, fun k => ?_, hne, h.some, h.few⟩
  · unfold memW
    by_cases hk2 : i * 128 ≤ k ∧ k < i * 128 + 128
    · rw [if_pos hk2]
      have := World.cell?_setCells_in g (zs.map (Value.int .u8)) (i * 128) w (fun j hj => by rw [h.bytes (i * 128 + j) (by omega)]; rfl) (k - i * 128) (by omega)
      rw [show i * 128 + (k - i * 128) = k by omega] at this
      rw [this]
      simp [List.getD, show k - i * 128 < zs.length by omega]
    · rw [if_neg hk2, World.cell?_setCells_out g _ _ w ⟨g, k, none⟩ (fun _ _ => by show k < _ ∨ _ ≤ k; rw [hlen]; omega)]
      exact h.bytes k hk
  · unfold memW
    split
    · by_cases hk3 : k - i * 128 < zs.length
      · have : zs.getD (k - i * 128) 0 = zs[k - i * 128] := by simp [List.getD, hk3]
        rw [this]; exact hr _ (List.getElem_mem hk3)
      · have : zs.getD (k - i * 128) 0 = 0 := by simp [List.getD, hk3]
        rw [this]; omega
    · exact h.range k
theorem apart_setCells {bs : List Nat} {w : World} (g : Nat) (hg : g ∈ bs) : ∀ (vs : List Value) (o : Nat) (w' : World), Apart bs w w' → Apart bs w (w'.setCells g o vs)
  | [], _, _, h => h
  | v :: r, o, w', h => by
    have := apart_setCells g hg r (o + 1) (w'.setCell ⟨g, o, none⟩ v) ((Apart.refl bs w').setCell (p := ⟨g, o, none⟩) hg v)
    exact h.trans this

set_option maxHeartbeats 2000000 in
theorem write_good {d g n : Nat} {mem : Nat → Int} {writes left : Int} {w : World} (h : DiskAt d g n mem writes left w) (i : Nat) (hi : i < n) (v : Value) (zs : List Int) (hv : BytesAt w v zs) (hz : zs.length = 128) (hl : (left == 0) = false) (hl2 : left ≤ 9223372036854775807 ∧ -1 ≤ left) (hw : 0 ≤ writes ∧ writes < 1000000000) :
    Calls Tryz.prog 132 #[ptr d, .int .i64 i, v] w fun e w' => e = .returned .nilIface ∧ DiskAt d g n (memW i zs mem) (writes + 1) (burnt left) w' ∧ Apart [d, g] w w' := by
  obtain ⟨a, vcap, rfl, hr, hm, hn, hc⟩ := hv
  obtain ⟨b, off, rfl, hb, hcell⟩ := hc (by intro e; rw [e] at hz; simp at hz)
  rw [hz]
  have hR := hidden (reach_calls h i)
  have hrv : reachV n left i = .nilIface := by unfold reachV; rw [if_neg (by omega), if_neg (by simpa using hl)]
  rw [hrv] at hR
  obtain ⟨cap, h0⟩ := h.blocks
  have hcp : (Builtin.copy_ #[34, 34] 3 #[.slice (some ⟨g, i * 128, none⟩) 128 128, .slice (some ⟨b, off, none⟩) 128 vcap]).run Tryz.prog w = .ok (goInt 128) (w.setCells g (i * 128) (zs.map (Value.int .u8))) := by
    have := run_copy_cells (P := Tryz.prog) w 34 34 3 5 g (i * 128) 128 128 ⟨b, off, none⟩ 128 vcap (zs.map (Value.int .u8)) Tryz.underlying34 Tryz.sizeByte (by simp [hz]) (fun j u hu => by
      have hj : j < zs.length := by
        rcases Nat.lt_or_ge j zs.length with h | h
        · exact h
        · rw [List.getElem?_eq_none (by simpa using h)] at hu; cases hu
      rw [getD_map hj] at hu
      rw [Go.WideShapes.add_plain, hcell j hj]
      exact hu) (fun j hj => by rw [h.bytes (i * 128 + j) (by simp [hz] at hj; omega)]; rfl) (fun j hj => h.free _ (by simp [hz] at hj; omega)) (by intro u hu; obtain ⟨z, _, rfl⟩ := List.mem_map.1 hu; rfl)
    simpa [hz] using this
  have hW := h.wrote i hi zs hz hr
  have hA : Apart [d, g] w (w.setCells g (i * 128) (zs.map (Value.int .u8))) := apart_setCells g (by simp) _ _ w (Apart.refl _ w)
  have hin : (i : Int) < (n : Int) := by omega
  have hfew := h.few
  replace hW := hidden hW
  replace hA := hidden hA
  clear h hn hc hcell hr hm hrv
  go_enter Tryz.func132, Tryz.ntmps132
  go_wp2_with fail
  refine (hR.out).mono ?_
  rintro ev w1 ⟨rfl, rfl⟩
  go_upto_region 7 with fail
  generalize w1.setCells g (i * 128) (zs.map (Value.int .u8)) = w2 at hW hA ⊢
  clear hcp h0 hR
  have c1 := hW.out.writes
  have f1 := hW.out.free1
  go_upto_region 8 with fail
  have hW3 := hidden (hW.out.setWrites (writes + 1))
  have hA3 := hidden (hA.out.setCell (p := ⟨d, 1, none⟩) (by simp) (.int .i64 (writes + 1)))
  generalize w2.setCell ⟨d, 1, none⟩ (.int .i64 (writes + 1)) = w3 at hW3 hA3 ⊢
  clear c1 f1 hW hA
  have c2 := hW3.out.left
  have f2 := hW3.out.free2
  rcases Classical.em (0 < left) with hp | hp
  · have hb : burnt left = left - 1 := by unfold burnt; rw [if_pos hp]
    have hE := hidden (And.intro (hW3.out.setLeft (left - 1)) (hA3.out.setCell (p := ⟨d, 2, none⟩) (by simp) (.int .i64 (left - 1))))
    replace hb := hidden hb
    go_wp2
    go_ret
    rw [hb.out]
    exact ⟨rfl, hE.out⟩
  · have hb : burnt left = left := by unfold burnt; rw [if_neg hp]
    replace hb := hidden hb
    go_wp2
    go_ret
    rw [hb.out]
    exact ⟨rfl, hW3.out, hA3.out⟩

/-- A Write that is refused. -/
theorem write_bad {d g n : Nat} {mem : Nat → Int} {writes left : Int} {w : World} (h : DiskAt d g n mem writes left w) (i k : Int) (hi : i64 i) (v : Value) (zs : List Int) (hv : BytesAt w v zs) (hG : Ground w)
    (hk : zs.length ≠ 128 ∧ k = 1 ∨ zs.length = 128 ∧ reachV n left i = num k) :
    Calls Tryz.prog 132 #[ptr d, .int .i64 i, v] w fun e w' => ∃ b, e = .returned (flt b) ∧ Chain w' [(sDisk, itoaB i)] (num k) (flt b) ∧ w.heap.size ≤ b ∧ Below w.heap.size w w' := by
  obtain ⟨a, vcap, rfl, hr, hm, hn, hc⟩ := hv
  have hW := hidden (wrong_num i k hi w hG)
  have hm' : zs.length ≤ 9223372036854775807 := by unfold maxLen at hm; omega
  rcases hk with ⟨hz, rfl⟩ | ⟨hz, hrv⟩
  · have hz' : ((zs.length : Int) == 128) = false := by simp; omega
    clear h hr hm hn hc hG
    go_enter Tryz.func132, Tryz.ntmps132
    go_wp2_with fail
    refine (hW.out).mono ?_
    rintro ev w1 ⟨b, rfl, hE⟩
    replace hE := hidden hE
    go_wp2
    go_ret
    exact ⟨b, rfl, hE.out⟩
  · have hR := hidden (reach_calls h i)
    rw [hrv] at hR
    rw [hz]
    clear h hr hm hn hc hG hrv
    go_enter Tryz.func132, Tryz.ntmps132
    go_wp2_with fail
    refine (hR.out).mono ?_
    rintro ev w1 ⟨rfl, rfl⟩
    go_wp2_with fail
    refine (hW.out).mono ?_
    rintro ev w2 ⟨b, rfl, hE⟩
    replace hE := hidden hE
    go_wp2
    go_ret
    exact ⟨b, rfl, hE.out⟩

/-- The bytes of block i. -/
def blockL (mem : Nat → Int) (i : Nat) : List Int := (List.range 128).map fun j => mem (i * 128 + j)
theorem blockL_len (mem : Nat → Int) (i : Nat) : (blockL mem i).length = 128 := by simp [blockL]
theorem blockL_get (mem : Nat → Int) (i j : Nat) (hj : j < 128) : (blockL mem i)[j]? = some (mem (i * 128 + j)) := by simp [blockL, hj]
theorem wpList_load_at {P : Program} {ops : Array Oper} {rest : List Oper} {o : Oper} {a : Act} {w : World} {Q : Exit → Act → World → Prop} (hgd : o.guard = none) (ty : TypeId) (x : Operand) (ho : o.op = .load ty x)
    (p : Addr) (hx : a.eval x = .pointer (some p)) (v : Value) (hl : (loadVar ty p).run P w = .ok v w) (h : wpList P ops Q rest (a.put o.dst v) w) : wpList P ops Q (o :: rest) a w :=
  wpList_plain hgd fun _ hK => by
    unfold Oper.wp execOp
    simp only [ho, hx, Instr.loadAt, Instr.sureAddr, Sem.run_bind, Sem.run_pure, Result.andThen_ok, hl]
    exact hK _ _ h
abbrev blockC (mem : Nat → Int) (i : Nat) : Array Value := ((blockL mem i).map (Value.int .u8)).toArray
theorem load_block {d g n : Nat} {mem : Nat → Int} {writes left : Int} {w : World} (h : DiskAt d g n mem writes left w) (i : Nat) (hi : i < n) :
    (loadVar 113 ⟨g, i * 128, none⟩).run Tryz.prog w = .ok (.agg (blockC mem i)) w := by
  have hl := run_loadCells_list (P := Tryz.prog) w ⟨g, i * 128, none⟩ ((blockL mem i).map (Value.int .u8)) (fun j v hv => by
    have hj : j < 128 := by
      rcases Nat.lt_or_ge j 128 with h | h
      · exact h
      · rw [List.getElem?_eq_none (by simp [blockL_len]; omega)] at hv; cases hv
    rw [Go.WideShapes.add_plain, h.bytes (i * 128 + j) (by omega)]
    rw [List.getElem?_map, blockL_get mem i j hj] at hv
    exact hv)
  obtain ⟨i0, hi0, hz0, hz1, hz2⟩ := info_parts3 Tryz.infoBlock
  have hagg : (isAgg 113).run Tryz.prog w = .ok true w := by
    unfold isAgg
    rw [Sem.run_bind, run_underlying Tryz.underlying113 w]
    rfl
  have hlen : ((blockL mem i).map (Value.int .u8)).length = 128 := by simp [blockL_len]
  rw [hlen] at hl
  simp [loadVar, Sem.run_bind, hagg, sizeOf, typeInfo, hi0, hz1, hl]
theorem Tryz.sizeBlock : (Tryz.prog.info? 113).map (·.size) = some 128 := by kernel_rfl
set_option maxHeartbeats 2000000 in
theorem read_good {d g n : Nat} {mem : Nat → Int} {writes left : Int} {w : World} (h : DiskAt d g n mem writes left w) (i : Nat) (hi : i < n) (hl : (left == 0) = false) :
    Calls Tryz.prog 123 #[ptr d, .int .i64 i] w fun e w' => ∃ b, e = .returned (.tuple #[.slice (some ⟨b, 0, none⟩) 128 128, .nilIface]) ∧ BytesAt w' (.slice (some ⟨b, 0, none⟩) 128 128) (blockL mem i) ∧ w.heap.size ≤ b ∧ (∀ k, k < 128 → w'.frozen? ⟨b, k, none⟩ = false) ∧ Below w.heap.size w w' := by
  have hR := hidden (reach_calls h i)
  have hrv : reachV n left i = .nilIface := by unfold reachV; rw [if_neg (by omega), if_neg (by simpa using hl)]
  rw [hrv] at hR
  obtain ⟨cap, h0⟩ := h.blocks
  have hin : (i : Int) < (n : Int) := by omega
  have hfew := h.few
  have hld := load_block h i hi
  have hrg := hidden h.range
  have hcs : (blockC mem i).size = 128 := by simp [blockL_len]
  have hall : (blockC mem i).all (·.oneCell') = true := by
    rw [Array.all_eq_true_iff_forall_mem]
    intro v hv
    obtain ⟨z, _, rfl⟩ := List.mem_map.1 (by simpa using hv)
    rfl
  have hget := hidden (fun (k : Nat) (hk : k < 128) => show (blockC mem i)[k]? = some (.int .u8 ((blockL mem i).getD k 0)) by
    rw [List.getElem?_toArray, getD_map (by rw [blockL_len]; exact hk)])
  clear h hrv
  generalize blockC mem i = cs at hld hcs hall hget
  replace hcs := hidden hcs
  replace hall := hidden hall
  replace hld := hidden hld
  go_enter Tryz.func123, Tryz.ntmps123
  go_wp2_with fail
  refine (hR.out).mono ?_
  rintro ev w1 ⟨rfl, rfl⟩
  have hnew : (w1.alloc (.cells (Array.replicate 128 (.int .u8 0)) 113)).heap[w1.heap.size]? = some (.cells (Array.replicate 128 (.int .u8 0)) 113 (0, 0)) := heap_alloc_new _ _
  replace hnew := hidden hnew
  go_wp2_with (first
    | (refine wpList_load_at rfl 113 _ rfl ⟨g, i * 128, none⟩ rfl (.agg cs) hld.out ?_)
    | (refine wpList_store_row rfl 113 _ _ rfl w1.heap.size cs rfl rfl 113 _ hnew.out (by rw [hcs.out]; exact Tryz.sizeBlock) (by rw [hcs.out]; simp) hall.out ?_))
  go_ret2
  have hh : ((w1.alloc (.cells Tryz.zeroCells113 113)).setRow w1.heap.size cs).heap[w1.heap.size]? = some (.cells cs 113 (0, 0)) := setRow_heap _ _ _ _ _ _ (heap_alloc_new _ _)
  refine ⟨_, rfl, ⟨_, 128, by rw [blockL_len], fun z hz => ?_, by rw [blockL_len]; decide, fun e => (by cases e), fun _ => ⟨_, _, rfl, by simp, fun k hk => ?_⟩⟩, Nat.le_refl _, fun k _ => frozen_of_row _ _ _ _ _ hh, below_setRow ((Below.refl _ _).alloc (Nat.le_refl _) _) (Nat.le_refl _) cs⟩
  · obtain ⟨j, _, rfl⟩ := List.mem_map.1 hz
    exact hrg.out _
  · rw [blockL_len] at hk
    rw [Nat.zero_add, cell_of_row _ _ _ _ _ _ hh]
    exact hget.out k hk
/-- A Read that is refused. -/
theorem read_bad {d g n : Nat} {mem : Nat → Int} {writes left : Int} {w : World} (h : DiskAt d g n mem writes left w) (i k : Int) (hi : i64 i) (hG : Ground w) (hrv : reachV n left i = num k) :
    Calls Tryz.prog 123 #[ptr d, .int .i64 i] w fun e w' => ∃ b, e = .returned (.tuple #[.slice none 0 0, flt b]) ∧ Chain w' [(sDisk, itoaB i)] (num k) (flt b) ∧ w.heap.size ≤ b ∧ Below w.heap.size w w' := by
  have hW := hidden (wrong_num i k hi w hG)
  have hR := hidden (reach_calls h i)
  rw [hrv] at hR
  clear h hG hrv
  go_enter Tryz.func123, Tryz.ntmps123
  go_wp2_with fail
  refine (hR.out).mono ?_
  rintro ev w1 ⟨rfl, rfl⟩
  go_wp2_with fail
  refine (hW.out).mono ?_
  rintro ev w2 ⟨b, rfl, hE⟩
  replace hE := hidden hE
  go_wp2
  go_ret2
  exact ⟨b, rfl, hE.out⟩
end Go.Proofs.YtopegpjkkicjhaaGreatDoor
