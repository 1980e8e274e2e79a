/- disk.New, and a Disk's Blocks, Write and Read. -/
import Derived.Test.YtopegpjkkicjhaaGreatDoorDkW
namespace Go.Proofs.YtopegpjkkicjhaaGreatDoor
open Go.RowKit Go.Extern.Stop Go.Stop Go.Extern
set_option maxRecDepth 100000

theorem Tryz.infoBlock : (Tryz.prog.info? 113).map (fun i => (i.zero, i.size, i.bytes)) = some (some (.agg (Array.replicate 128 (.int .u8 0))), 128, 128) := by kernel_rfl
theorem made_zeros (N k : Nat) (hk : k < N * 128) : (madeCells (Value.agg (Array.replicate 128 (.int .u8 0))).cells (N * 128))[k]? = some (.int .u8 0) := by
  have h1 : k % 128 < 128 := Nat.mod_lt _ (by decide)
  simp [madeCells, Value.cells, hk, h1]
theorem make_blocks (N : Nat) (hN : N ≤ 2048) (w : World) : (Instr.makeSlice 146 (.int .i64 N) (.int .i64 N)).run Tryz.prog w = .ok (.slice (some ⟨w.heap.size, 0, none⟩) N N) (w.alloc (.cells (madeCells (Value.agg (Array.replicate 128 (.int .u8 0))).cells (N * 128)) 113)) := by
  obtain ⟨i0, hi, hz0, hz1, hz2⟩ := info_parts3 Tryz.infoBlock
  have h := run_make (P := Tryz.prog) (w := w) 146 113 i0 (.agg (Array.replicate 128 (.int .u8 0))) Tryz.underlying146 hi hz0 .i64 .i64 N N (by omega) (by omega) (by rw [hz2]; omega) (by omega)
  rw [hz1] at h
  exact h
set_option maxHeartbeats 1000000 in
theorem new_good (N : Nat) (h16 : 16 ≤ N) (hN : N ≤ 2048) (w : World) :
    Calls Tryz.prog 55 #[.int .i64 N] w fun e w' => e = .returned (.tuple #[ptr (w.heap.size + 1), .nilIface]) ∧ DiskAt (w.heap.size + 1) w.heap.size N (fun _ => 0) 0 (-1) w' ∧ Below w.heap.size w w' := by
  have hmk := make_blocks N hN w
  have h1 : ¬ (N : Int) < 16 := by omega
  have h2 : ¬ (2048 : Int) < (N : Int) := by omega
  go_enter Tryz.func55, Tryz.ntmps55
  go_wp2
  go_ret2
  refine ⟨rfl, ?_, ?_⟩
  · have hc : ∀ k, k < N * 128 → ((w.alloc (.cells (madeCells (Value.agg (Array.replicate 128 (.int .u8 0))).cells (N * 128)) 113)).cell? ⟨w.heap.size, k, none⟩ = some (.int .u8 0)) := fun k hk => (cells_new _ _ _ _).trans (made_zeros N k hk)
    exact ⟨⟨N, by simp⟩, by simp, by simp, by simp, by simp, by simp, fun k hk => (World.cell?_alloc_lt _ _ ⟨w.heap.size, k, none⟩ (by simp)).trans (hc k hk), fun k hk => by simp, fun k => by simp, by omega, by omega, hN⟩
  · exact ((Below.refl _ _).alloc (Nat.le_refl _) _).alloc (by simp) _
theorem new_bad (i : Int) (hi : i64 i) (hb : i < 16 ∨ 2048 < i) (w : World) (hG : Ground w) :
    Calls Tryz.prog 55 #[.int .i64 i] w fun e w' => ∃ b, e = .returned (.tuple #[.pointer none, flt b]) ∧ Chain w' [(sDisk, itoaB i)] (num 1) (flt b) ∧ w.heap.size ≤ b ∧ Below w.heap.size w w' := by
  have hW := hidden (wrong_num i 1 hi w hG)
  rcases Classical.em (i < 16) with h1 | h1
  · clear hb hG hi
    go_enter Tryz.func55, Tryz.ntmps55
    go_wp2_with fail
    refine (hW.out).mono ?_
    rintro ev w1 ⟨b, rfl, hE⟩
    replace hE := hidden hE
    go_wp2
    go_ret2
    exact ⟨b, rfl, hE.out⟩
  · have h2 : 2048 < i := by omega
    clear hb hG hi
    go_enter Tryz.func55, Tryz.ntmps55
    go_wp2_with fail
    refine (hW.out).mono ?_
    rintro ev w1 ⟨b, rfl, hE⟩
    replace hE := hidden hE
    go_wp2
    go_ret2
    exact ⟨b, rfl, hE.out⟩

theorem nblocks_calls {d g n : Nat} {mem : Nat → Int} {writes left : Int} {w : World} (h : DiskAt d g n mem writes left w) :
    Calls Tryz.prog 92 #[ptr d] w fun e w' => e = .returned (.int .i64 n) ∧ w' = w := by
  obtain ⟨cap, h1⟩ := h.blocks
  clear h
  go_enter Tryz.func92, Tryz.ntmps92
  go_wp2
  go_ret
  exact ⟨rfl, rfl⟩
/-- What reach answers. -/
def reachV (n : Nat) (left i : Int) : Value := if i < 0 ∨ (n : Int) ≤ i then num 1 else if left = 0 then num 50 else .nilIface
theorem reach_calls {d g n : Nat} {mem : Nat → Int} {writes left : Int} {w : World} (h : DiskAt d g n mem writes left w) (i : Int) :
    Calls Tryz.prog 154 #[ptr d, .int .i64 i] w fun e w' => e = .returned (reachV n left i) ∧ w' = w := by
  obtain ⟨cap, h1⟩ := h.blocks
  have hD := hidden (dead_calls h)
  clear h
  rcases Classical.em (i < 0) with hi | hi
  · have hr : reachV n left i = num 1 := by unfold reachV; rw [if_pos (Or.inl hi)]
    rw [hr]
    go_enter Tryz.func154, Tryz.ntmps154
    go_wp2
    go_ret
    exact ⟨rfl, rfl⟩
  · have hi' : 0 ≤ i := by omega
    rcases Classical.em ((n : Int) ≤ i) with hn | hn
    · have hr : reachV n left i = num 1 := by unfold reachV; rw [if_pos (Or.inr hn)]
      rw [hr]
      go_enter Tryz.func154, Tryz.ntmps154
      go_wp2
      go_ret
      exact ⟨rfl, rfl⟩
    · cases hl : (left == 0) with
      | true =>
        have hr : reachV n left i = num 50 := by unfold reachV; rw [if_neg (by omega), if_pos (by simpa using hl)]
        rw [hr]
        go_enter Tryz.func154, Tryz.ntmps154
        go_wp2_with fail
        refine (hD.out).mono ?_
        rintro ev w1 ⟨rfl, rfl⟩
        go_wp2
        go_ret
        exact ⟨rfl, rfl⟩
      | false =>
        have hr : reachV n left i = .nilIface := by unfold reachV; rw [if_neg (by omega), if_neg (by simpa using hl)]
        rw [hr]
        go_enter Tryz.func154, Tryz.ntmps154
        go_wp2_with fail
        refine (hD.out).mono ?_
        rintro ev w1 ⟨rfl, rfl⟩
        go_wp2
        go_ret
        exact ⟨rfl, rfl⟩
end Go.Proofs.YtopegpjkkicjhaaGreatDoor
