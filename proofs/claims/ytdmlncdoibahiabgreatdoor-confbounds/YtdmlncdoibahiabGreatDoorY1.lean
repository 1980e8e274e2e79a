/- ConfBounds: a text of one sign, so many times. -/
import Derived.Test.YtdmlncdoibahiabGreatDoorX20
import Derived.Deep.CutBlock
namespace Go.Proofs.YtdmlncdoibahiabGreatDoor
open Go.RowKit Go.Extern.Stop Go.Stop Go.Extern
set_option maxRecDepth 100000

theorem make_fill (N : Nat) (hN : N ≤ 5000) (w : World) : ∃ C : Array Value, C.size = N ∧ (Instr.makeSlice 38 (.int .i64 N) (.int .i64 N)).run Tryz.prog w = .ok (.slice (some ⟨w.heap.size, 0, none⟩) N N) (w.alloc (.cells C 5)) := by
  obtain ⟨i0, hi, hz0, hz1, hz2⟩ := info_parts3 Tryz.infoByte
  have h := run_makeSlice (P := Tryz.prog) (w := w) 38 5 i0 (.int .u8 0) Tryz.underlying38 hi hz0 .i64 .i64 N N (by omega) (by omega) (by rw [hz1]; omega) (by rw [hz2]; omega) (by omega)
  rw [hz1] at h
  refine ⟨madeCells (Value.int .u8 0).cells (N * 1), by rw [size_madeCells]; simp, ?_⟩
  simpa using h
/-- The first k bytes are c. -/
structure FillAt (g N k : Nat) (c : Int) (w : World) : Prop where
  ex : ∃ C : Array Value, w.heap[g]? = some (.cells C 5 (0, 0)) ∧ C.size = N ∧ ∀ j, j < k → C[j]? = some (.int .u8 c)
theorem FillAt.cell {g N k : Nat} {c : Int} {w : World} (h : FillAt g N k c w) {j : Nat} (hj : j < N) : ∃ u, w.cell? ⟨g, j, none⟩ = some u := by
  obtain ⟨C, h1, h2, -⟩ := h.ex
  exact ⟨C[j], by simp [World.cell?, h1, h2, hj]⟩
theorem FillAt.free {g N k : Nat} {c : Int} {w : World} (h : FillAt g N k c w) (j : Nat) : w.frozen? ⟨g, j, none⟩ = false := by
  obtain ⟨C, h1, -, -⟩ := h.ex
  exact frozen_new h1 j
theorem FillAt.put {g N k : Nat} {c : Int} {w : World} (h : FillAt g N k c w) (hk : k < N) : FillAt g N (k + 1) c (w.setCell ⟨g, k, none⟩ (.int .u8 c)) := by
  obtain ⟨C, h1, h2, h3⟩ := h.ex
  refine ⟨C.setIfInBounds k (.int .u8 c), ?_, by simp [h2], fun j hj => ?_⟩
  · simp only [World.setCell, Array.getElem?_modify, h1]; simp
  · by_cases e : j = k
    · subst e; rw [Array.getElem?_setIfInBounds_self_of_lt (by omega)]
    · rw [Array.getElem?_setIfInBounds_ne (Ne.symm e)]; exact h3 j (by omega)
theorem FillAt.bytes {g N : Nat} {c : Int} {w : World} (h : FillAt g N N c w) (hc : 0 ≤ c ∧ c ≤ 255) (hN : N ≤ 5000) : BytesAt w (.slice (some ⟨g, 0, none⟩) N N) (List.replicate N c) := by
  obtain ⟨C, h1, h2, h3⟩ := h.ex
  refine ⟨_, N, by simp, fun z hz => ?_, by simp; unfold maxLen; omega, fun h => by (cases h), fun _ => ⟨g, 0, rfl, ?_, fun k hk => ?_⟩⟩
  · rw [(List.mem_replicate.1 hz).2]; exact hc
  · rcases Nat.lt_or_ge g w.heap.size with h | h
    · exact h
    · rw [Array.getElem?_eq_none h] at h1; cases h1
  · have hk' : k < N := by simpa using hk
    rw [Nat.zero_add]
    simp [World.cell?, h1, h3 k hk', List.getD, hk']
theorem ofB_list (ns : List Int) : (ofBytes ns).data.toList = ns.map fun n => UInt8.ofNat n.toNat := by
  have key : ∀ (ns : List Int) (r : ByteArray), (ns.foldl (fun r n => r.push (UInt8.ofNat n.toNat)) r).data.toList = r.data.toList ++ ns.map fun n => UInt8.ofNat n.toNat := by
    intro ns
    induction ns with
    | nil => intro r; simp
    | cons n l ih => intro r; rw [List.foldl_cons, ih]; simp [ByteArray.push]
  have := key ns ByteArray.empty
  simpa [ofBytes] using this
theorem ofB_fill (N : Nat) (c : Int) : ofBytes (List.replicate N c) = mkB (List.replicate N (UInt8.ofNat c.toNat)) := by
  rw [← mk_back (ofBytes _), ofB_list]; simp
set_option maxHeartbeats 4000000 in
theorem fill_calls (c : Int) (N : Nat) (hc : 0 ≤ c ∧ c ≤ 255) (hN : N ≤ 5000) (w : World) :
    Calls Tryz.prog 10 #[.int .u8 c, .int .i64 (N : Int)] w fun e w' => e = .returned (.string (mkB (List.replicate N (UInt8.ofNat c.toNat)))) ∧ Below w.heap.size w w' := by
  obtain ⟨C, hC, hmk⟩ := make_fill N hN w
  have hF0 := hidden (show FillAt w.heap.size N 0 c (w.alloc (.cells C 5)) from ⟨C, one_new _ _, hC, fun j hj => absurd hj (Nat.not_lt_zero j)⟩)
  have hB0 := hidden (show Below w.heap.size w (w.alloc (.cells C 5)) from (Below.refl _ _).alloc (Nat.le_refl _) _)
  replace hC := hidden hC
  go_enter Tryz.func10, Tryz.ntmps10
  go_wp2_with fail
  go_loopg [11] N (fun gk i wr => ∃ k : Nat, k ≤ N ∧ gk = N - k ∧ i = .int .i64 (k : Int) ∧ Hid (FillAt w.heap.size N k c wr ∧ Below w.heap.size w wr))
  case atStart => exact ⟨0, Nat.zero_le _, rfl, rfl, hidden ⟨hF0.out, hB0.out⟩⟩
  case round =>
    obtain ⟨k, hk, hg, rfl, hV⟩ := hrel
    replace hg := hidden hg
    by_cases hlt : k < N
    · obtain ⟨u, hu⟩ := hV.out.1.cell hlt
      have hf := hV.out.1.free k
      have hE := hidden (And.intro (hV.out.1.put hlt) (hV.out.2.setCell (p := ⟨w.heap.size, k, none⟩) (Nat.le_refl _) (.int .u8 c)))
      clear hV hmk
      go_wp2
      go_roundg (N - (k + 1))
      case measure => rw [hg.out]; omega
      case rel => exact ⟨k + 1, hlt, rfl, by simp, hidden hE.out⟩
    · obtain rfl : k = N := by omega
      have hcv := conv_bytes _ _ _ (hV.out.1.bytes hc hN)
      rw [ofB_fill] at hcv
      have hB := hidden hV.out.2
      clear hV hmk
      go_wp2
      go_ret
      exact ⟨rfl, hB.out⟩
end Go.Proofs.YtdmlncdoibahiabGreatDoor
