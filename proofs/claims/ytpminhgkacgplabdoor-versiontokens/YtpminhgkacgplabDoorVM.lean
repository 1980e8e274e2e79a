/- Rows of bytes as they lie in memory, and as texts; a number laid over a mask. -/
import Derived.Test.YtpminhgkacgplabDoorV8
import Derived.Laws.IdiomCopy
import Derived.Laws.Rows
import Derived.Deep.LoopGhost
import Derived.Deep.RegionWith
import Derived.Deep.Matrix
import Derived.Deep.QuietTactic
import Derived.BigQuiet
namespace Go.Proofs.YtpminhgkacgplabDoor
open Go Go.RowKit
set_option maxRecDepth 100000

/-- A value that is a slice of bytes, as it lies in memory. -/
def BytesAt (w : World) (v : Value) (zs : List Int) : Prop :=
  ∃ a cap, v = .slice a zs.length cap ∧ (∀ z ∈ zs, 0 ≤ z ∧ z ≤ 255) ∧ zs.length ≤ maxLen ∧ (a = none → cap = 0) ∧
    (zs ≠ [] → ∃ b off, a = some ⟨b, off, none⟩ ∧ b < w.heap.size ∧ ∀ k, k < zs.length → w.cell? ⟨b, off + k, none⟩ = some (.int .u8 (zs.getD k 0)))
theorem BytesAt.nil (w : World) : BytesAt w (.slice none 0 0) [] := ⟨none, 0, rfl, by simp, by simp, fun _ => rfl, fun h => (h rfl).elim⟩
theorem BytesAt.below {w w' : World} {v : Value} {zs : List Int} (h : BytesAt w v zs) (hb : Below w.heap.size w w') : BytesAt w' v zs := by
  obtain ⟨a, cap, hv, hr, hm, hn, hc⟩ := h
  refine ⟨a, cap, hv, hr, hm, hn, fun hne => ?_⟩
  obtain ⟨b, off, ha, hlt, hk⟩ := hc hne
  exact ⟨b, off, ha, Nat.lt_of_lt_of_le hlt hb.size, fun k hlk => (hb.cell (p := ⟨b, off + k, none⟩) hlt).trans (hk k hlk)⟩
theorem getD_map {zs : List Int} {k : Nat} (h : k < zs.length) : (zs.map (Value.int .u8))[k]? = some (.int .u8 (zs.getD k 0)) := by
  simp [List.getD, h]
def ofBytes (ns : List Int) : ByteArray := ns.foldl (fun r n => r.push (UInt8.ofNat n.toNat)) ByteArray.empty
/-- A row of bytes as a text. -/
theorem conv_bytes (w : World) (v : Value) (zs : List Int) (h : BytesAt w v zs) : (convert 22 9 v).run Tryd.prog w = .ok (.string (ofBytes zs)) w := by
  obtain ⟨a, cap, rfl, hr, hm, hn, hc⟩ := h
  rw [run_convert_bytes_string _ _ _ _ _ _ _ Tryd.underlying22 Tryd.underlying5 Tryd.underlying9]
  cases a with
  | none =>
    have hz : zs = [] := by
      rcases Classical.em (zs = []) with h | h
      · exact h
      · obtain ⟨b, off, hb, _⟩ := hc h; cases hb
    subst hz
    simp [Conv.bytesToString, ofBytes, Sem.run_pure]
  | some a =>
    refine run_bytesToString _ _ _ _ zs ?_
    have := run_loadCells_list (P := Tryd.prog) (w := w) a (zs.map (Value.int .u8)) ?_
    · simpa using this
    · intro j u hu
      have hj : j < zs.length := by
        rcases Nat.lt_or_ge j zs.length with h | h
        · exact h
        · rw [List.getElem?_eq_none (by simpa using h)] at hu; cases hu
      obtain ⟨b, off, hb, _, hcell⟩ := hc (by intro h; rw [h] at hj; simp at hj)
      cases hb
      rw [getD_map hj] at hu
      rw [Go.WideShapes.add_plain, hcell j hj]
      exact hu
/-- A number laid over a mask is within it. -/
theorem and_low (x : Int) (m : Nat) (hm : m < 4611686018427387904) : 0 ≤ bits .and .i64 x (m : Int) ∧ bits .and .i64 x (m : Int) ≤ (m : Int) := by
  have h1 : bits .and .i64 x (m : Int) = IntKind.i64.wrap (((BitVec.ofInt 64 x &&& BitVec.ofInt 64 (m : Int)).toNat : Nat) : Int) := rfl
  have h2 : (BitVec.ofInt 64 x &&& BitVec.ofInt 64 (m : Int)).toNat ≤ m := by
    rw [BitVec.toNat_and]
    refine Nat.le_trans Nat.and_le_right ?_
    rw [BitVec.toNat_ofInt]
    have : ((m : Int) % (2 ^ 64 : Nat)).toNat = m := by omega
    omega
  generalize (BitVec.ofInt 64 x &&& BitVec.ofInt 64 (m : Int)).toNat = z at h1 h2
  have h3 : IntKind.i64.wrap (z : Int) = z := by
    have h4 : (z : Int) % (2 ^ 64 : Int) = z := by omega
    simp only [IntKind.wrap, IntKind.bits, IntKind.signed, h4]
    rw [if_neg (by simp; omega)]
  rw [h1, h3]
  omega
theorem u8_range (x : Int) : 0 ≤ IntKind.u8.wrap x ∧ IntKind.u8.wrap x ≤ 255 := by
  simp only [IntKind.wrap, IntKind.bits, IntKind.signed]
  simp
  omega

/-- A new row of cells. -/
theorem cells_new (w : World) (cs : Array Value) (t : TypeId) (k : Nat) : (w.alloc (.cells cs t)).cell? ⟨w.heap.size, k, none⟩ = cs[k]? := by simp
theorem Tryd.infoByte : (Tryd.prog.info? 5).map (fun i => (i.zero, i.size, i.bytes)) = some (some (.int .u8 0), 1, 1) := by kernel_rfl
theorem frozen_new {w : World} {b : Nat} {c : Array Value} {T : TypeId} (h : w.heap[b]? = some (.cells c T)) (j : Nat) : w.frozen? ⟨b, j, none⟩ = false := by
  simp only [World.frozen?, h]; simp
theorem one_new (w : World) (o : Obj) : (w.alloc o).heap[w.heap.size]? = some o := by
  show (w.heap.push _)[w.heap.size]? = _
  rw [Array.getElem?_push, if_pos rfl]
set_option maxHeartbeats 4000000 in
theorem make_fill (N : Nat) (hN : N ≤ 5000) (w : World) : ∃ C : Array Value, C.size = N ∧ (Instr.makeSlice 22 (.int .i64 N) (.int .i64 N)).run Tryd.prog w = .ok (.slice (some ⟨w.heap.size, 0, none⟩) N N) (w.alloc (.cells C 5)) := by
  obtain ⟨i0, hi, hz0, hz1, hz2⟩ := info_parts3 Tryd.infoByte
  have h := run_makeSlice (P := Tryd.prog) (w := w) 22 5 i0 (.int .u8 0) Tryd.underlying22 hi hz0 .i64 .i64 N N (by omega) (by omega) (by rw [hz1]; omega) (by rw [hz2]; omega) (by omega)
  rw [hz1] at h
  refine ⟨madeCells (Value.int .u8 0).cells (N * 1), by rw [size_madeCells]; simp, ?_⟩
  simpa using h
/-- The first k bytes are c. -/
structure FillAt (g N k : Nat) (c : Int) (w : World) : Prop where
  ex : ∃ C : Array Value, w.heap[g]? = some (.cells C 5 (0, 0)) ∧ C.size = N ∧ ∀ j, j < k → C[j]? = some (.int .u8 c)
theorem FillAt.cell {g N k : Nat} {c : Int} {w : World} (h : FillAt g N k c w) {j : Nat} (hj : j < N) : ∃ u, w.cell? ⟨g, j, none⟩ = some u := by
  obtain ⟨C, h1, h2, -⟩ := h.ex
  exact ⟨C[j], by simp [World.cell?, h1, h2, hj]⟩
theorem FillAt.free {g N k : Nat} {c : Int} {w : World} (h : FillAt g N k c w) (j : Nat) : w.frozen? ⟨g, j, none⟩ = false := by
  obtain ⟨C, h1, -, -⟩ := h.ex
  exact frozen_new h1 j
theorem FillAt.put {g N k : Nat} {c : Int} {w : World} (h : FillAt g N k c w) (hk : k < N) : FillAt g N (k + 1) c (w.setCell ⟨g, k, none⟩ (.int .u8 c)) := by
  obtain ⟨C, h1, h2, h3⟩ := h.ex
  refine ⟨C.setIfInBounds k (.int .u8 c), ?_, by simp [h2], fun j hj => ?_⟩
  · simp only [World.setCell, Array.getElem?_modify, h1]; simp
  · by_cases e : j = k
    · subst e; rw [Array.getElem?_setIfInBounds_self_of_lt (by omega)]
    · rw [Array.getElem?_setIfInBounds_ne (Ne.symm e)]; exact h3 j (by omega)
theorem FillAt.bytes {g N : Nat} {c : Int} {w : World} (h : FillAt g N N c w) (hc : 0 ≤ c ∧ c ≤ 255) (hN : N ≤ 5000) : BytesAt w (.slice (some ⟨g, 0, none⟩) N N) (List.replicate N c) := by
  obtain ⟨C, h1, h2, h3⟩ := h.ex
  refine ⟨_, N, by simp, fun z hz => ?_, by simp; unfold maxLen; omega, fun h => by (cases h), fun _ => ⟨g, 0, rfl, ?_, fun k hk => ?_⟩⟩
  · rw [(List.mem_replicate.1 hz).2]; exact hc
  · rcases Nat.lt_or_ge g w.heap.size with h | h
    · exact h
    · rw [Array.getElem?_eq_none h] at h1; cases h1
  · have hk' : k < N := by simpa using hk
    rw [Nat.zero_add]
    simp [World.cell?, h1, h3 k hk', List.getD, hk']
theorem ofB_list (ns : List Int) : (ofBytes ns).data.toList = ns.map fun n => UInt8.ofNat n.toNat := by
  have key : ∀ (ns : List Int) (r : ByteArray), (ns.foldl (fun r n => r.push (UInt8.ofNat n.toNat)) r).data.toList = r.data.toList ++ ns.map fun n => UInt8.ofNat n.toNat := by
    intro ns
    induction ns with
    | nil => intro r; simp
    | cons n l ih => intro r; rw [List.foldl_cons, ih]; simp [ByteArray.push]
  have := key ns ByteArray.empty
  simpa [ofBytes] using this
theorem ofB_fill (N : Nat) (c : Int) : ofBytes (List.replicate N c) = mkB (List.replicate N (UInt8.ofNat c.toNat)) := by
  rw [← mk_back (ofBytes _), ofB_list]; simp
end Go.Proofs.YtpminhgkacgplabDoor
