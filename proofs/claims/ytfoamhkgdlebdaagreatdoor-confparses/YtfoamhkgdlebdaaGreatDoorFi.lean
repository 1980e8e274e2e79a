/- What the statements call Fill: a new row of 128 bytes by a number. -/
import Derived.Test.YtfoamhkgdlebdaaGreatDoorBs
namespace Go.Proofs.YtfoamhkgdlebdaaGreatDoor
open Go.RowKit Go.Extern.Stop Go.Stop Go.Extern
set_option maxRecDepth 100000

theorem info_parts3 {P : Program} {t : TypeId} {z : Option Value} {a b : Nat} (h : (P.info? t).map (fun i => (i.zero, i.size, i.bytes)) = some (z, a, b)) : ∃ i, P.info? t = some i ∧ i.zero = z ∧ i.size = a ∧ i.bytes = b := by
  obtain ⟨i, hi, he⟩ := Option.map_eq_some_iff.1 h
  simp only [Prod.mk.injEq] at he
  exact ⟨i, hi, he.1, he.2.1, he.2.2⟩
theorem Tryz.infoByte : (Tryz.prog.info? 5).map (fun i => (i.zero, i.size, i.bytes)) = some (some (.int .u8 0), 1, 1) := by kernel_rfl
theorem made_bytes (N : Nat) : madeCells (Value.int .u8 0).cells (N * 1) = Array.replicate N (.int .u8 0) := by
  apply Array.ext
  · simp [size_madeCells]
  · intro i h1 h2
    simp [madeCells, Value.cells, Nat.mod_one]
theorem make_block (w : World) : (Instr.makeSlice 61 (.int .i64 128) (.int .i64 128)).run Tryz.prog w = .ok (.slice (some ⟨w.heap.size, 0, none⟩) 128 128) (w.alloc (.cells (Array.replicate 128 (.int .u8 0)) 5)) := by
  obtain ⟨i0, hi, hz0, hz1, hz2⟩ := info_parts3 Tryz.infoByte
  have h := run_makeSlice (P := Tryz.prog) (w := w) 61 5 i0 (.int .u8 0) Tryz.underlying61 hi hz0 .i64 .i64 128 128 (by omega) (by omega) (by rw [hz1]; simp) (by rw [hz2]; omega) (by omega)
  rw [hz1] at h
  have e : Int.toNat 128 = 128 := rfl
  simp only [e, made_bytes] at h
  exact h
/-- The byte at place i of Fill(n). -/
def fillB (n : Int) (i : Nat) : Int := wrap64 (n + wrap64 ((i : Int) * bits .and .i64 (n / 256) 7)) % 256
def fillL (n : Int) : List Int := (List.range 128).map (fillB n)
def fillA (n : Int) (k : Nat) : Array Value := ((List.range 128).map fun j => Value.int .u8 (if j < k then fillB n j else 0)).toArray
theorem fillL_len (n : Int) : (fillL n).length = 128 := by simp [fillL]
theorem fillL_range (n : Int) : ∀ z ∈ fillL n, 0 ≤ z ∧ z ≤ 255 := by
  intro z hz
  obtain ⟨i, _, rfl⟩ := List.mem_map.1 hz
  unfold fillB
  omega
theorem fillA_get (n : Int) (k j : Nat) (hj : j < 128) : (fillA n k)[j]? = some (.int .u8 (if j < k then fillB n j else 0)) := by
  simp [fillA, hj]
theorem fillA_size (n : Int) (k : Nat) : (fillA n k).size = 128 := by simp [fillA]
theorem fillA_zero (n : Int) : fillA n 0 = Array.replicate 128 (.int .u8 0) := by
  apply Array.ext_getElem?
  intro j
  by_cases hj : j < 128
  · rw [fillA_get n 0 j hj]; simp [hj]
  · rw [Array.getElem?_eq_none (by rw [fillA_size]; omega), Array.getElem?_eq_none (by simp; omega)]
theorem fillA_succ (n : Int) (k : Nat) (hk : k < 128) : (fillA n k).setIfInBounds k (.int .u8 (fillB n k)) = fillA n (k + 1) := by
  apply Array.ext_getElem?
  intro j
  by_cases hj : j < 128
  · rw [fillA_get n (k + 1) j hj, Array.getElem?_setIfInBounds]
    by_cases h : k = j
    · subst h; simp [fillA_size, hk]
    · rw [if_neg h, fillA_get n k j hj]
      have : (j < k + 1) = (j < k) := by simp; omega
      simp only [this]
  · rw [Array.getElem?_eq_none (by simp [fillA_size]; omega), Array.getElem?_eq_none (by rw [fillA_size]; omega)]
theorem fillA_all (n : Int) : fillA n 128 = ((fillL n).map (Value.int .u8)).toArray := by
  apply Array.ext_getElem?
  intro j
  by_cases hj : j < 128
  · rw [fillA_get n 128 j hj]; simp [fillL, hj]
  · rw [Array.getElem?_eq_none (by rw [fillA_size]; omega), Array.getElem?_eq_none (by simp [fillL]; omega)]
theorem fillA_bytes (n : Int) (w : World) : BytesAt (w.alloc (.cells (fillA n 128) 5)) (.slice (some ⟨w.heap.size, 0, none⟩) 128 128) (fillL n) :=
  ⟨_, 128, by rw [fillL_len], fillL_range n, by rw [fillL_len]; decide, fun h => (by cases h), fun _ => ⟨_, _, rfl, by simp, fun k hk => by
    rw [Nat.zero_add, cells_new, fillA_all, List.getElem?_toArray, getD_map hk]⟩⟩

end Go.Proofs.YtfoamhkgdlebdaaGreatDoor
