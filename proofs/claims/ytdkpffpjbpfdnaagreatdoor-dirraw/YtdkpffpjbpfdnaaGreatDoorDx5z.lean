/- DirRaw: bytes with one of them turned; what its pieces share. -/
import Derived.Test.YtdkpffpjbpfdnaaGreatDoorDx3z
import Derived.Test.YtdkpffpjbpfdnaaGreatDoorDx4z
import Derived.Test.YtdkpffpjbpfdnaaGreatDoorGDf
import Derived.Test.YtdkpffpjbpfdnaaGreatDoorGIh
namespace Go.Proofs.YtdkpffpjbpfdnaaGreatDoor
open Go.RowKit Go.Extern.Stop Go.Stop Go.Extern Go.Maps Go.Sort Go.Shelf
set_option maxRecDepth 100000

theorem Tryz.infoRecX : (Tryz.prog.info? 64).map (fun i => (i.zero, i.size, i.bytes)) = some (some (.agg #[.string ⟨#[]⟩, .int .i64 0]), 2, 24) := by kernel_rfl
/-- A list of ints, as it lies in memory. -/
def IntsIn (w : World) (v : Value) (zs : List Int) : Prop :=
  ∃ a cap, v = .slice a zs.length cap ∧ zs.length ≤ maxLen ∧ (zs ≠ [] → ∃ b off, a = some ⟨b, off, none⟩ ∧ b < w.heap.size ∧ ∀ k, k < zs.length → w.cell? ⟨b, off + k, none⟩ = some (.int .i64 (zs.getD k 0)))
def SBb (B : Nat) (w wx : World) : Prop := Below B w wx
theorem SBb.mk {B : Nat} {w wx : World} (h : Below B w wx) : SBb B w wx := h
theorem SBb.out {B : Nat} {w wx : World} (h : SBb B w wx) : Below B w wx := h
def SBl (w wx : World) : Prop := Below w.heap.size w wx
theorem SBl.mk {w wx : World} (h : Below w.heap.size w wx) : SBl w wx := h
theorem SBl.out {w wx : World} (h : SBl w wx) : Below w.heap.size w wx := h
theorem SBb.more {B : Nat} {w wx wy : World} (h : SBb B w wx) (h2 : Below B wx wy) : SBb B w wy := h.out.trans h2
theorem bytes_ofF (m : Nat) (w : World) (d : List Int) (hd : ∀ z ∈ d, 0 ≤ z ∧ z ≤ 255) (hl : d.length ≤ 1000000) (hm : m < w.heap.size) :
    ∃ cap w', (convert 9 44 (.string (ofBytes d))).run Tryz.prog w = .ok (.slice (some ⟨w.heap.size, 0, none⟩) d.length cap) w' ∧ BytesC m w' (.slice (some ⟨w.heap.size, 0, none⟩) d.length cap) d ∧ (∀ j, j < d.length → w'.frozen? ⟨w.heap.size, j, none⟩ = false) ∧ Below w.heap.size w w' := by
  have hs := ofB_size d
  have h := Lib.run_convert_string_bytes (P := Tryz.prog) w 9 44 5 (ofBytes d) Tryz.underlying9 Tryz.underlying44 Tryz.underlying5
  rw [hs] at h
  refine ⟨_, _, h, ⟨_, _, rfl, grownCap_ge _ _ _ _, grownCap_le_maxLen _ _ _ _ (by unfold maxLen; omega), hd, fun e => (by cases e), fun _ => ⟨w.heap.size, 0, rfl, by rw [Lib.bytesWorld_size]; omega, by omega, fun k hk => ?_⟩⟩, fun j hj => ?_, ⟨rfl, rfl, rfl, by rw [Lib.bytesWorld_size]; omega, fun j hj => Lib.bytesWorld_at_old w _ _ j hj⟩⟩
  · rw [Nat.zero_add, Lib.bytesWorld_cell w _ _ k (by rw [hs]; exact hk), ofB_list]
    have hz := hd (d[k]) (List.getElem_mem hk)
    simp [List.getD, hk]
    omega
  · have hb := Lib.bytesWorld_at_new w 5 (ofBytes d)
    have hsz : (Lib.bytesCells w 5 (ofBytes d)).size ≥ d.length := by
      have := grownCap_ge w d.length 0 5
      simp [Lib.bytesCells, hs]
    simp [World.frozen?, hb]
    omega
theorem BytesC.set {m : Nat} {w : World} {b L cap : Nat} {zs : List Int} (h : BytesC m w (.slice (some ⟨b, 0, none⟩) L cap) zs) {j : Nat} (hj : j < zs.length) {y : Int} (hy : 0 ≤ y ∧ y ≤ 255) : BytesC m (w.setCell ⟨b, j, none⟩ (.int .u8 y)) (.slice (some ⟨b, 0, none⟩) L cap) (zs.set j y) := by
  obtain ⟨a', cap', hv, h1, h2, h3, h4, hc⟩ := h
  obtain ⟨rfl, rfl, rfl⟩ := Value.slice.inj hv
  obtain ⟨b', off, e, hb, hm, hk⟩ := hc (by rintro rfl; simp at hj)
  simp only [Option.some.injEq, Addr.mk.injEq] at e
  obtain ⟨rfl, rfl, -⟩ := e
  refine ⟨_, cap, by rw [List.length_set], by rw [List.length_set]; exact h1, h2, fun z hz => ?_, fun e => (by cases e), fun _ => ⟨b, 0, rfl, by simpa using hb, hm, fun k hk' => ?_⟩⟩
  · rcases List.mem_or_eq_of_mem_set hz with hz | rfl
    · exact h3 z hz
    · exact hy
  · rw [List.length_set] at hk'
    rw [Nat.zero_add]
    by_cases e : k = j
    · subst e
      rw [World.cell?_setCell_same' _ _ _ (by have := hk k hj; rw [Nat.zero_add] at this; rw [this]; rfl)]
      simp [List.getD, hj]
    · rw [World.cell?_setCell_other _ _ _ _ (by intro x; have := congrArg Addr.off x; simp at this; omega)]
      have := hk k hk'
      rw [Nat.zero_add] at this
      rw [this]
      congr 2
      simp only [List.getD_eq_getElem?_getD]
      rw [List.getElem?_set_ne (by omega)]
theorem two_cells (W : World) (x y : Value) (T : TypeId) (n : Nat) (hn : W.heap.size = n) : (W.alloc (.cells #[x, y] T)).cell? ⟨n, 0, none⟩ = some x ∧ (W.alloc (.cells #[x, y] T)).cell? ⟨n, 0 + 1, none⟩ = some y := by
  subst hn
  simp
theorem BytesC.lt0 {m : Nat} {w : World} {b L cap : Nat} {zs : List Int} (h : BytesC m w (.slice (some ⟨b, 0, none⟩) L cap) zs) (h0 : 0 < zs.length) : b < w.heap.size := by
  obtain ⟨a', cap', hv, h1, h2, h3, h4, hc⟩ := h
  obtain ⟨rfl, rfl, rfl⟩ := Value.slice.inj hv
  obtain ⟨b', off, e, hb, hm, hk⟩ := hc (by rintro rfl; simp at h0)
  simp only [Option.some.injEq, Addr.mk.injEq] at e
  obtain ⟨rfl, rfl, -⟩ := e
  exact hb
theorem BytesC.cell0 {m : Nat} {w : World} {b L cap j : Nat} {zs : List Int} (h : BytesC m w (.slice (some ⟨b, 0, none⟩) L cap) zs) (h0 : j < zs.length) : w.cell? ⟨b, j, none⟩ = some (.int .u8 (zs.getD j 0)) := by
  obtain ⟨a', cap', hv, h1, h2, h3, h4, hc⟩ := h
  obtain ⟨rfl, rfl, rfl⟩ := Value.slice.inj hv
  obtain ⟨b', off, e, hb, hm, hk⟩ := hc (by rintro rfl; simp at h0)
  simp only [Option.some.injEq, Addr.mk.injEq] at e
  obtain ⟨rfl, rfl, -⟩ := e
  have := hk j h0
  rwa [Nat.zero_add] at this
theorem BytesC.range {m : Nat} {w : World} {v : Value} {zs : List Int} (h : BytesC m w v zs) : ∀ z ∈ zs, 0 ≤ z ∧ z ≤ 255 := by
  obtain ⟨a', cap', hv, h1, h2, h3, -⟩ := h
  exact h3
theorem KeptT.first {base : Nat} {w : World} {a : Option Addr} {L cap : Nat} {l : List (List UInt8)} (h : KeptT base w (.slice a L cap) l) (h0 : 0 < l.length) : ∃ b, a = some ⟨b, 0, none⟩ := by
  rcases h.row.2 with ⟨hv, h1⟩ | ⟨g, cap', cur, hv, -⟩
  · omega
  · obtain ⟨rfl, -, -⟩ := Value.slice.inj hv
    exact ⟨g, rfl⟩
theorem xor_byte (a b : Int) : ∃ y, bits .xor .u8 a b = y ∧ 0 ≤ y ∧ y ≤ 255 := ⟨_, rfl, by
  have h : bits .xor .u8 a b = IntKind.u8.wrap (((BitVec.ofInt 8 a ^^^ BitVec.ofInt 8 b).toNat : Nat) : Int) := rfl
  rw [h, u8w]
  omega⟩
theorem sortS_lt {l : List (List UInt8)} (hn : l.Nodup) {i : Nat} {x y : List UInt8} (hx : (sortS l)[i]? = some x) (hy : (sortS l)[i + 1]? = some y) : x < y := by
  have hup := sortS_up l
  have hnd : (sortS l).Nodup := (sortS_perm l).nodup_iff.2 hn
  obtain ⟨hi, rfl⟩ := List.getElem?_eq_some_iff.1 hx
  obtain ⟨hj, rfl⟩ := List.getElem?_eq_some_iff.1 hy
  have h1 := List.pairwise_iff_getElem.1 hup i (i + 1) hi hj (by omega)
  have h2 := List.pairwise_iff_getElem.1 hnd i (i + 1) hi hj (by omega)
  exact Decidable.byContradiction fun h => h2 (le_an h1 (nlt_le h))
end Go.Proofs.YtdkpffpjbpfdnaaGreatDoor
