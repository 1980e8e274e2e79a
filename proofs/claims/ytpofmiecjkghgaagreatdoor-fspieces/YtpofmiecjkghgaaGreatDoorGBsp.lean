/- Rows of bytes as they lie in memory, and as texts; a number laid over a mask. -/
import Derived.Test.YtpofmiecjkghgaaGreatDoorGAsp
import Derived.Test.YtpofmiecjkghgaaGreatDoorApp
import Derived.Laws.IdiomCopy
import Derived.Laws.Rows
import Derived.Deep.LoopGhost
import Derived.Deep.RegionWith
import Derived.Deep.Matrix
import Derived.Deep.QuietTactic
import Derived.BigQuiet
namespace Go.Proofs.YtpofmiecjkghgaaGreatDoor
open Go.RowKit Go.Extern.Stop Go.Stop Go.Extern
set_option maxRecDepth 100000
def BytesAt (w : World) (v : Value) (zs : List Int) : Prop :=
  ∃ a cap, v = .slice a zs.length cap /\ (∀ z ∈ zs, 0 <= z /\ z <= 255) /\ zs.length <= maxLen /\ (a = none -> cap = 0) /\
    (zs ≠ [] -> ∃ b off, a = some ⟨b, off, none⟩ /\ b < w.heap.size /\ ∀ k, k < zs.length -> w.cell? ⟨b, off + k, none⟩ = some (.int .u8 (zs.getD k 0)))
theorem BytesAt.nil (w : World) : BytesAt w (.slice none 0 0) [] := ⟨none, 0, rfl, by simp, by simp, fun _ => rfl, fun h => (h rfl).elim⟩
theorem BytesAt.below {w w' : World} {v : Value} {zs : List Int} (h : BytesAt w v zs) (hb : Below w.heap.size w w') : BytesAt w' v zs := by
  obtain ⟨a, cap, hv, hr, hm, hn, hc⟩ := h
  refine ⟨a, cap, hv, hr, hm, hn, fun hne => ?_⟩
  obtain ⟨b, off, ha, hlt, hk⟩ := hc hne
  exact ⟨b, off, ha, Nat.lt_of_lt_of_le hlt hb.size, fun k hlk => (hb.cell (p := ⟨b, off + k, none⟩) hlt).trans (hk k hlk)⟩
theorem getD_map {zs : List Int} {k : Nat} (h : k < zs.length) : (zs.map (Value.int .u8))[k]? = some (.int .u8 (zs.getD k 0)) := by
  simp [List.getD, h]
def ofBytes (ns : List Int) : ByteArray := ns.foldl (fun r n => r.push (UInt8.ofNat n.toNat)) ByteArray.empty
theorem conv_bytes (w : World) (v : Value) (zs : List Int) (h : BytesAt w v zs) : (convert 38 9 v).run Tryz.prog w = .ok (.string (ofBytes zs)) w := by
  obtain ⟨a, cap, rfl, hr, hm, hn, hc⟩ := h
  rw [run_convert_bytes_string _ _ _ _ _ _ _ Tryz.underlying38 Tryz.underlying5 Tryz.underlying9]
  cases a with
  | none =>
    have hz : zs = [] := by
      rcases Classical.em (zs = []) with h | h
      · exact h
      · obtain ⟨b, off, hb, _⟩ := hc h; cases hb
    subst hz
    simp [Conv.bytesToString, ofBytes, Sem.run_pure]
  | some a =>
    refine run_bytesToString _ _ _ _ zs ?_
    have := run_loadCells_list (P := Tryz.prog) (w := w) a (zs.map (Value.int .u8)) ?_
    · simpa using this
    · intro j u hu
      have hj : j < zs.length := by
        rcases Nat.lt_or_ge j zs.length with h | h
        · exact h
        · rw [List.getElem?_eq_none (by simpa using h)] at hu; cases hu
      obtain ⟨b, off, hb, _, hcell⟩ := hc (by intro h; rw [h] at hj; simp at hj)
      cases hb
      rw [getD_map hj] at hu
      rw [Go.WideShapes.add_plain, hcell j hj]
      exact hu
theorem and_low (x : Int) (m : Nat) (hm : m < 4611686018427387904) : 0 <= bits .and .i64 x (m : Int) /\ bits .and .i64 x (m : Int) <= (m : Int) := by
  have h1 : bits .and .i64 x (m : Int) = IntKind.i64.wrap (((BitVec.ofInt 64 x &&& BitVec.ofInt 64 (m : Int)).toNat : Nat) : Int) := rfl
  have h2 : (BitVec.ofInt 64 x &&& BitVec.ofInt 64 (m : Int)).toNat <= m := by
    rw [BitVec.toNat_and]
    refine Nat.le_trans Nat.and_le_right ?_
    rw [BitVec.toNat_ofInt]
    have : ((m : Int) % (2 ^ 64 : Nat)).toNat = m := by omega
    omega
  generalize (BitVec.ofInt 64 x &&& BitVec.ofInt 64 (m : Int)).toNat = z at h1 h2
  have h3 : IntKind.i64.wrap (z : Int) = z := by
    have h4 : (z : Int) % (2 ^ 64 : Int) = z := by omega
    simp only [IntKind.wrap, IntKind.bits, IntKind.signed, h4]
    rw [if_neg (by simp; omega)]
  rw [h1, h3]
  omega
theorem cells_new (w : World) (cs : Array Value) (t : TypeId) (k : Nat) : (w.alloc (.cells cs t)).cell? ⟨w.heap.size, k, none⟩ = cs[k]? := by simp
theorem info_parts3 {P : Program} {t : TypeId} {z : Option Value} {a b : Nat} (h : (P.info? t).map (fun i => (i.zero, i.size, i.bytes)) = some (z, a, b)) : ∃ i, P.info? t = some i /\ i.zero = z /\ i.size = a /\ i.bytes = b := by
  obtain ⟨i, hi, he⟩ := Option.map_eq_some_iff.1 h
  simp only [Prod.mk.injEq] at he
  exact ⟨i, hi, he.1, he.2.1, he.2.2⟩
theorem Tryz.infoByte : (Tryz.prog.info? 5).map (fun i => (i.zero, i.size, i.bytes)) = some (some (.int .u8 0), 1, 1) := by kernel_rfl
theorem made_bytes (N : Nat) : madeCells (Value.int .u8 0).cells (N * 1) = Array.replicate N (.int .u8 0) := by
  apply Array.ext
  · simp [size_madeCells]
  · intro i h1 h2
    simp [madeCells, Value.cells, Nat.mod_one]
theorem make_block (w : World) : (Instr.makeSlice 38 (.int .i64 128) (.int .i64 128)).run Tryz.prog w = .ok (.slice (some ⟨w.heap.size, 0, none⟩) 128 128) (w.alloc (.cells (Array.replicate 128 (.int .u8 0)) 5)) := by
  obtain ⟨i0, hi, hz0, hz1, hz2⟩ := info_parts3 Tryz.infoByte
  have h := run_makeSlice (P := Tryz.prog) (w := w) 38 5 i0 (.int .u8 0) Tryz.underlying38 hi hz0 .i64 .i64 128 128 (by omega) (by omega) (by rw [hz1]; simp) (by rw [hz2]; omega) (by omega)
  rw [hz1] at h
  have e : Int.toNat 128 = 128 := rfl
  simp only [e, made_bytes] at h
  exact h
abbrev fcells (op nm : ByteArray) (e : Value) : Obj := .cells #[.string op, .string nm, e] 74
theorem wrap_nil (op nm : ByteArray) (w : World) :
    Calls Tryz.prog 33 #[.string op, .string nm, .nilIface] w fun e w' => e = .returned .nilIface /\ w' = w := by
  go_enter Tryz.func33, Tryz.ntmps33
  go_wp2
  go_ret
  exact ⟨rfl, rfl⟩
theorem wrap_some (op nm : ByteArray) (u : TypeId) (v : Value) (w : World) :
    Calls Tryz.prog 33 #[.string op, .string nm, .iface u v] w fun e w' => e = .returned (flt w.heap.size) /\ w' = w.alloc (fcells op nm (.iface u v)) := by
  go_enter Tryz.func33, Tryz.ntmps33
  go_wp2
  go_ret
  exact ⟨rfl, rfl⟩
theorem Chain.alloc {w : World} {l : List (ByteArray × ByteArray)} {bot e : Value} (op nm : ByteArray) (hc : Chain w l bot e) : Chain (w.alloc (fcells op nm e)) ((op, nm) :: l) bot (flt w.heap.size) :=
  ⟨w.heap.size, e, rfl, by simp, ⟨_, _, by show (w.heap.push _)[w.heap.size]? = _; rw [Array.getElem?_push, if_pos rfl]⟩, by simp, by simp, by simp, hc.below ((Below.refl _ _).alloc (Nat.le_refl _) _)⟩
end Go.Proofs.YtpofmiecjkghgaaGreatDoor
