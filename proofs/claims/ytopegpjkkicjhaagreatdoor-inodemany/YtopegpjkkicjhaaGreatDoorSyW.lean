/- A Disk that a statement has made: its calls, one behind the other. -/
import Derived.Test.YtopegpjkkicjhaaGreatDoorLiW
namespace Go.Proofs.YtopegpjkkicjhaaGreatDoor
open Go.RowKit Go.Extern.Stop Go.Stop Go.Extern
set_option maxRecDepth 100000

structure Sys (w0 : World) (d g n : Nat) (mem : Nat → Int) (writes left : Int) (w : World) : Prop where
  base : Ground w0
  disk : DiskAt d g n mem writes left w
  below : Below w0.heap.size w0 w
  hd : w0.heap.size ≤ d
  hg : w0.heap.size ≤ g
theorem Sys.ground {w0 : World} {d g n : Nat} {mem : Nat → Int} {writes left : Int} {w : World} (h : Sys w0 d g n mem writes left w) : Ground w := h.base.below h.below
theorem Sys.step {w0 : World} {d g n : Nat} {mem mem' : Nat → Int} {writes left writes' left' : Int} {w w' : World} (h : Sys w0 d g n mem writes left w) (hD : DiskAt d g n mem' writes' left' w') (ha : Apart [d, g] w w') : Sys w0 d g n mem' writes' left' w' :=
  ⟨h.base, hD, h.below.trans (ha.below (by simp; exact ⟨h.hd, h.hg⟩) h.below.size), h.hd, h.hg⟩
theorem Sys.more {w0 : World} {d g n : Nat} {mem : Nat → Int} {writes left : Int} {w w' : World} (h : Sys w0 d g n mem writes left w) (hb : Below w.heap.size w w') : Sys w0 d g n mem writes left w' :=
  h.step (h.disk.below hb) (Apart.of_below hb)

theorem sys_new (N : Nat) (h16 : 16 ≤ N) (hN : N ≤ 2048) (w : World) (hG : Ground w) :
    Calls Tryz.prog 55 #[.int .i64 N] w fun e w' => e = .returned (.tuple #[ptr (w.heap.size + 1), .nilIface]) ∧ Sys w (w.heap.size + 1) w.heap.size N (fun _ => 0) 0 (-1) w' :=
  (new_good N h16 hN w).mono fun _ _ ⟨h1, h2, h3⟩ => ⟨h1, hG, h2, h3, by omega, by omega⟩
section
variable {w0 : World} {d g n : Nat} {mem : Nat → Int} {writes left : Int} {w : World}
theorem sys_blocks (h : Sys w0 d g n mem writes left w) : Calls Tryz.prog 92 #[ptr d] w fun e w' => e = .returned (.int .i64 n) ∧ w' = w := nblocks_calls h.disk
theorem sys_dead (h : Sys w0 d g n mem writes left w) : Calls Tryz.prog 171 #[ptr d] w fun e w' => e = .returned (.bool (left == 0)) ∧ w' = w := dead_calls h.disk
/-- What is left behind a Fuse. -/
def fused (left f : Int) : Int := if left = 0 then 0 else max f (-1)
theorem sys_write (h : Sys w0 d g n mem writes left w) (i : Nat) (hi : i < n) (v : Value) (zs : List Int) (hv : BytesAt w v zs) (hz : zs.length = 128) (hl : left ≠ 0) (hl2 : left ≤ 9223372036854775807 ∧ -1 ≤ left) (hw : 0 ≤ writes ∧ writes < 1000000000) :
    Calls Tryz.prog 132 #[ptr d, .int .i64 i, v] w fun e w' => e = .returned .nilIface ∧ Sys w0 d g n (memW i zs mem) (writes + 1) (burnt left) w' ∧ Apart [d, g] w w' :=
  (write_good h.disk i hi v zs hv hz (by simpa using hl) hl2 hw).mono fun _ _ ⟨h1, h2, h3⟩ => ⟨h1, h.step h2 h3, h3⟩
theorem sys_write_bad (h : Sys w0 d g n mem writes left w) (i k : Int) (hi : i64 i) (v : Value) (zs : List Int) (hv : BytesAt w v zs) (hk : zs.length ≠ 128 ∧ k = 1 ∨ zs.length = 128 ∧ reachV n left i = num k) :
    Calls Tryz.prog 132 #[ptr d, .int .i64 i, v] w fun e w' => ∃ b, e = .returned (flt b) ∧ Chain w' [(sDisk, itoaB i)] (num k) (flt b) ∧ w.heap.size ≤ b ∧ Sys w0 d g n mem writes left w' ∧ Below w.heap.size w w' :=
  (write_bad h.disk i k hi v zs hv h.ground hk).mono fun _ _ ⟨b, h1, h2, h4, h3⟩ => ⟨b, h1, h2, h4, h.more h3, h3⟩
theorem sys_read (h : Sys w0 d g n mem writes left w) (i : Nat) (hi : i < n) (hl : left ≠ 0) :
    Calls Tryz.prog 123 #[ptr d, .int .i64 i] w fun e w' => ∃ b, e = .returned (.tuple #[.slice (some ⟨b, 0, none⟩) 128 128, .nilIface]) ∧ BytesAt w' (.slice (some ⟨b, 0, none⟩) 128 128) (blockL mem i) ∧ w.heap.size ≤ b ∧ (∀ k, k < 128 → w'.frozen? ⟨b, k, none⟩ = false) ∧ Sys w0 d g n mem writes left w' ∧ Below w.heap.size w w' :=
  (read_good h.disk i hi (by simpa using hl)).mono fun _ _ ⟨b, h1, h2, h3, h4, h5⟩ => ⟨b, h1, h2, h3, h4, h.more h5, h5⟩
end
theorem memW_same (i : Nat) (zs : List Int) (hz : zs.length = 128) (mem : Nat → Int) : blockL (memW i zs mem) i = zs := by
  apply List.ext_getElem?
  intro j
  by_cases hj : j < 128
  · rw [blockL_get _ _ _ hj]
    unfold memW
    rw [if_pos (by omega), show i * 128 + j - i * 128 = j by omega]
    simp [List.getD, show j < zs.length by omega]
  · rw [List.getElem?_eq_none (by rw [blockL_len]; omega), List.getElem?_eq_none (by omega)]
theorem memW_other (i k : Nat) (hik : i ≠ k) (zs : List Int) (mem : Nat → Int) : blockL (memW i zs mem) k = blockL mem k := by
  apply List.ext_getElem?
  intro j
  by_cases hj : j < 128
  · rw [blockL_get _ _ _ hj, blockL_get _ _ _ hj]
    unfold memW
    rw [if_neg (by omega)]
  · rw [List.getElem?_eq_none (by rw [blockL_len]; omega), List.getElem?_eq_none (by rw [blockL_len]; omega)]
theorem itoa_one : itoaB 1 = ⟨#[49]⟩ := by
  have h1 : Lib.itoa 1 = [49] := by
    rw [show (1 : Int) = ((1 : Nat) : Int) from rfl, Lib.itoa_nonneg, Lib.decDigits_one (by decide)]
    rfl
  show (⟨(Lib.itoa 1).toArray⟩ : ByteArray) = _
  rw [h1]
end Go.Proofs.YtopegpjkkicjhaaGreatDoor
