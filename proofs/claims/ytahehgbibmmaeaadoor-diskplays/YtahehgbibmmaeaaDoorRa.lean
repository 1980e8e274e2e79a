/- Rows of 128 bytes that a call has made: kept while other blocks are written; one byte of them turned. -/
import Derived.Test.YtahehgbibmmaeaaDoorCo
namespace Go.Proofs.YtahehgbibmmaeaaDoor
open Go.RowKit Go.Extern.Stop Go.Stop Go.Extern
set_option maxRecDepth 100000

abbrev rowV (b : Nat) : Value := .slice (some ⟨b, 0, none⟩) 128 128
structure RowAt (b : Nat) (zs : List Int) (w : World) : Prop where
  bytes : BytesAt w (rowV b) zs
  free : ∀ k, k < 128 → w.frozen? ⟨b, k, none⟩ = false
  len : zs.length = 128
theorem RowAt.cell {b : Nat} {zs : List Int} {w : World} (h : RowAt b zs w) (k : Nat) (hk : k < 128) : w.cell? ⟨b, k, none⟩ = some (.int .u8 (zs.getD k 0)) := by
  obtain ⟨a, cap, hv, hr, hm, hn, hc⟩ := h.bytes
  obtain ⟨b', off, ha, hlt, hcell⟩ := hc (by intro e; have := h.len; rw [e] at this; simp at this)
  subst ha
  have he := (Value.slice.inj hv).1
  simp only [Option.some.injEq, Addr.mk.injEq] at he
  obtain ⟨rfl, rfl, -⟩ := he
  have := hcell k (by rw [h.len]; exact hk)
  rwa [Nat.zero_add] at this
theorem RowAt.lt {b : Nat} {zs : List Int} {w : World} (h : RowAt b zs w) : b < w.heap.size := lt_of_cell (a := ⟨b, 0, none⟩) (h.cell 0 (by decide))
theorem RowAt.keep {b : Nat} {zs : List Int} {w w' : World} {bs : List Nat} (h : RowAt b zs w) (ha : Apart bs w w') (hn : b ∉ bs) : RowAt b zs w' := by
  refine ⟨?_, fun k hk => (ha.frozen (p := ⟨b, k, none⟩) h.lt hn).trans (h.free k hk), h.len⟩
  obtain ⟨a, cap, hv, hr, hm, hne, hc⟩ := h.bytes
  refine ⟨a, cap, hv, hr, hm, hne, fun _ => ?_⟩
  have he := (Value.slice.inj hv).1
  subst he
  exact ⟨b, 0, rfl, Nat.lt_of_lt_of_le h.lt ha.size, fun k hk => by
    rw [Nat.zero_add]
    rw [h.len] at hk
    exact (ha.cell (p := ⟨b, k, none⟩) h.lt hn).trans (h.cell k hk)⟩
theorem RowAt.below {b : Nat} {zs : List Int} {w w' : World} (h : RowAt b zs w) (hb : Below w.heap.size w w') : RowAt b zs w' := h.keep (Apart.of_below (bs := []) hb) (by simp)
theorem fill_row (n : Int) (w : World) :
    Calls Tryd.prog 9 #[.int .i64 n] w fun e w' => ∃ b, e = .returned (rowV b) ∧ RowAt b (fillL n) w' ∧ w.heap.size ≤ b ∧ Below w.heap.size w w' :=
  (fill_calls n w).mono fun _ _ ⟨h1, h2⟩ => ⟨_, h1, ⟨by rw [h2]; exact fillA_bytes n w, fun k _ => by rw [h2]; simp, fillL_len n⟩, Nat.le_refl _, by rw [h2]; exact (Below.refl _ _).alloc (Nat.le_refl _) _⟩
theorem sys_read_row {w0 : World} {d g n : Nat} {mem : Nat → Int} {writes left : Int} {w : World} (h : Sys w0 d g n mem writes left w) (i : Nat) (hi : i < n) (hl : left ≠ 0) :
    Calls Tryd.prog 11 #[ptr d, .int .i64 i] w fun e w' => ∃ b, e = .returned (.tuple #[rowV b, .nilIface]) ∧ RowAt b (blockL mem i) w' ∧ w.heap.size ≤ b ∧ Sys w0 d g n mem writes left w' ∧ Below w.heap.size w w' :=
  (sys_read h i hi hl).mono fun _ _ ⟨b, h1, h2, h3, h4, h5, h6⟩ => ⟨b, h1, ⟨h2, h4, blockL_len _ _⟩, h3, h5, h6⟩
end Go.Proofs.YtahehgbibmmaeaaDoor
