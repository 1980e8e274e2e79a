/- The journal's group. -/
import Derived.Test.YtopegpjkkicjhaaGreatDoorJo5
namespace Go.Proofs.YtopegpjkkicjhaaGreatDoor
open Go.RowKit Go.Extern.Stop Go.Stop Go.Extern
set_option maxRecDepth 100000

theorem Tryz.infoGroup : (Tryz.prog.info? 134).map (fun i => (i.zero, i.size, i.bytes)) = some (some (.agg #[.int .i64 0, .slice none 0 0]), 2, 32) := by kernel_rfl
theorem make_group (N : Nat) (hN : N ≤ 200) (w : World) : (Instr.makeSlice 82 (.int .i64 N) (.int .i64 N)).run Tryz.prog w = .ok (.slice (some ⟨w.heap.size, 0, none⟩) N N) (w.alloc (.cells (madeCells (Value.agg #[.int .i64 0, .slice none 0 0]).cells (N * 2)) 134)) := by
  obtain ⟨i0, hi, hz0, hz1, hz2⟩ := info_parts3 Tryz.infoGroup
  have h := run_make (P := Tryz.prog) (w := w) 82 134 i0 (.agg #[.int .i64 0, .slice none 0 0]) Tryz.underlying82 hi hz0 .i64 .i64 N N (by omega) (by omega) (by rw [hz2]; omega) (by omega)
  rw [hz1] at h
  exact h
theorem set_some (w : World) (p q : Addr) (u : Value) (h : (w.cell? q).isSome = true) : ((w.setCell p u).cell? q).isSome = true := by
  by_cases e : p = q
  · subst e
    rw [World.cell?_setCell_same' _ _ _ h]; rfl
  · rw [World.cell?_setCell_other _ _ _ _ e]; exact h
/-- A group that is being laid: its first k blocks. -/
structure Laying (gb n b : Nat) (no : Nat → Nat) (r : Nat) (k : Nat) (w : World) : Prop where
  c0 : ∀ j, j < n → (w.cell? ⟨gb, j * 2, none⟩).isSome = true
  c1 : ∀ j, j < n → (w.cell? ⟨gb, j * 2 + 1, none⟩).isSome = true
  f0 : ∀ j, j < n → w.frozen? ⟨gb, j * 2, none⟩ = false
  f1 : ∀ j, j < n → w.frozen? ⟨gb, j * 2 + 1, none⟩ = false
  n0 : ∀ j, j < k → w.cell? ⟨gb, j * 2, none⟩ = some (.int .i64 (no j))
  n1 : ∀ j, j < k → ∃ c, w.cell? ⟨gb, j * 2 + 1, none⟩ = some (.slice (some ⟨b, (r + j) * 128, none⟩) 128 c)
theorem Laying.step {gb n b : Nat} {no : Nat → Nat} {r k : Nat} {w : World} (h : Laying gb n b no r k w) (hk : k < n) (c : Nat) :
    Laying gb n b no r (k + 1) ((w.setCell ⟨gb, k * 2, none⟩ (.int .i64 (no k))).setCell ⟨gb, k * 2 + 1, none⟩ (.slice (some ⟨b, (r + k) * 128, none⟩) 128 c)) := by
  have ne : ∀ x y : Nat, x ≠ y → (⟨gb, x, none⟩ : Addr) ≠ ⟨gb, y, none⟩ := fun x y hxy e => hxy (congrArg Addr.off e)
  refine ⟨fun j hj => set_some _ _ _ _ (set_some _ _ _ _ (h.c0 j hj)), fun j hj => set_some _ _ _ _ (set_some _ _ _ _ (h.c1 j hj)), fun j hj => by simp [h.f0 j hj], fun j hj => by simp [h.f1 j hj], fun j hj => ?_, fun j hj => ?_⟩
  · rw [World.cell?_setCell_other _ _ _ _ (ne _ _ (by omega))]
    by_cases e : j = k
    · subst e; exact World.cell?_setCell_same' _ _ _ (h.c0 j hk)
    · rw [World.cell?_setCell_other _ _ _ _ (ne _ _ (by omega))]; exact h.n0 j (by omega)
  · by_cases e : j = k
    · subst e; exact ⟨c, World.cell?_setCell_same' _ _ _ (set_some _ _ _ _ (h.c1 j hk))⟩
    · rw [World.cell?_setCell_other _ _ _ _ (ne _ _ (by omega)), World.cell?_setCell_other _ _ _ _ (ne _ _ (by omega))]; exact h.n1 j (by omega)
theorem Laying.keep {gb n b : Nat} {no : Nat → Nat} {r k : Nat} {w w' : World} {bs : List Nat} (h : Laying gb n b no r k w) (hn : 0 < n) (ha : Apart bs w w') (hg : gb ∉ bs) : Laying gb n b no r k w' := by
  have hlt : gb < w.heap.size := by
    obtain ⟨x, hx⟩ := Option.isSome_iff_exists.1 (h.c0 0 hn)
    exact lt_of_cell (a := ⟨gb, 0 * 2, none⟩) hx
  have hc : ∀ j, w'.cell? ⟨gb, j, none⟩ = w.cell? ⟨gb, j, none⟩ := fun j => ha.cell (p := ⟨gb, j, none⟩) hlt hg
  have hf : ∀ j, w'.frozen? ⟨gb, j, none⟩ = w.frozen? ⟨gb, j, none⟩ := fun j => ha.frozen (p := ⟨gb, j, none⟩) hlt hg
  exact ⟨fun j hj => by rw [hc]; exact h.c0 j hj, fun j hj => by rw [hc]; exact h.c1 j hj, fun j hj => by rw [hf]; exact h.f0 j hj, fun j hj => by rw [hf]; exact h.f1 j hj, fun j hj => by rw [hc]; exact h.n0 j hj, fun j hj => by rw [hc]; exact h.n1 j hj⟩
theorem bytes_keep {w w' : World} {b off m cap : Nat} {zs : List Int} {bs : List Nat} (h : BytesAt w (.slice (some ⟨b, off, none⟩) m cap) zs) (ha : Apart bs w w') (hb : b ∉ bs) : BytesAt w' (.slice (some ⟨b, off, none⟩) m cap) zs := by
  obtain ⟨a, c, hv, hr, hm, hn, hc⟩ := h
  refine ⟨a, c, hv, hr, hm, hn, fun hne => ?_⟩
  obtain ⟨b', off', rfl, hlt, hcell⟩ := hc hne
  have he := (Value.slice.inj hv).1
  simp only [Option.some.injEq, Addr.mk.injEq] at he
  obtain ⟨rfl, rfl, -⟩ := he
  exact ⟨b, off, rfl, Nat.lt_of_lt_of_le hlt ha.size, fun k hk => (ha.cell (p := ⟨b, off + k, none⟩) hlt hb).trans (hcell k hk)⟩
theorem Laying.done {gb b r : Nat} {l : Grp} {w : World} (h : Laying gb l.length b (nob l) r l.length w) (h1 : 1 ≤ l.length) (h2 : l.length ≤ 200) (hb : ∀ j c, j < l.length → BytesAt w (.slice (some ⟨b, (r + j) * 128, none⟩) 128 c) (dat l j)) :
    GAt w (.slice (some ⟨gb, 0, none⟩) l.length l.length) (up l) := by
  refine ⟨_, l.length, by rw [up_len], by rw [up_len]; omega, fun _ => ⟨gb, 0, rfl, ?_, fun k hk => ?_⟩⟩
  · obtain ⟨x, hx⟩ := Option.isSome_iff_exists.1 (h.c0 0 h1)
    exact lt_of_cell (a := ⟨gb, 0 * 2, none⟩) hx
  · rw [up_len] at hk
    rw [up_get]
    obtain ⟨c, hc⟩ := h.n1 k hk
    simp only [Nat.zero_add]
    exact ⟨h.n0 k hk, _, hc, hb k c hk⟩
set_option maxHeartbeats 2000000 in
theorem group_calls (l : Grp) (hl : ∀ j, j < l.length → (dat l j).length = 128) (hn : ∀ j, j < l.length → nob l j < 1000000) (h1 : 1 ≤ l.length) (h2 : l.length ≤ 200) (b m cap : Nat) (w : World) (hm : m = size l * 128) (hB : BytesAt w (.slice (some ⟨b, 0, none⟩) m cap) (bodyL l)) (hmc : m ≤ cap) :
    Calls Tryz.prog 152 #[.int .i64 l.length, .slice (some ⟨b, 0, none⟩) m cap] w fun e w' => ∃ gb, e = .returned (.slice (some ⟨gb, 0, none⟩) l.length l.length) ∧ w.heap.size ≤ gb ∧ Below w.heap.size w w' ∧ ∀ bs w'', Apart bs w' w'' → gb ∉ bs → b ∉ bs → GAt w'' (.slice (some ⟨gb, 0, none⟩) l.length l.length) (up l) := by
  have hrw := rowsN_le l.length
  have hsl : size l = rowsN l.length + l.length := rfl
  have hmk := make_group l.length h2 w
  have hH := hidden hB
  have hbl := bodyK_len l hl l.length (Nat.le_refl _)
  have hroom := hidden (fun k hk => rowsN_room l.length k hk)
  have hpm : Hid (∀ k, k < l.length → (rowsN l.length + k) * 128 + 128 ≤ m) := hidden (fun k hk => by rw [hm, hsl]; omega)
  have hm2 : m ≤ 1000000 := by rw [hm, hsl]; omega
  have hbl2 : Hid ((bodyL l).length = m) := hidden (by rw [hm, hsl]; exact hbl)
  clear hbl hsl hB hm
  go_enter Tryz.func152, Tryz.ntmps152
  go_wp2
  go_loopg [11] l.length (fun gk q wr => ∃ k : Nat, k ≤ l.length ∧ gk = l.length - k ∧ q = .int .i64 k ∧ Hid (Laying w.heap.size l.length b (nob l) (rowsN l.length) k wr ∧ Below w.heap.size w wr))
  case atStart =>
    have hcell : ∀ j, j < l.length * 2 → ((w.alloc (.cells (madeCells (Value.agg #[.int .i64 0, .slice none 0 0]).cells (l.length * 2)) 134)).cell? ⟨w.heap.size, j, none⟩).isSome = true := fun j hj => by
      rw [cells_new, Array.getElem?_eq_getElem (by rw [size_madeCells]; exact hj)]; rfl
    exact ⟨0, by omega, rfl, rfl, hidden ⟨⟨fun j hj => hcell _ (by omega), fun j hj => hcell _ (by omega), fun j _ => by simp, fun j _ => by simp, fun j hj => by omega, fun j hj => by omega⟩, (Below.refl _ _).alloc (Nat.le_refl _) _⟩⟩
  case round =>
    obtain ⟨k, hk, hgk, rfl, hI⟩ := hrel
    replace hgk := hidden hgk
    by_cases hlt : k < l.length
    · have hG := hidden (get_calls (bodyL l) _ k wr (hH.out.below hI.out.2) (by have := hroom.out k hlt; have := hpm.out k hlt; rw [hbl2.out]; omega) (by rw [hbl2.out]; omega))
      rw [body_get l hn k hlt] at hG
      have hno := hn k hlt
      have hRo := hidden (rows_calls l.length (by omega) wr)
      have hPa := hidden (part_calls b 0 m cap (rowsN l.length + k) (hpm.out k hlt) hm2 hmc wr)
      have hc0 := hI.out.1.c0 k hlt
      have hc1 := hI.out.1.c1 k hlt
      have hf0 := hI.out.1.f0 k hlt
      have hf1 := hI.out.1.f1 k hlt
      obtain ⟨x0, hx0⟩ := Option.isSome_iff_exists.1 hc0
      obtain ⟨x1, hx1⟩ := Option.isSome_iff_exists.1 hc1
      clear hc0 hc1
      have hrk : ((rowsN l.length : Nat) : Int) + (k : Int) = ((rowsN l.length + k : Nat) : Int) := by omega
      have hrk2 : rowsN l.length + k ≤ 1000 := by omega
      generalize hq : rowsN l.length + k = rk at hrk hPa hrk2
      replace hq := hidden hq
      generalize hX : nob l k = X at hG hno
      replace hX := hidden hX
      go_wp2_with fail
      refine (hG.out).mono ?_
      rintro ev w2 ⟨rfl, rfl⟩
      go_wp2_with fail
      refine (hRo.out).mono ?_
      rintro ev w3 ⟨rfl, rfl⟩
      go_wp2_with fail
      refine (hPa.out).mono ?_
      rintro ev w4 ⟨⟨cap4, rfl⟩, rfl⟩
      clear hG hRo hPa
      have hE := hI.out.1.step hlt cap4
      rw [hX.out, hq.out] at hE
      have hE2 := (hI.out.2.setCell (p := ⟨w.heap.size, k * 2, none⟩) (Nat.le_refl _) (.int .i64 X)).setCell (p := ⟨w.heap.size, k * 2 + 1, none⟩) (Nat.le_refl _) (.slice (some ⟨b, rk * 128, none⟩) 128 cap4)
      have hE3 := hidden (And.intro hE hE2)
      clear hE hE2 hI
      go_wp2
      go_roundg (l.length - (k + 1))
      case measure => rw [hgk.out]; omega
      case rel => exact ⟨k + 1, hlt, rfl, by go_num, hE3⟩
    · obtain rfl : k = l.length := by omega
      go_wp2
      go_ret
      refine ⟨_, rfl, Nat.le_refl _, hI.out.2, fun bs w'' ha hg hb => ?_⟩
      refine (hI.out.1.keep h1 ha hg).done h1 h2 (fun j c hj => ?_)
      have hb := bytes_keep (hH.out.below hI.out.2) ha hb
      rw [← hbl2.out] at hb
      have := bytes_part (cap' := c) hb (rowsN l.length + j) (by rw [hbl2.out]; exact hpm.out j hj)
      rw [Nat.zero_add, body_chunk l hl j hj] at this
      exact this
end Go.Proofs.YtopegpjkkicjhaaGreatDoor
