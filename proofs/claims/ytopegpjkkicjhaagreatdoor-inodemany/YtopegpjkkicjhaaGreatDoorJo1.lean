/- The journal's small helpers: rows, room, Need, put, get, part. -/
import Derived.Test.YtopegpjkkicjhaaGreatDoorJn2
import Derived.Laws.OwnMore
import Derived.Laws.AppendOwn
namespace Go.Proofs.YtopegpjkkicjhaaGreatDoor
open Go.RowKit Go.Extern.Stop Go.Stop Go.Extern
set_option maxRecDepth 100000

theorem rows_calls (n : Nat) (hn : n ≤ 1000000) (w : World) :
    Calls Tryz.prog 108 #[.int .i64 n] w fun e w' => e = .returned (.int .i64 (rowsN n : Nat)) ∧ w' = w := by
  have h1 : (n : Int).tdiv 16 = ((n / 16 : Nat) : Int) := by rw [Int.tdiv_eq_ediv_of_nonneg (by omega)]; omega
  have h2 : (n : Int).tmod 16 = ((n % 16 : Nat) : Int) := by rw [Int.tmod_eq_emod_of_nonneg (by omega)]; omega
  have h3 : ((n / 16 : Nat) : Int) + min ((n % 16 : Nat) : Int) 1 = ((rowsN n : Nat) : Int) := by unfold rowsN; omega
  have h4 : n / 16 ≤ 1000000 := by omega
  have h5 : n % 16 < 16 := by omega
  generalize n / 16 = a at h1 h3 h4
  generalize n % 16 = b at h2 h3 h5
  generalize rowsN n = c at h3 ⊢
  replace h3 := hidden h3
  go_enter Tryz.func108, Tryz.ntmps108
  go_wp2
  go_ret
  refine ⟨?_, rfl⟩
  rw [← h3.out]
  rfl
theorem rowsN_le (n : Nat) : rowsN n ≤ n := by unfold rowsN; omega
theorem room_calls (n : Nat) (hn : n ≤ 100000) (w : World) :
    Calls Tryz.prog 150 #[.int .i64 n] w fun e w' => e = .returned (.int .i64 ((1 + (rowsN n + n) : Nat) : Int)) ∧ w' = w := by
  have hr := rowsN_le n
  have hR := hidden (rows_calls n (by omega) w)
  generalize rowsN n = c at hr hR ⊢
  have hE : Hid ((1 : Int) + (c : Int) + (n : Int) = ((1 + (c + n) : Nat) : Int)) := hidden (by omega)
  go_enter Tryz.func150, Tryz.ntmps150
  go_wp2_with fail
  refine (hR.out).mono ?_
  rintro ev w1 ⟨rfl, rfl⟩
  go_wp2
  go_ret
  exact ⟨congrArg (fun x => Ending.returned (Value.int .i64 x)) hE.out, rfl⟩
/-- How many blocks a Journal takes. -/
def needN (most : Nat) : Nat := most + rowsN most + 2
theorem need_calls (n : Nat) (h1 : 1 ≤ n) (hn : n ≤ 100000) (w : World) :
    Calls Tryz.prog 73 #[.int .i64 n] w fun e w' => e = .returned (.int .i64 (needN n : Nat)) ∧ w' = w := by
  have hr := rowsN_le n
  have hR := hidden (rows_calls n (by omega) w)
  have hE : Hid ((n : Int) + ((rowsN n : Int) + 2) = ((needN n : Nat) : Int)) := hidden (by unfold needN; omega)
  generalize needN n = r at hE ⊢
  have hr' : (rowsN n : Int) ≤ 100000 ∧ 0 ≤ (rowsN n : Int) := by omega
  have hmx : max (n : Int) 1 = n := by omega
  have hn' : (n : Int) ≤ 100000 ∧ 1 ≤ (n : Int) := by omega
  generalize (rowsN n : Int) = c at hr' hR hE
  generalize (n : Int) = N at hn' hmx hR hE ⊢
  clear hr
  have hs : ¬ (9223372036854775807 - (c + 2) < N) := by omega
  go_enter Tryz.func73, Tryz.ntmps73
  go_wp2_with fail
  refine (hR.out).mono ?_
  rintro ev w1 ⟨rfl, rfl⟩
  go_wp2
  go_ret
  exact ⟨congrArg (fun x => Ending.returned (Value.int .i64 x)) hE.out, rfl⟩

/-- A row of n bytes of one's own, at block b. -/
structure OwnB (base : Nat) (w : World) (b n cap : Nat) (zs : List Int) : Prop where
  row : w.ownsRow base 5 1 (.slice (some ⟨b, 0, none⟩) n cap) n (zs.map (Value.int .u8))
  len : zs.length = n
  range : ∀ z ∈ zs, 0 ≤ z ∧ z ≤ 255
theorem OwnB.cell {base : Nat} {w : World} {b n cap : Nat} {zs : List Int} (h : OwnB base w b n cap zs) (k : Nat) (hk : k < n) : w.cell? ⟨b, k, none⟩ = some (.int .u8 (zs.getD k 0)) := by
  rw [h.row.cellAt k (by omega), getD_map (by rw [h.len]; exact hk)]
theorem OwnB.lt {base : Nat} {w : World} {b n cap : Nat} {zs : List Int} (h : OwnB base w b n cap zs) : base ≤ b ∧ b < w.heap.size := h.row.lt b rfl
theorem OwnB.caps {base : Nat} {w : World} {b n cap : Nat} {zs : List Int} (h : OwnB base w b n cap zs) : n ≤ cap ∧ cap ≤ maxLen := by
  rcases h.row.2 with ⟨h', _⟩ | ⟨g', cap', cur, h', _, _, h1, h2, _⟩
  · simp at h'
  · simp only [Value.slice.injEq] at h'
    obtain ⟨_, _, rfl⟩ := h'
    exact ⟨h1, h2⟩
theorem OwnB.bytes {base : Nat} {w : World} {b n cap : Nat} {zs : List Int} (h : OwnB base w b n cap zs) : BytesAt w (.slice (some ⟨b, 0, none⟩) n cap) zs :=
  ⟨_, cap, by rw [h.len], h.range, by rw [h.len]; exact Nat.le_trans h.caps.1 h.caps.2, fun e => (by cases e), fun _ => ⟨b, 0, rfl, h.lt.2, fun k hk => by rw [Nat.zero_add]; exact h.cell k (by rw [← h.len]; exact hk)⟩⟩
theorem OwnB.keep {base : Nat} {w w' : World} {b n cap : Nat} {zs : List Int} {bs : List Nat} (h : OwnB base w b n cap zs) (ha : Apart bs w w') (hn : b ∉ bs) : OwnB base w' b n cap zs := by
  refine ⟨?_, h.len, h.range⟩
  obtain ⟨h1, h2⟩ := h.row
  refine ⟨h1, ?_⟩
  rcases h2 with h2 | ⟨g', cap', cur, hv, hb, hh, rest⟩
  · exact .inl h2
  · have e : g' = b := by simp only [Value.slice.injEq, Option.some.injEq, Addr.mk.injEq] at hv; exact hv.1.1.symm
    subst e
    exact .inr ⟨g', cap', cur, hv, hb, (ha.block g' h.lt.2 hn).trans hh, rest⟩
theorem OwnB.below {base : Nat} {w w' : World} {b n cap : Nat} {zs : List Int} (h : OwnB base w b n cap zs) (hb : Below w.heap.size w w') : OwnB base w' b n cap zs := h.keep (Apart.of_below (bs := []) hb) (by simp)
theorem OwnB.mono {base base' : Nat} {w : World} {b n cap : Nat} {zs : List Int} (h : OwnB base w b n cap zs) (hb : base' ≤ base) : OwnB base' w b n cap zs := by
  refine ⟨⟨h.row.1, ?_⟩, h.len, h.range⟩
  rcases h.row.2 with h2 | ⟨g', cap', cur, hv, h1, rest⟩
  · exact .inl h2
  · exact .inr ⟨g', cap', cur, hv, Nat.le_trans hb h1, rest⟩
theorem map_set (zs : List Int) (j : Nat) (x : Int) : (zs.map (Value.int .u8)).set j (.int .u8 x) = (zs.set j x).map (Value.int .u8) := by rw [List.map_set]
theorem OwnB.stored {base : Nat} {w : World} {b n cap : Nat} {zs : List Int} (h : OwnB base w b n cap zs) (j : Nat) (x : Int) (hx : 0 ≤ x ∧ x ≤ 255) : OwnB base (w.setCell ⟨b, j, none⟩ (.int .u8 x)) b n cap (zs.set j x) :=
  ⟨by rw [← map_set]; exact (h.row.stored j (.int .u8 x)).1, by rw [List.length_set]; exact h.len, fun z hz => by
    rcases List.mem_or_eq_of_mem_set hz with h' | rfl
    · exact h.range z h'
    · exact hx⟩
theorem pow8 (k : Nat) : (2 : Int) ^ (8 * (k : Int)).toNat = 256 ^ k := by rw [show (8 * (k : Int)).toNat = 8 * k by omega, Int.pow_mul]; rfl
theorem byteK_range (n : Int) (k : Nat) : 0 ≤ byteK n k ∧ byteK n k ≤ 255 := by unfold byteK; omega
set_option maxHeartbeats 1000000 in
theorem put_calls (base b m cap : Nat) (zs : List Int) (i : Nat) (n : Int) (w : World) (h : OwnB base w b m cap zs) (hi : 8 * i + 8 ≤ m) (hm : m ≤ 1000000) (h0 : 0 ≤ n) (h1 : n < 18446744073709551616) :
    Calls Tryz.prog 162 #[.slice (some ⟨b, 0, none⟩) m cap, .int .i64 i, .int .u64 n] w fun e w' => e = .returned (.tuple #[]) ∧ OwnB base w' b m cap (putL zs i n) ∧ Apart [b] w w' := by
  have hH := hidden h
  clear h
  go_enter Tryz.func162, Tryz.ntmps162
  go_wp2
  go_loopg [7] 8 (fun gk q wr => ∃ k : Nat, k ≤ 8 ∧ gk = 8 - k ∧ q = .int .i64 k ∧ Hid (OwnB base wr b m cap (putK zs i n k) ∧ Apart [b] w wr))
  case atStart => exact ⟨0, by omega, rfl, rfl, hidden ⟨hH.out, Apart.refl _ _⟩⟩
  case round =>
    obtain ⟨k, hk, hgk, rfl, hI⟩ := hrel
    replace hgk := hidden hgk
    by_cases hlt : k < 8
    · have hcell := hI.out.1.cell (8 * i + k) (by omega)
      have hfz := hI.out.1.row.frozenAt (8 * i + k)
      have hJ : ((i : Int) * 8 + (k : Int)).toNat = 8 * i + k := by omega
      have hp := pow8 k
      have hE := hidden (And.intro (hI.out.1.stored (8 * i + k) (byteK n k) (byteK_range n k)) (hI.out.2.setCell (p := ⟨b, 8 * i + k, none⟩) (by simp) (.int .u8 (byteK n k))))
      have hb : n / 256 ^ k % 256 = byteK n k := rfl
      have hq0 : 0 ≤ n / 256 ^ k := Int.ediv_nonneg h0 (Int.pow_nonneg (by omega))
      have hq1 : n / 256 ^ k < 18446744073709551616 := Int.lt_of_le_of_lt (Int.ediv_le_self _ h0) h1
      go_wp2
      go_roundg (8 - (k + 1))
      case measure => rw [hgk.out]; omega
      case rel =>
        refine ⟨k + 1, by omega, rfl, by go_num, ?_⟩
        exact hE
    · obtain rfl : k = 8 := by omega
      go_wp2
      go_end0
      exact ⟨rfl, hI.out⟩
end Go.Proofs.YtopegpjkkicjhaaGreatDoor
