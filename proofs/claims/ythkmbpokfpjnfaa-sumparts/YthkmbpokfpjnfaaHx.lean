/- sum.Hex and credenzaref2.Hex: sixteen digits, the highest first. -/
import Derived.Test.YthkmbpokfpjnfaaSm
namespace Go.Proofs.Ythkmbpokfpjnfaa
open Go.RowKit
set_option maxRecDepth 100000

/-- The sign of a digit. -/
def hexDig (d : Int) : Int := if d < 10 then 48 + d else 87 + d
abbrev hexText : ByteArray := ⟨#[48, 49, 50, 51, 52, 53, 54, 55, 56, 57, 97, 98, 99, 100, 101, 102]⟩
theorem digitNat (w : World) : ∀ k : Nat, k < 16 → (Instr.index 9 (.string hexText) (.int .u64 k)).run Try.prog w = .ok (.int .u8 (hexDig k)) w
  | 0, _ => by kernel_rfl
  | 1, _ => by kernel_rfl
  | 2, _ => by kernel_rfl
  | 3, _ => by kernel_rfl
  | 4, _ => by kernel_rfl
  | 5, _ => by kernel_rfl
  | 6, _ => by kernel_rfl
  | 7, _ => by kernel_rfl
  | 8, _ => by kernel_rfl
  | 9, _ => by kernel_rfl
  | 10, _ => by kernel_rfl
  | 11, _ => by kernel_rfl
  | 12, _ => by kernel_rfl
  | 13, _ => by kernel_rfl
  | 14, _ => by kernel_rfl
  | 15, _ => by kernel_rfl
  | k + 16, h => absurd h (by omega)
theorem digitInt (d : Int) (h0 : 0 ≤ d) (h1 : d < 16) (w : World) : (Instr.index 9 (.string hexText) (.int .u64 d)).run Try.prog w = .ok (.int .u8 (hexDig d)) w := by
  obtain ⟨k, rfl⟩ := Int.eq_ofNat_of_zero_le h0
  exact digitNat w k (by omega)

/-- The cells behind k rounds. -/
def hexC (n : Int) : Nat → Array Value
  | 0 => Array.replicate 16 (.int .u8 0)
  | k + 1 => (hexC n k).setIfInBounds (15 - k) (.int .u8 (hexDig (n / 16 ^ k % 16)))
theorem hexC_size (n : Int) : ∀ k, (hexC n k).size = 16
  | 0 => rfl
  | k + 1 => by rw [hexC, Array.size_setIfInBounds, hexC_size]

theorem hexC_at (n : Int) (k j : Nat) (h : j < 16) : ∃ v, (hexC n k)[j]? = some v := ⟨_, Array.getElem?_eq_getElem (by rw [hexC_size]; exact h)⟩
/-- The signs of a number. -/
def hexL (n : Int) : List Int := (List.range 16).map fun i => hexDig (n / 16 ^ (15 - i) % 16)
def ofBytes (ns : List Int) : ByteArray := ns.foldl (fun r n => r.push (UInt8.ofNat n.toNat)) ByteArray.empty
theorem hexC_get (n : Int) : ∀ k, k ≤ 16 → ∀ j, j < 16 → (hexC n k)[j]? = some (.int .u8 (if 16 - k ≤ j then hexDig (n / 16 ^ (15 - j) % 16) else 0))
  | 0, _, j, hj => by
    rw [if_neg (by omega), hexC, Array.getElem?_replicate, if_pos hj]
  | k + 1, hk, j, hj => by
    rw [hexC, Array.getElem?_setIfInBounds]
    by_cases h : 15 - k = j
    · rw [if_pos h, if_pos (by rw [hexC_size]; omega), if_pos (by omega), ← h, show 15 - (15 - k) = k by omega]
    · rw [if_neg h, hexC_get n k (by omega) j hj]
      by_cases h2 : 16 - k ≤ j
      · rw [if_pos h2, if_pos (by omega)]
      · rw [if_neg h2, if_neg (by omega)]
theorem hexL_get (n : Int) (j : Nat) (hj : j < 16) : (hexL n)[j]? = some (hexDig (n / 16 ^ (15 - j) % 16)) := by
  rw [hexL, List.getElem?_map, List.getElem?_range hj]; rfl
theorem hexL_len (n : Int) : (hexL n).length = 16 := by simp [hexL]
theorem hexC_all (n : Int) : hexC n 16 = ((hexL n).map (Value.int .u8)).toArray := by
  apply Array.ext_getElem?
  intro j
  by_cases hj : j < 16
  · rw [hexC_get n 16 (by omega) j hj, if_pos (by omega), List.getElem?_toArray, List.getElem?_map, hexL_get n j hj]; rfl
  · rw [Array.getElem?_eq_none (by rw [hexC_size]; omega), Array.getElem?_eq_none (by simp [hexL]; omega)]
theorem hexConv (n : Int) (w : World) : (convert 22 9 (.slice (some ⟨w.heap.size, 0, none⟩) 16 16)).run Try.prog (w.alloc (.cells (hexC n 16) 42)) = .ok (.string (ofBytes (hexL n))) (w.alloc (.cells (hexC n 16) 42)) := by
  rw [run_convert_bytes_string _ _ _ _ _ _ _ Try.underlying22 Try.underlying5 Try.underlying9]
  refine run_bytesToString _ _ _ _ (hexL n) ?_
  have := run_loadCells_list (P := Try.prog) (w := w.alloc (.cells (hexC n 16) 42)) ⟨w.heap.size, 0, none⟩ ((hexL n).map (Value.int .u8)) ?_
  · simpa [hexL_len] using this
  · intro j v hv
    rw [Go.WideShapes.add_plain]
    simp only [Nat.zero_add, World.cell?_alloc_new, hexC_all]
    simpa using hv

theorem hex_calls (n : Int) (hn : 0 ≤ n ∧ n < 18446744073709551616) (w : World) :
    Calls Try.prog 13 #[.int .u64 n] w fun e w' => e = .returned (.string (ofBytes (hexL n))) ∧ w' = w.alloc (.cells (hexC n 16) 42) := by
  go_enter Try.func13, Try.ntmps13
  go_wp2
  go_loopg [0, 4] 16 (fun g x i wr => ∃ k : Nat, k ≤ 16 ∧ g = 16 - k ∧ (∃ q : Int, i = .int .i64 q ∧ q = 15 - (k : Int)) ∧ (∃ m : Int, x = .int .u64 m ∧ m = n / 16 ^ k) ∧ wr = w.alloc (.cells (hexC n k) 42))
  case atStart => exact ⟨0, by omega, rfl, ⟨15, rfl, by omega⟩, ⟨n, rfl, by simp⟩, rfl⟩
  case round =>
    obtain ⟨k, hk, hg, ⟨q, rfl, hq⟩, ⟨m, rfl, hm⟩, rfl⟩ := hrel
    replace hg := hidden hg
    have hm0 : 0 ≤ m := by rw [hm]; exact Int.ediv_nonneg hn.1 (Int.pow_nonneg (by omega))
    have hm1 : m < 18446744073709551616 := Int.lt_of_le_of_lt (by rw [hm]; exact Int.ediv_le_self _ hn.1) hn.2
    by_cases hlt : k < 16
    · have hd := digitInt (m % 16) (by omega) (by omega)
      have hq0 : 0 ≤ q := by omega
      have hq1 : q ≤ 15 := by omega
      obtain ⟨v, hv⟩ := hexC_at n k q.toNat (by omega)
      have hqt : Hid (q.toNat = 15 - k) := hidden (by omega)
      replace hm := hidden hm
      replace hq := hidden hq
      go_wp2
      go_roundg (16 - (k + 1))
      case measure => rw [hg.out]; omega
      case rel =>
        refine ⟨k + 1, hlt, rfl, ⟨_, rfl, ?_⟩, ⟨_, rfl, ?_⟩, ?_⟩
        · rw [hq.out]; omega
        · rw [hm.out, Int.pow_succ, ← Int.ediv_ediv_of_nonneg (Int.pow_nonneg (by omega))]
        · rw [hexC, hqt.out, hm.out]
    · have hq1 : q < 0 := by omega
      obtain rfl : k = 16 := by omega
      have hconv := hexConv n w
      clear hm hq
      go_wp2
      go_ret
      exact ⟨rfl, rfl⟩
end Go.Proofs.Ythkmbpokfpjnfaa
