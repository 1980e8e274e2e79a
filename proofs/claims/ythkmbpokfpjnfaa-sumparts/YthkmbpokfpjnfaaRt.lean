/- Reading what was written: the sixteen signs of a number are read as that number. -/
import Derived.Test.YthkmbpokfpjnfaaAk
namespace Go.Proofs.Ythkmbpokfpjnfaa
open Go.RowKit
set_option maxRecDepth 100000

theorem hexDig_range {d : Int} (h0 : 0 ≤ d) (h1 : d < 16) : 0 ≤ hexDig d ∧ hexDig d ≤ 255 := by
  unfold hexDig; split <;> omega
theorem dig_hexDig {d : Int} (h0 : 0 ≤ d) (h1 : d < 16) : dig (hexDig d) = some d := by
  unfold hexDig
  split
  · rw [dig_digit (by omega) (by omega)]; congr 1; omega
  · rw [dig_letter (by omega) (by omega)]; congr 1; omega
theorem hexL_range (n : Int) : ∀ z ∈ hexL n, 0 ≤ z ∧ z ≤ 255 := by
  intro z hz
  obtain ⟨i, _, rfl⟩ := List.mem_map.1 hz
  exact hexDig_range (Int.emod_nonneg _ (by decide)) (Int.emod_lt_of_pos _ (by decide))
theorem toNat_byte {z : Int} (h0 : 0 ≤ z) (h1 : z ≤ 255) : (((UInt8.ofNat z.toNat).toNat : Nat) : Int) = z := by
  have : (UInt8.ofNat z.toNat).toNat = z.toNat := UInt8.toNat_ofNat_of_lt' (by simp; omega)
  rw [this]; omega
theorem ofBytes_data (l : List Int) : (ofBytes l).data.toList = l.map fun n => UInt8.ofNat n.toNat := by
  have h : ∀ (l : List Int) (s : ByteArray), (l.foldl (fun r n => r.push (UInt8.ofNat n.toNat)) s).data.toList = s.data.toList ++ l.map fun n => UInt8.ofNat n.toNat := by
    intro l
    induction l with
    | nil => intro s; simp
    | cons x l ih => intro s; rw [List.foldl_cons, ih]; simp
  have := h l ByteArray.empty
  simp at this
  exact this
theorem bytesOf_ofBytes (l : List Int) (h : ∀ z ∈ l, 0 ≤ z ∧ z ≤ 255) : bytesOf (ofBytes l) = l := by
  rw [bytesOf, ofBytes_data, List.map_map]
  conv => rhs; rw [← List.map_id l]
  exact List.map_congr_left fun z hz => toNat_byte (h z hz).1 (h z hz).2
theorem ofBytes_bytesOf (s : ByteArray) : ofBytes (bytesOf s) = s := by
  apply ByteArray.ext
  apply Array.ext'
  rw [ofBytes_data, bytesOf, List.map_map]
  conv => rhs; rw [← List.map_id s.data.toList]
  apply List.map_congr_left
  intro b _
  simp

theorem unhex_hexL (n : Int) (hn : 0 ≤ n ∧ n < 18446744073709551616) : ∀ k, k ≤ 16 → unhexL ((hexL n).take k) = some (n / 16 ^ (16 - k))
  | 0, _ => by
    rw [List.take_zero]
    show some 0 = _
    rw [Int.ediv_eq_zero_of_lt hn.1 (by simpa using hn.2)]
  | k + 1, hk => by
    rw [unhex_take _ k _ (hexL_get n k (by omega)), unhex_hexL n hn k (by omega), unhexStep]
    simp only [Option.bind_some]
    rw [dig_hexDig (Int.emod_nonneg _ (by decide)) (Int.emod_lt_of_pos _ (by decide))]
    simp only [Option.map_some, Option.some.injEq]
    have e : (16 : Int) ^ (16 - k) = 16 ^ (15 - k) * 16 := by rw [← Int.pow_succ]; congr 1; omega
    rw [e, ← Int.ediv_ediv_of_nonneg (Int.pow_nonneg (by decide)), show 16 - (k + 1) = 15 - k by omega]
    omega
theorem unhex_hex (n : Int) (hn : 0 ≤ n ∧ n < 18446744073709551616) : unhexS (ofBytes (hexL n)) = some n := by
  rw [unhexS, if_pos (by rw [ofBytes_size, hexL_len]), bytesOf_ofBytes _ (hexL_range n)]
  have := unhex_hexL n hn 16 (by omega)
  rw [List.take_of_length_le (by rw [hexL_len]; omega)] at this
  rw [this]
  simp

theorem wf_u64 {n : Int} (h : (Lit.int .u64 n).wf = true) : 0 ≤ n ∧ n < 18446744073709551616 := by
  have := bounds_u64 h; omega

set_option maxHeartbeats 1000000 in
theorem sumHex_calls (n : Int) (s : ByteArray) (hn : 0 ≤ n ∧ n < 18446744073709551616) (w : World) :
    Calls Try.prog 7 #[.int .u64 n, .string s] w fun e w' => e = .returned (.bool true) ∧ Below w.heap.size w w' := by
  have hV : unhexV (unhexS (ofBytes (hexL n))) = .tuple #[.int .u64 n, .bool true] := by rw [unhex_hex n hn]; rfl
  have hlen : Hid ((ofBytes (hexL n)).size = 16) := hidden (by rw [ofBytes_size, hexL_len])
  have hn' := hidden hn
  clear hn
  go_enter Try.func7, Try.ntmps7
  go_wp2_with fail
  refine (hex_calls n hn'.out w).mono ?_
  rintro ev w1 ⟨rfl, hw1⟩
  have hB1 : Below w.heap.size w w1 := by rw [hw1]; exact (Below.refl _ _).alloc (Nat.le_refl _) _
  have hs1 := hB1.size
  clear hw1
  go_wp2_with fail
  refine (unhex_calls _ w1).mono ?_
  rintro ev w2 ⟨rfl, hw2⟩
  subst hw2
  rw [hV]
  go_wp2_with fail
  refine (unhex_calls _ w2).mono ?_
  rintro ev w3 ⟨rfl, hw3⟩
  subst hw3
  unfold unhexV
  go_wp2_with fail
  refine (refunhex_calls _ w3).mono ?_
  rintro ev w4 ⟨rfl, hw4⟩
  subst hw4
  unfold unhexV
  go_wp2_with fail
  refine (refhex_calls n hn'.out w4).mono ?_
  rintro ev w5 ⟨rfl, hw5⟩
  subst hw5
  have hl := hlen.out
  generalize ofBytes (hexL n) = h at hl ⊢
  generalize unhexS s = r
  clear hV
  go_wp2_with fail
  refine (awake_calls w5).mono ?_
  rintro ev w6 ⟨rfl, hB6⟩
  replace hB6 := hB1.trans (hB6.mono hs1)
  go_wp2
  go_ret
  exact ⟨rfl, hB6⟩
end Go.Proofs.Ythkmbpokfpjnfaa
