/- credenzaref2.Hex: sixteen digits, the highest first. -/
import Derived.Test.YthkmbpokfpjnfaaHx
namespace Go.Proofs.Ythkmbpokfpjnfaa
open Go.RowKit
set_option maxRecDepth 100000

theorem and15 (x : Int) (h0 : 0 ≤ x) (h1 : x < 18446744073709551616) : bits .and .u64 x 15 = x % 16 := by
  have h2 : bits .and .u64 x 15 = IntKind.u64.wrap (((BitVec.ofInt 64 x &&& BitVec.ofInt 64 15).toNat : Nat) : Int) := rfl
  have h3 : (BitVec.ofInt 64 x &&& BitVec.ofInt 64 15).toNat = x.toNat % 16 := by
    rw [BitVec.toNat_and, BitVec.toNat_ofInt, BitVec.toNat_ofInt]
    have e1 : (x % ((2 ^ 64 : Nat) : Int)).toNat = x.toNat := by rw [Int.emod_eq_of_lt h0 (by simpa using h1)]
    have e2 : ((15 : Int) % ((2 ^ 64 : Nat) : Int)).toNat = 2 ^ 4 - 1 := by decide
    rw [e1, e2, Nat.and_two_pow_sub_one_eq_mod]
  rw [h2, h3]
  have h4 : ((x.toNat % 16 : Nat) : Int) = x % 16 := by omega
  rw [h4]
  simp only [IntKind.wrap, IntKind.bits, IntKind.signed]
  simp
  omega
theorem pow4 (j : Nat) : (2 : Int) ^ (4 * j) = 16 ^ j := by rw [Int.pow_mul]; rfl

theorem push_extract (s : ByteArray) : ∀ d : Nat, d < 16 → s ++ hexText.extract d (d + 1) = s.push (UInt8.ofNat (hexDig d).toNat) := by
  have key : ∀ d : Nat, d < 16 → (hexText.extract d (d + 1)).data = #[UInt8.ofNat (hexDig d).toNat] := by decide
  intro d hd
  apply ByteArray.ext
  rw [ByteArray.data_append, key d hd]
  simp
theorem ofBytes_snoc (l : List Int) (x : Int) : ofBytes (l ++ [x]) = (ofBytes l).push (UInt8.ofNat x.toNat) := by simp [ofBytes]

theorem ofBytes_size (l : List Int) : (ofBytes l).size = l.length := by
  have h : ∀ (l : List Int) (s : ByteArray), (l.foldl (fun r n => r.push (UInt8.ofNat n.toNat)) s).size = s.size + l.length := by
    intro l
    induction l with
    | nil => intro s; simp
    | cons x l ih => intro s; rw [List.foldl_cons, ih]; simp; omega
  have := h l ByteArray.empty
  simp at this
  exact this
theorem refhex_calls (n : Int) (hn : 0 ≤ n ∧ n < 18446744073709551616) (w : World) :
    Calls Try.prog 14 #[.int .u64 n] w fun e w' => e = .returned (.string (ofBytes (hexL n))) ∧ w' = w := by
  go_enter Try.func14, Try.ntmps14
  go_wp2
  go_loop [3, 4] (fun s i => ∃ k : Nat, k ≤ 16 ∧ (∃ q : Int, i = .int .i64 q ∧ q = 60 - 4 * (k : Int)) ∧ s = .string (ofBytes ((hexL n).take k))) (fun _ i => ((intOf i + 4) / 4).toNat)
  case atStart => exact ⟨0, by omega, ⟨60, rfl, by omega⟩, rfl⟩
  case round =>
    obtain ⟨k, hk, ⟨q, rfl, hq⟩, rfl⟩ := hrel
    by_cases hlt : k < 16
    · have hq0 : 0 ≤ q := by omega
      have hq1 : q ≤ 60 := by omega
      have hp : (2 : Int) ^ q.toNat = 16 ^ (15 - k) := by rw [show q.toNat = 4 * (15 - k) by omega, pow4]
      have hx0 : 0 ≤ n / 2 ^ q.toNat := Int.ediv_nonneg hn.1 (Int.pow_nonneg (by omega))
      have hx1 : n / 2 ^ q.toNat < 18446744073709551616 := Int.lt_of_le_of_lt (Int.ediv_le_self _ hn.1) hn.2
      have hb := and15 _ hx0 hx1
      have hd0 : 0 ≤ n / 2 ^ q.toNat % 16 := by omega
      have hd1 : n / 2 ^ q.toNat % 16 < 16 := by omega
      have hnext : Hid ((hexL n).take (k + 1) = (hexL n).take k ++ [hexDig (n / 2 ^ q.toNat % 16)]) := by
        refine hidden ?_
        rw [List.take_add_one, hexL_get n k hlt, hp]; rfl
      replace hq := hidden hq
      generalize n / 2 ^ q.toNat % 16 = d at hb hd0 hd1 hnext
      clear hp hx0 hx1
      have hs : (ofBytes ((hexL n).take k)).size ≤ 16 := by rw [ofBytes_size, List.length_take, hexL_len]; omega
      go_wp2
      go_round
      case rel =>
        refine ⟨k + 1, hlt, ⟨_, rfl, by rw [hq.out]; omega⟩, ?_⟩
        rw [hnext.out, ofBytes_snoc]
        obtain ⟨d', rfl⟩ := Int.eq_ofNat_of_zero_le hd0
        congr 1
        have := push_extract (ofBytes ((hexL n).take k)) d' (by omega)
        simpa using this
      case measure => simp [intOf]; omega
    · have hq1 : q < 0 := by omega
      obtain rfl : k = 16 := by omega
      have ht : (hexL n).take 16 = hexL n := List.take_of_length_le (by rw [hexL_len]; omega)
      rw [ht]
      clear hq ht
      go_wp2
      go_ret
      exact ⟨rfl, rfl⟩
end Go.Proofs.Ythkmbpokfpjnfaa
