/- The journal's get and part. -/
import Derived.Test.YtopegpjkkicjhaaGreatDoorJo1
namespace Go.Proofs.YtopegpjkkicjhaaGreatDoor
open Go.RowKit Go.Extern.Stop Go.Stop Go.Extern
set_option maxRecDepth 100000

theorem or_nat (X Z k : Nat) (hX : X < 256 ^ k) (hZ : Z ≤ 255) (hk : k < 8) : bits .or .u64 (X : Int) ((Z * 256 ^ k : Nat) : Int) = ((X + Z * 256 ^ k : Nat) : Int) := by
  have h2 : bits .or .u64 (X : Int) ((Z * 256 ^ k : Nat) : Int) = IntKind.u64.wrap (((BitVec.ofInt 64 (X : Int) ||| BitVec.ofInt 64 ((Z * 256 ^ k : Nat) : Int)).toNat : Nat) : Int) := rfl
  have hp : (256 : Nat) ^ k = 2 ^ (8 * k) := by rw [Nat.pow_mul]
  have hb : X + Z * 256 ^ k < 256 ^ (k + 1) := by
    rw [Nat.pow_succ]
    have : Z * 256 ^ k ≤ 255 * 256 ^ k := Nat.mul_le_mul_right _ hZ
    omega
  have hb2 : 256 ^ (k + 1) ≤ 256 ^ 8 := Nat.pow_le_pow_right (by omega) (by omega)
  have h256 : (256 : Nat) ^ 8 = 18446744073709551616 := by decide
  have e1 : (BitVec.ofInt 64 (X : Int)).toNat = X := by rw [BitVec.toNat_ofInt]; omega
  have e2 : (BitVec.ofInt 64 ((Z * 256 ^ k : Nat) : Int)).toNat = Z * 256 ^ k := by rw [BitVec.toNat_ofInt]; omega
  have h3 : (BitVec.ofInt 64 (X : Int) ||| BitVec.ofInt 64 ((Z * 256 ^ k : Nat) : Int)).toNat = X + Z * 256 ^ k := by
    rw [BitVec.toNat_or, e1, e2, Nat.or_comm, hp, ← Nat.shiftLeft_eq, ← Nat.shiftLeft_add_eq_or_of_lt (by rw [← hp]; exact hX), Nat.add_comm]
  rw [h2, h3]
  generalize X + Z * 256 ^ k = q at hb
  simp only [IntKind.wrap, IntKind.bits, IntKind.signed]
  simp
  omega
theorem or_add (x z : Int) (k : Nat) (hx : 0 ≤ x ∧ x < 256 ^ k) (hz : 0 ≤ z ∧ z ≤ 255) (hk : k < 8) : bits .or .u64 x (z * 256 ^ k) = x + z * 256 ^ k := by
  obtain ⟨X, rfl⟩ := Int.eq_ofNat_of_zero_le hx.1
  obtain ⟨Z, rfl⟩ := Int.eq_ofNat_of_zero_le hz.1
  have hX : X < 256 ^ k := by have := hx.2; rw [show ((256 : Int) ^ k) = ((256 ^ k : Nat) : Int) by simp] at this; omega
  have := or_nat X Z k hX (by omega) hk
  push_cast at this
  exact this
theorem wrap_shl (z : Int) (k : Nat) (hz : 0 ≤ z ∧ z ≤ 255) (hk : k < 8) : IntKind.u64.wrap (z * 256 ^ k) = z * 256 ^ k := by
  have hp : (256 : Int) ^ k ≤ 256 ^ 7 := by
    have := Nat.pow_le_pow_right (n := 256) (by omega) (show k ≤ 7 by omega)
    have e : ∀ j : Nat, ((256 : Int) ^ j) = ((256 ^ j : Nat) : Int) := fun j => by simp
    rw [e, e]; omega
  have h0 : (0 : Int) ≤ 256 ^ k := Int.pow_nonneg (by omega)
  have h7 : (256 : Int) ^ 7 = 72057594037927936 := by decide
  have h1 : 0 ≤ z * 256 ^ k := Int.mul_nonneg hz.1 h0
  have h2 : z * 256 ^ k ≤ 255 * 256 ^ k := Int.mul_le_mul_of_nonneg_right hz.2 h0
  generalize (256 : Int) ^ k = p at *
  generalize z * p = q at *
  simp only [IntKind.wrap, IntKind.bits, IntKind.signed]
  simp
  omega
set_option maxHeartbeats 1000000 in
theorem get_calls (zs : List Int) (v : Value) (i : Nat) (w : World) (h : BytesAt w v zs) (hi : 8 * i + 8 ≤ zs.length) (hm : zs.length ≤ 1000000) :
    Calls Tryz.prog 149 #[v, .int .i64 i] w fun e w' => e = .returned (.int .u64 (getL zs i)) ∧ w' = w := by
  obtain ⟨a, cap, rfl, hr, -, -, hc⟩ := h
  obtain ⟨b, off, rfl, hb, hcell⟩ := hc (by intro e; rw [e] at hi; simp at hi)
  have hR := hidden (bytes_getD hr)
  have hc' := hidden hcell
  clear hc hr hcell
  generalize hL : zs.length = m at *
  replace hL := hidden hL
  go_enter Tryz.func149, Tryz.ntmps149
  go_wp2
  go_loop [5, 7] (fun t q => ∃ k : Nat, k ≤ 8 ∧ q = .int .i64 k ∧ t = .int .u64 (getK zs i k)) (fun _ q => 8 - (intOf q).toNat)
  case atStart => exact ⟨0, by omega, rfl, rfl⟩
  case round =>
    obtain ⟨k, hk, rfl, rfl⟩ := hrel
    by_cases hlt : k < 8
    · have hz := hR.out (8 * i + k)
      have hx := getK_range zs i hR.out k
      have hst : Hid (getK zs i (k + 1) = getK zs i k + zs.getD (8 * i + k) 0 * 256 ^ k) := hidden rfl
      have hcl := hc'.out (8 * i + k) (by omega)
      have hJ : ((i : Int) * 8 + (k : Int)).toNat = 8 * i + k := by omega
      have hp := pow8 k
      have hor := or_add _ _ k hx hz hlt
      have hwr := wrap_shl _ k hz hlt
      generalize zs.getD (8 * i + k) 0 = z at hz hst hcl hor hwr
      generalize getK zs i k = acc at hst hx hor ⊢
      replace hx := hidden hx
      go_wp2
      go_round
      case rel =>
        refine ⟨k + 1, by omega, by go_num, ?_⟩
        rw [hst.out]
      case measure => simp [intOf]; omega
    · obtain rfl : k = 8 := by omega
      go_wp2
      go_ret
      exact ⟨rfl, rfl⟩
theorem part_calls (b off m cap i : Nat) (hi : i * 128 + 128 ≤ m) (hm : m ≤ 1000000) (hc : m ≤ cap) (w : World) :
    Calls Tryz.prog 133 #[.slice (some ⟨b, off, none⟩) m cap, .int .i64 i] w fun e w' => (∃ cap', e = .returned (.slice (some ⟨b, off + i * 128, none⟩) 128 cap')) ∧ w' = w := by
  go_enter Tryz.func133, Tryz.ntmps133
  go_wp2
  go_ret
  exact ⟨⟨_, rfl⟩, rfl⟩
theorem bytes_part {w : World} {b off cap cap' : Nat} {zs : List Int} (h : BytesAt w (.slice (some ⟨b, off, none⟩) zs.length cap) zs) (i : Nat) (hi : i * 128 + 128 ≤ zs.length) : BytesAt w (.slice (some ⟨b, off + i * 128, none⟩) 128 cap') (chunk zs i) := by
  obtain ⟨a, c, hv, hr, hm, -, hc⟩ := h
  obtain ⟨b', off', ha, hlt, hcell⟩ := hc (by intro e; rw [e] at hi; simp at hi)
  have he := (Value.slice.inj hv).1
  subst ha
  simp only [Option.some.injEq, Addr.mk.injEq] at he
  obtain ⟨rfl, rfl, -⟩ := he
  refine ⟨_, cap', by rw [chunk_len zs i hi], chunk_range zs i hr, by rw [chunk_len zs i hi]; decide, fun e => (by cases e), fun _ => ⟨b, _, rfl, hlt, fun k hk => ?_⟩⟩
  rw [chunk_len zs i hi] at hk
  rw [Nat.add_assoc, hcell (i * 128 + k) (by omega)]
  simp [chunk, List.getD, hk]
end Go.Proofs.YtopegpjkkicjhaaGreatDoor
