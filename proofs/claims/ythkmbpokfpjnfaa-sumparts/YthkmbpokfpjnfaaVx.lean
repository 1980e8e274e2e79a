/- credenzaref2.Unhex: it answers as sum.Unhex does. -/
import Derived.Test.YthkmbpokfpjnfaaUx
namespace Go.Proofs.Ythkmbpokfpjnfaa
open Go.RowKit
set_option maxRecDepth 100000

theorem or16 (m d : Int) (h0 : 0 ≤ m) (h1 : m < 1152921504606846976) (h2 : 0 ≤ d) (h3 : d < 16) : bits .or .u64 (m * 16) d = m * 16 + d := by
  have h4 : bits .or .u64 (m * 16) d = IntKind.u64.wrap (((BitVec.ofInt 64 (m * 16) ||| BitVec.ofInt 64 d).toNat : Nat) : Int) := rfl
  have h5 : (BitVec.ofInt 64 (m * 16) ||| BitVec.ofInt 64 d).toNat = m.toNat * 16 + d.toNat := by
    rw [BitVec.toNat_or, BitVec.toNat_ofInt, BitVec.toNat_ofInt]
    have e1 : (m * 16 % ((2 ^ 64 : Nat) : Int)).toNat = 2 ^ 4 * m.toNat := by rw [Int.emod_eq_of_lt (by omega) (by simp; omega)]; omega
    have e2 : (d % ((2 ^ 64 : Nat) : Int)).toNat = d.toNat := by rw [Int.emod_eq_of_lt h2 (by simp; omega)]
    rw [e1, e2, ← Nat.two_pow_add_eq_or_of_lt (by omega)]
    omega
  rw [h4, h5]
  have h6 : ((m.toNat * 16 + d.toNat : Nat) : Int) = m * 16 + d := by omega
  rw [h6]
  simp [IntKind.wrap, IntKind.bits, IntKind.signed]
  omega

theorem refunhex_calls (s : ByteArray) (w : World) :
    Calls Try.prog 16 #[.string s] w fun e w' => e = .returned (unhexV (unhexS s)) ∧ w' = w := by
  by_cases hs : s.size = 16
  · have hV : unhexS s = unhexL (bytesOf s) := if_pos hs
    rw [hV]
    clear hV
    go_enter Try.func16, Try.ntmps16
    go_wp2
    go_loopg [4, 5] 16 (fun g x i wr => ∃ k : Nat, k ≤ 16 ∧ g = 16 - k ∧ (∃ q : Int, i = .int .i64 q ∧ q = (k : Int)) ∧ (∃ m : Int, x = .int .u64 m ∧ 0 ≤ m ∧ m < 16 ^ k ∧ unhexL ((bytesOf s).take k) = some m) ∧ wr = w)
    case atStart => exact ⟨0, by omega, rfl, ⟨0, rfl, by omega⟩, ⟨0, rfl, by omega, by decide, rfl⟩, rfl⟩
    case round =>
      obtain ⟨k, hk, hg, ⟨q, rfl, hq⟩, ⟨m, rfl, hm0, hm1, hm⟩, rfl⟩ := hrel
      have hq0 : 0 ≤ q := by omega
      by_cases hlt : q < 16
      · obtain rfl : k = q.toNat := by omega
        have hlt' : q.toNat < s.size := by omega
        have hm2 : m < 1152921504606846976 := Int.lt_of_lt_of_le hm1 (by
          have h1 : q.toNat ≤ 15 := by omega
          have h2 : (16 : Int) ^ q.toNat ≤ 16 ^ 15 := by exact_mod_cast Nat.pow_le_pow_right (by omega : 0 < 16) h1
          exact Int.le_trans h2 (by decide))
        have hstep := unhex_take _ _ _ (bytesOf_get s q.toNat hlt')
        have hc : 0 ≤ ((s[q.toNat].toNat : Nat) : Int) ∧ ((s[q.toNat].toNat : Nat) : Int) ≤ 255 := ⟨by omega, by have := s[q.toNat].toNat_lt; omega⟩
        have hall := hidden (And.intro hk (And.intro hq (And.intro hm1 (And.intro hm (And.intro hg (And.intro hm2 hstep))))))
        have hx : ∀ w : World, (Instr.index 9 (.string s) (.int .i64 q)).run Try.prog w = .ok (.int .u8 ((s[q.toNat].toNat : Nat) : Int)) w := by
          intro w
          simp [go_sem, hs, hq0, hlt]
        generalize ((s[q.toNat].toNat : Nat) : Int) = c at hc hstep hx hall
        by_cases h1 : 48 ≤ c
        · by_cases h2 : c ≤ 57
          · have hd : dig c = some (c - 48) := dig_digit h1 h2
            have e1 : IntKind.u64.wrap (m * 16) = m * 16 := by simp [IntKind.wrap, IntKind.bits, IntKind.signed]; omega
            have e2 : bits .or .u64 (m * 16) (c - 48) = m * 16 + (c - 48) := by rw [or16 m _ hm0 hm2 (by omega) (by omega)]
            have hnext : Hid (unhexL ((bytesOf s).take (q.toNat + 1)) = some (m * 16 + (c - 48))) := hidden (by rw [hstep, hm, unhexStep, hd]; rfl)
            clear hk hq hm1 hm hg hm2 hstep hd
            go_wp2
            go_roundg (16 - (q.toNat + 1))
            case measure =>
              obtain ⟨hk, hq, hm1, hm, hg, hm2, hstep⟩ := hall.out
              rw [hg]; omega
            case rel =>
              obtain ⟨hk, hq, hm1, hm, hg, hm2, hstep⟩ := hall.out
              refine ⟨q.toNat + 1, by omega, rfl, ⟨_, rfl, by omega⟩, ⟨_, rfl, by omega, ?_, hnext.out⟩, rfl⟩
              rw [Int.pow_succ]
              omega
          · by_cases h3 : 97 ≤ c
            · by_cases h4 : c ≤ 102
              · have hd : dig c = some (c - 87) := dig_letter h3 h4
                have e1 : IntKind.u64.wrap (m * 16) = m * 16 := by simp [IntKind.wrap, IntKind.bits, IntKind.signed]; omega
                have e2 : bits .or .u64 (m * 16) (c - 97 + 10) = m * 16 + (c - 87) := by rw [or16 m _ hm0 hm2 (by omega) (by omega)]; omega
                have hnext : Hid (unhexL ((bytesOf s).take (q.toNat + 1)) = some (m * 16 + (c - 87))) := hidden (by rw [hstep, hm, unhexStep, hd]; rfl)
                clear hk hq hm1 hm hg hm2 hstep hd
                go_wp2
                go_roundg (16 - (q.toNat + 1))
                case measure =>
                  obtain ⟨hk, hq, hm1, hm, hg, hm2, hstep⟩ := hall.out
                  rw [hg]; omega
                case rel =>
                  obtain ⟨hk, hq, hm1, hm, hg, hm2, hstep⟩ := hall.out
                  refine ⟨q.toNat + 1, by omega, rfl, ⟨_, rfl, by omega⟩, ⟨_, rfl, by omega, ?_, hnext.out⟩, rfl⟩
                  rw [Int.pow_succ]
                  omega
              · have hd : dig c = none := dig_none (by omega) (by omega)
                have hbad : Hid (unhexL (bytesOf s) = none) := hidden (unhex_bad _ (q.toNat + 1) (by rw [hstep, hm, unhexStep, hd]; rfl))
                clear hk hq hm1 hm hg hm2 hstep hd
                go_wp2
                go_ret2
                rw [hbad.out]
                exact ⟨rfl, rfl⟩
            · have hd : dig c = none := dig_none (by omega) (by omega)
              have hbad : Hid (unhexL (bytesOf s) = none) := hidden (unhex_bad _ (q.toNat + 1) (by rw [hstep, hm, unhexStep, hd]; rfl))
              clear hk hq hm1 hm hg hm2 hstep hd
              go_wp2
              go_ret2
              rw [hbad.out]
              exact ⟨rfl, rfl⟩
        · have h3 : ¬ 97 ≤ c := by omega
          have hd : dig c = none := dig_none (by omega) (by omega)
          have hbad : Hid (unhexL (bytesOf s) = none) := hidden (unhex_bad _ (q.toNat + 1) (by rw [hstep, hm, unhexStep, hd]; rfl))
          clear hk hq hm1 hm hg hm2 hstep hd
          go_wp2
          go_ret2
          rw [hbad.out]
          exact ⟨rfl, rfl⟩
      · obtain rfl : k = 16 := by omega
        have ht : (bytesOf s).take 16 = bytesOf s := List.take_of_length_le (by rw [bytesOf_len]; omega)
        rw [ht] at hm
        replace hm := hidden hm
        clear hq ht hm1
        go_wp2
        go_ret2
        rw [hm.out]
        exact ⟨rfl, rfl⟩
  · have hV : unhexS s = none := if_neg hs
    rw [hV]
    have hs' : ((s.size : Int) == 16) = false := by simp; omega
    clear hV hs
    go_enter Try.func16, Try.ntmps16
    go_wp2
    go_ret2
    exact ⟨rfl, rfl⟩
end Go.Proofs.Ythkmbpokfpjnfaa
