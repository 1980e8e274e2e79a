/- sum.Unhex: sixteen digits are read; anything else is refused. -/
import Derived.Test.YtfoamhkgdlebdaaGreatDoorX0
namespace Go.Proofs.YtfoamhkgdlebdaaGreatDoor
open Go.RowKit Go.Extern.Stop Go.Stop Go.Extern
set_option maxRecDepth 100000

/-- The value of a sign. -/
def dig (c : Int) : Option Int := if 97 ≤ c ∧ c ≤ 102 then some (c - 87) else if 48 ≤ c ∧ c ≤ 57 then some (c - 48) else none
def digV (c : Int) : Value := .tuple #[.int .u8 ((dig c).getD 0), .bool (dig c).isSome]
theorem dig_letter {c : Int} (h1 : 97 ≤ c) (h2 : c ≤ 102) : dig c = some (c - 87) := if_pos ⟨h1, h2⟩
theorem dig_digit {c : Int} (h1 : 48 ≤ c) (h2 : c ≤ 57) : dig c = some (c - 48) := by
  rw [dig, if_neg (by omega), if_pos ⟨h1, h2⟩]
theorem dig_none {c : Int} (h1 : ¬ (97 ≤ c ∧ c ≤ 102)) (h2 : ¬ (48 ≤ c ∧ c ≤ 57)) : dig c = none := by
  rw [dig, if_neg h1, if_neg h2]
theorem dig_bound {c d : Int} (h : dig c = some d) : 0 ≤ d ∧ d < 16 := by
  unfold dig at h
  split at h
  · cases h; omega
  · split at h
    · cases h; omega
    · cases h

theorem digit_calls (c : Int) (hc : 0 ≤ c ∧ c ≤ 255) (w : World) :
    Calls Tryz.prog 70 #[.int .u8 c] w fun e w' => e = .returned (digV c) ∧ w' = w := by
  by_cases h1 : 97 ≤ c
  · by_cases h2 : c ≤ 102
    · have hd : digV c = .tuple #[.int .u8 (c - 87), .bool true] := by simp [digV, dig_letter h1 h2]
      rw [hd]
      clear hd
      have e1 : IntKind.u8.wrap (c - 39) = c - 39 := by simp [IntKind.wrap, IntKind.bits, IntKind.signed]; omega
      have e2 : IntKind.u8.wrap (c - 39 - 48) = c - 87 := by simp [IntKind.wrap, IntKind.bits, IntKind.signed]; omega
      go_enter Tryz.func70, Tryz.ntmps70
      go_wp2
      go_ret2
      exact ⟨rfl, rfl⟩
    · have hd : digV c = .tuple #[.int .u8 0, .bool false] := by simp [digV, dig_none (c := c) (by omega) (by omega)]
      rw [hd]
      clear hd
      have h3 : ¬ c ≤ 57 := by omega
      go_enter Tryz.func70, Tryz.ntmps70
      go_wp2
      go_ret2
      exact ⟨rfl, rfl⟩
  · by_cases h2 : 48 ≤ c
    · by_cases h3 : c ≤ 57
      · have hd : digV c = .tuple #[.int .u8 (c - 48), .bool true] := by simp [digV, dig_digit h2 h3]
        rw [hd]
        clear hd
        have e1 : IntKind.u8.wrap (c - 48) = c - 48 := by simp [IntKind.wrap, IntKind.bits, IntKind.signed]; omega
        go_enter Tryz.func70, Tryz.ntmps70
        go_wp2
        go_ret2
        exact ⟨rfl, rfl⟩
      · have hd : digV c = .tuple #[.int .u8 0, .bool false] := by simp [digV, dig_none (c := c) (by omega) (by omega)]
        rw [hd]
        clear hd
        go_enter Tryz.func70, Tryz.ntmps70
        go_wp2
        go_ret2
        exact ⟨rfl, rfl⟩
    · have hd : digV c = .tuple #[.int .u8 0, .bool false] := by simp [digV, dig_none (c := c) (by omega) (by omega)]
      rw [hd]
      clear hd
      go_enter Tryz.func70, Tryz.ntmps70
      go_wp2
      go_ret2
      exact ⟨rfl, rfl⟩

def unhexStep (acc : Option Int) (c : Int) : Option Int := acc.bind fun n => (dig c).map fun d => n * 16 + d
def unhexL (cs : List Int) : Option Int := cs.foldl unhexStep (some 0)
theorem unhex_none (cs : List Int) : cs.foldl unhexStep none = none := by
  induction cs with
  | nil => rfl
  | cons c cs ih => exact ih
theorem unhex_take (cs : List Int) (k : Nat) (c : Int) (h : cs[k]? = some c) : unhexL (cs.take (k + 1)) = unhexStep (unhexL (cs.take k)) c := by
  unfold unhexL
  rw [List.take_add_one, h, List.foldl_append]; rfl
theorem unhex_bad (cs : List Int) (k : Nat) (h : unhexL (cs.take k) = none) : unhexL cs = none := by
  rw [← List.take_append_drop k cs, unhexL, List.foldl_append]
  unfold unhexL at h
  rw [h]
  exact unhex_none _
/-- The bytes of a text. -/
def bytesOf (s : ByteArray) : List Int := s.data.toList.map fun b => (b.toNat : Int)
theorem bytesOf_len (s : ByteArray) : (bytesOf s).length = s.size := by simp [bytesOf]
theorem bytesOf_get (s : ByteArray) (k : Nat) (h : k < s.size) : (bytesOf s)[k]? = some (s[k].toNat : Int) := by
  have h' : k < s.data.toList.length := by simpa using h
  rw [bytesOf, List.getElem?_map, List.getElem?_eq_getElem h']
  rfl
def unhexS (s : ByteArray) : Option Int := if s.size = 16 then unhexL (bytesOf s) else none
def unhexV (r : Option Int) : Value := .tuple #[.int .u64 (r.getD 0), .bool r.isSome]

theorem unhex_calls (s : ByteArray) (w : World) :
    Calls Tryz.prog 56 #[.string s] w fun e w' => e = .returned (unhexV (unhexS s)) ∧ w' = w := by
  by_cases hs : s.size = 16
  · have hV : unhexS s = unhexL (bytesOf s) := if_pos hs
    rw [hV]
    clear hV
    go_enter Tryz.func56, Tryz.ntmps56
    go_wp2
    go_loopg [4, 11] 16 (fun g x i wr => ∃ k : Nat, k ≤ 16 ∧ g = 16 - k ∧ (∃ q : Int, i = .int .i64 q ∧ q = (k : Int)) ∧ (∃ m : Int, x = .int .u64 m ∧ 0 ≤ m ∧ m < 16 ^ k ∧ unhexL ((bytesOf s).take k) = some m) ∧ wr = w)
    case atStart => exact ⟨0, by omega, rfl, ⟨0, rfl, by omega⟩, ⟨0, rfl, by omega, by decide, rfl⟩, rfl⟩
    case round =>
      obtain ⟨k, hk, hg, ⟨q, rfl, hq⟩, ⟨m, rfl, hm0, hm1, hm⟩, rfl⟩ := hrel
      have hq0 : 0 ≤ q := by omega
      replace hg := hidden hg
      by_cases hlt : q < 16
      · have hall := hidden (And.intro hk (And.intro hq (And.intro hm1 hm)))
        clear hk hq hm1 hm
        go_wp2_with fail
        obtain ⟨hk, hq, hm1, hm⟩ := hall.out
        clear hall
        obtain rfl : k = q.toNat := by omega
        have hm2 : m < 1152921504606846976 := Int.lt_of_lt_of_le hm1 (by
          have h1 : q.toNat ≤ 15 := by omega
          have h2 : (16 : Int) ^ q.toNat ≤ 16 ^ 15 := by exact_mod_cast Nat.pow_le_pow_right (by omega : 0 < 16) h1
          exact Int.le_trans h2 (by decide))
        have hlt' : q.toNat < s.size := by omega
        have hget := hidden (bytesOf_get s q.toNat hlt')
        replace hm := hidden hm
        replace hm1 := hidden hm1
        replace hm2 := hidden hm2
        replace hq := hidden hq
        have hc : 0 ≤ ((s[q.toNat].toNat : Nat) : Int) ∧ ((s[q.toNat].toNat : Nat) : Int) ≤ 255 := ⟨by omega, by have := s[q.toNat].toNat_lt; omega⟩
        refine (digit_calls _ hc wr).mono ?_
        rintro ev w' ⟨rfl, rfl⟩
        have hstep := hidden (unhex_take _ _ _ hget.out)
        generalize ((s[q.toNat].toNat : Nat) : Int) = c at hc hstep ⊢
        clear hget
        unfold digV
        cases hd : dig c with
        | none =>
          have hbad : Hid (unhexL (bytesOf s) = none) := hidden (unhex_bad _ (q.toNat + 1) (by rw [hstep.out, hm.out, unhexStep, hd]; rfl))
          clear hd hstep hm hm1 hm2 hq hk hg hc
          go_wp2
          go_ret2
          rw [hbad.out]
          exact ⟨rfl, rfl⟩
        | some d =>
          have hb := dig_bound hd
          have hm2' := hm2.out
          have hnext : unhexL ((bytesOf s).take (q.toNat + 1)) = some (m * 16 + d) := by rw [hstep.out, hm.out, unhexStep, hd]; rfl
          have e1 : IntKind.u64.wrap (m * 16) = m * 16 := by simp [IntKind.wrap, IntKind.bits, IntKind.signed]; omega
          have e2 : IntKind.u64.wrap (m * 16 + d) = m * 16 + d := by simp [IntKind.wrap, IntKind.bits, IntKind.signed]; omega
          have e3 : IntKind.u64.wrap d = d := by simp [IntKind.wrap, IntKind.bits, IntKind.signed]; omega
          have hall := hidden (And.intro hk (And.intro hq.out (And.intro hm1.out (And.intro hb (And.intro hnext hg.out)))))
          clear hd hstep hm hm1 hm2 hq hk hg hc hm2' hb hnext
          go_wp2
          go_roundg (16 - (q.toNat + 1))
          case measure =>
            obtain ⟨hk, hq, hm1, hb, hnext, hg⟩ := hall.out
            rw [hg]; omega
          case rel =>
            obtain ⟨hk, hq, hm1, hb, hnext, hg⟩ := hall.out
            refine ⟨q.toNat + 1, by omega, rfl, ⟨_, rfl, by omega⟩, ⟨_, rfl, by omega, ?_, hnext⟩, rfl⟩
            rw [Int.pow_succ]
            omega
      · obtain rfl : k = 16 := by omega
        have ht : (bytesOf s).take 16 = bytesOf s := List.take_of_length_le (by rw [bytesOf_len]; omega)
        rw [ht] at hm
        replace hm := hidden hm
        clear hq ht hm1
        go_wp2
        go_ret2
        rw [hm.out]
        exact ⟨rfl, rfl⟩
  · have hV : unhexS s = none := if_neg hs
    rw [hV]
    have hs' : ((s.size : Int) == 16) = false := by simp; omega
    clear hV hs
    go_enter Tryz.func56, Tryz.ntmps56
    go_wp2
    go_ret2
    exact ⟨rfl, rfl⟩
theorem or16 (m d : Int) (h0 : 0 ≤ m) (h1 : m < 1152921504606846976) (h2 : 0 ≤ d) (h3 : d < 16) : bits .or .u64 (m * 16) d = m * 16 + d := by
  have h4 : bits .or .u64 (m * 16) d = IntKind.u64.wrap (((BitVec.ofInt 64 (m * 16) ||| BitVec.ofInt 64 d).toNat : Nat) : Int) := rfl
  have h5 : (BitVec.ofInt 64 (m * 16) ||| BitVec.ofInt 64 d).toNat = m.toNat * 16 + d.toNat := by
    rw [BitVec.toNat_or, BitVec.toNat_ofInt, BitVec.toNat_ofInt]
    have e1 : (m * 16 % ((2 ^ 64 : Nat) : Int)).toNat = 2 ^ 4 * m.toNat := by rw [Int.emod_eq_of_lt (by omega) (by simp; omega)]; omega
    have e2 : (d % ((2 ^ 64 : Nat) : Int)).toNat = d.toNat := by rw [Int.emod_eq_of_lt h2 (by simp; omega)]
    rw [e1, e2, ← Nat.two_pow_add_eq_or_of_lt (by omega)]
    omega
  rw [h4, h5]
  have h6 : ((m.toNat * 16 + d.toNat : Nat) : Int) = m * 16 + d := by omega
  rw [h6]
  simp [IntKind.wrap, IntKind.bits, IntKind.signed]
  omega

theorem refunhex_calls (s : ByteArray) (w : World) :
    Calls Tryz.prog 68 #[.string s] w fun e w' => e = .returned (unhexV (unhexS s)) ∧ w' = w := by
  by_cases hs : s.size = 16
  · have hV : unhexS s = unhexL (bytesOf s) := if_pos hs
    rw [hV]
    clear hV
    go_enter Tryz.func68, Tryz.ntmps68
    go_wp2
    go_loopg [4, 5] 16 (fun g x i wr => ∃ k : Nat, k ≤ 16 ∧ g = 16 - k ∧ (∃ q : Int, i = .int .i64 q ∧ q = (k : Int)) ∧ (∃ m : Int, x = .int .u64 m ∧ 0 ≤ m ∧ m < 16 ^ k ∧ unhexL ((bytesOf s).take k) = some m) ∧ wr = w)
    case atStart => exact ⟨0, by omega, rfl, ⟨0, rfl, by omega⟩, ⟨0, rfl, by omega, by decide, rfl⟩, rfl⟩
    case round =>
      obtain ⟨k, hk, hg, ⟨q, rfl, hq⟩, ⟨m, rfl, hm0, hm1, hm⟩, rfl⟩ := hrel
      have hq0 : 0 ≤ q := by omega
      by_cases hlt : q < 16
      · obtain rfl : k = q.toNat := by omega
        have hlt' : q.toNat < s.size := by omega
        have hm2 : m < 1152921504606846976 := Int.lt_of_lt_of_le hm1 (by
          have h1 : q.toNat ≤ 15 := by omega
          have h2 : (16 : Int) ^ q.toNat ≤ 16 ^ 15 := by exact_mod_cast Nat.pow_le_pow_right (by omega : 0 < 16) h1
          exact Int.le_trans h2 (by decide))
        have hstep := unhex_take _ _ _ (bytesOf_get s q.toNat hlt')
        have hc : 0 ≤ ((s[q.toNat].toNat : Nat) : Int) ∧ ((s[q.toNat].toNat : Nat) : Int) ≤ 255 := ⟨by omega, by have := s[q.toNat].toNat_lt; omega⟩
        have hall := hidden (And.intro hk (And.intro hq (And.intro hm1 (And.intro hm (And.intro hg (And.intro hm2 hstep))))))
        have hx : ∀ w : World, (Instr.index 9 (.string s) (.int .i64 q)).run Tryz.prog w = .ok (.int .u8 ((s[q.toNat].toNat : Nat) : Int)) w := by
          intro w
          simp [go_sem, hs, hq0, hlt]
        generalize ((s[q.toNat].toNat : Nat) : Int) = c at hc hstep hx hall
        by_cases h1 : 48 ≤ c
        · by_cases h2 : c ≤ 57
          · have hd : dig c = some (c - 48) := dig_digit h1 h2
            have e1 : IntKind.u64.wrap (m * 16) = m * 16 := by simp [IntKind.wrap, IntKind.bits, IntKind.signed]; omega
            have e2 : bits .or .u64 (m * 16) (c - 48) = m * 16 + (c - 48) := by rw [or16 m _ hm0 hm2 (by omega) (by omega)]
            have hnext : Hid (unhexL ((bytesOf s).take (q.toNat + 1)) = some (m * 16 + (c - 48))) := hidden (by rw [hstep, hm, unhexStep, hd]; rfl)
            clear hk hq hm1 hm hg hm2 hstep hd
            go_wp2
            go_roundg (16 - (q.toNat + 1))
            case measure =>
              obtain ⟨hk, hq, hm1, hm, hg, hm2, hstep⟩ := hall.out
              rw [hg]; omega
            case rel =>
              obtain ⟨hk, hq, hm1, hm, hg, hm2, hstep⟩ := hall.out
              refine ⟨q.toNat + 1, by omega, rfl, ⟨_, rfl, by omega⟩, ⟨_, rfl, by omega, ?_, hnext.out⟩, rfl⟩
              rw [Int.pow_succ]
              omega
          · by_cases h3 : 97 ≤ c
            · by_cases h4 : c ≤ 102
              · have hd : dig c = some (c - 87) := dig_letter h3 h4
                have e1 : IntKind.u64.wrap (m * 16) = m * 16 := by simp [IntKind.wrap, IntKind.bits, IntKind.signed]; omega
                have e2 : bits .or .u64 (m * 16) (c - 97 + 10) = m * 16 + (c - 87) := by rw [or16 m _ hm0 hm2 (by omega) (by omega)]; omega
                have hnext : Hid (unhexL ((bytesOf s).take (q.toNat + 1)) = some (m * 16 + (c - 87))) := hidden (by rw [hstep, hm, unhexStep, hd]; rfl)
                clear hk hq hm1 hm hg hm2 hstep hd
                go_wp2
                go_roundg (16 - (q.toNat + 1))
                case measure =>
                  obtain ⟨hk, hq, hm1, hm, hg, hm2, hstep⟩ := hall.out
                  rw [hg]; omega
                case rel =>
                  obtain ⟨hk, hq, hm1, hm, hg, hm2, hstep⟩ := hall.out
                  refine ⟨q.toNat + 1, by omega, rfl, ⟨_, rfl, by omega⟩, ⟨_, rfl, by omega, ?_, hnext.out⟩, rfl⟩
                  rw [Int.pow_succ]
                  omega
              · have hd : dig c = none := dig_none (by omega) (by omega)
                have hbad : Hid (unhexL (bytesOf s) = none) := hidden (unhex_bad _ (q.toNat + 1) (by rw [hstep, hm, unhexStep, hd]; rfl))
                clear hk hq hm1 hm hg hm2 hstep hd
                go_wp2
                go_ret2
                rw [hbad.out]
                exact ⟨rfl, rfl⟩
            · have hd : dig c = none := dig_none (by omega) (by omega)
              have hbad : Hid (unhexL (bytesOf s) = none) := hidden (unhex_bad _ (q.toNat + 1) (by rw [hstep, hm, unhexStep, hd]; rfl))
              clear hk hq hm1 hm hg hm2 hstep hd
              go_wp2
              go_ret2
              rw [hbad.out]
              exact ⟨rfl, rfl⟩
        · have h3 : ¬ 97 ≤ c := by omega
          have hd : dig c = none := dig_none (by omega) (by omega)
          have hbad : Hid (unhexL (bytesOf s) = none) := hidden (unhex_bad _ (q.toNat + 1) (by rw [hstep, hm, unhexStep, hd]; rfl))
          clear hk hq hm1 hm hg hm2 hstep hd
          go_wp2
          go_ret2
          rw [hbad.out]
          exact ⟨rfl, rfl⟩
      · obtain rfl : k = 16 := by omega
        have ht : (bytesOf s).take 16 = bytesOf s := List.take_of_length_le (by rw [bytesOf_len]; omega)
        rw [ht] at hm
        replace hm := hidden hm
        clear hq ht hm1
        go_wp2
        go_ret2
        rw [hm.out]
        exact ⟨rfl, rfl⟩
  · have hV : unhexS s = none := if_neg hs
    rw [hV]
    have hs' : ((s.size : Int) == 16) = false := by simp; omega
    clear hV hs
    go_enter Tryz.func68, Tryz.ntmps68
    go_wp2
    go_ret2
    exact ⟨rfl, rfl⟩
end Go.Proofs.YtfoamhkgdlebdaaGreatDoor
