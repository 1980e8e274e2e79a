/- NameDeep answers true, whatever it is given, and changes nothing that was there. -/
import Derived.Test.YthibelgeejgmeaaNc
namespace Go.Proofs.Ythibelgeejgmeaa
open Go Go.RowKit
set_option maxRecDepth 100000

def dn (k : Nat) : List (List UInt8) := (List.range k).map (fun j => [UInt8.ofNat (97 + j)])
theorem dn_len (k : Nat) : (dn k).length = k := by simp [dn]
theorem dn_succ (k : Nat) : dn (k + 1) = dn k ++ [[UInt8.ofNat (97 + k)]] := by simp [dn, List.range_succ]
theorem dn_may : ∀ k, k < 7 → mayB (dn k) = true := by decide
theorem dn_not : ∀ k, k < 10 → 6 < k → splitB (joinB (dn k)) = none := by decide
theorem dn_flat (k : Nat) : flatB (dn (k + 1)) = flatB (dn k) ++ [47] ++ [UInt8.ofNat (97 + k)] := by rw [dn_succ]; simp [flatB]
theorem dn_flen (k : Nat) : (flatB (dn k)).length = 2 * k := by
  induction k with
  | zero => rfl
  | succ k ih => rw [dn_flat]; simp [ih]; omega
theorem dn_join (k : Nat) (h : k ≠ 0) : joinB (dn k) = flatB (dn k) := by
  rw [joinB, if_neg (fun e => h (by rw [← dn_len k, e]; rfl))]
theorem dn_ne (k : Nat) : dn (k + 1) ≠ [] := fun e => by have := dn_len (k + 1); rw [e] at this; simp at this
theorem dn_drop (k : Nat) : (dn (k + 1)).dropLast = dn k := by rw [dn_succ]; simp
theorem dn_take (k : Nat) : (dn (k + 1)).take k = dn k := by rw [dn_succ, List.take_left' (dn_len k)]
theorem dn_last (k : Nat) : (dn (k + 1)).getLastD [] = [UInt8.ofNat (97 + k)] := by rw [dn_succ]; simp
theorem dn_in (k : Nat) (h : k + 1 < 7) : withinB (joinB (dn (k + 1))) (joinB (dn k)) = true := by
  rw [← dn_take k]; exact wi_pq _ _ (dn_may _ h)
theorem dn_out (k : Nat) (h : k + 1 < 7) : withinB (joinB (dn k)) (joinB (dn (k + 1))) = false := by
  rw [within_join (dn_may k (by omega)) (dn_may _ h), dn_len, dn_len]
  rw [show decide (k + 1 ≤ k) = false by simp]; rfl
theorem dn_byte (k : Nat) (h : k < 10) : ((UInt8.ofNat (97 + k)).toNat : Int) = 97 + (k : Int) := by
  have : (UInt8.ofNat (97 + k)).toNat = 97 + k := by simp; omega
  rw [this]; simp
theorem u8_wrap (k : Int) (h : 0 ≤ k) (h2 : k ≤ 255) : IntKind.u8.wrap k = k := by
  have h4 : k % (2 ^ 8 : Int) = k := by omega
  simp only [IntKind.wrap, IntKind.bits, IntKind.signed, h4]
  rfl
set_option maxHeartbeats 8000000 in
theorem nameDeep_calls (z : Int) (w : World) : Calls Try.prog 8 #[.int .i64 z] w fun e w' => e = .returned (.bool true) ∧ Below w.heap.size w w' := by
  have kA := hidden (fun w => awake_calls w)
  obtain ⟨f, g, hf, hf0, hf1, hg, hg0, hg1⟩ := and_rem z 255 10 (by omega) (by omega) (by omega)
  obtain ⟨n, rfl⟩ := Int.eq_ofNat_of_zero_le hg0
  have hn : n < 10 := by omega
  clear hg0 hg1
  go_enter Try.func8, Try.ntmps8
  go_wp2_with fail
  clear hf hf0 hf1 hg
  go_loopg [3, 4] n (fun g s i wr => ∃ k : Nat, k ≤ n ∧ g = n - k ∧ i = .int .i64 (k : Int) ∧ s = .string (mkB (flatB (dn k))) ∧ Below w.heap.size w wr)
  case atStart => exact ⟨0, Nat.zero_le _, rfl, rfl, rfl, Below.refl _ _⟩
  case round =>
    obtain ⟨k, hk, hg, rfl, rfl, hB⟩ := hrel
    replace hg := hidden hg
    by_cases hlt : k < n
    · have hlt' : (k : Int) < (n : Int) := by omega
      have w1 : IntKind.u8.wrap (k : Int) = (k : Int) := u8_wrap _ (by omega) (by omega)
      have w2 : IntKind.u8.wrap (97 + (k : Int)) = 97 + (k : Int) := u8_wrap _ (by omega) (by omega)
      have hq : mkB (flatB (dn k)) ++ ⟨#[47]⟩ ++ mkB [UInt8.ofNat (97 + k)] = mkB (flatB (dn (k + 1))) := by rw [mk_stroke, mk_append, mk_append, dn_flat]
      have hb := dn_byte k (by omega)
      generalize UInt8.ofNat (97 + k) = c at hq hb
      have hc : (convert 36 9 (.slice (some ⟨wr.heap.size, 0, none⟩) 1 1)).run Try.prog (wr.alloc (.cells #[.int .u8 (97 + (k : Int))] 5)) = .ok (.string (mkB [c])) (wr.alloc (.cells #[.int .u8 (97 + (k : Int))] 5)) :=
        conv_row (wr.alloc (.cells #[.int .u8 (97 + (k : Int))] 5)) wr.heap.size 1 [c] (fun j x hj => by
          cases j with
          | zero => simp at hj; subst hj; rw [hb]; simp
          | succ j => simp at hj)
      have hs1 : (mkB (flatB (dn k))).size ≤ 100 := by rw [mk_size, dn_flen]; omega
      have hs2 : (mkB [c]).size = 1 := rfl
      replace hq := hidden hq
      clear hb
      have hal := hidden (hB.trans (((Below.refl wr.heap.size wr).alloc (Nat.le_refl _) (.cells #[.int .u8 (97 + (k : Int))] 5)).mono hB.size))
      generalize mkB [c] = s2 at *
      go_wp2
      go_roundg (n - (k + 1))
      case measure => rw [hg.out]; omega
      case rel => exact ⟨k + 1, hlt, rfl, by simp, by rw [hq.out], hal.out⟩
    · obtain rfl : k = n := by omega
      have hB' := hidden hB
      clear hB hg
      have kR : ∀ w, Calls Try.prog 11 #[.string ⟨#[47]⟩] w fun e w' => e = .returned (.tuple #[.string ⟨#[]⟩, .string ⟨#[]⟩, .bool false]) ∧ Below w.heap.size w w' := fun w => parent_calls [47] w (by decide)
      replace kR := hidden kR
      rename World => k0
      rename Nat => n
      by_cases h6 : n ≤ 6
      · have h6' : (n : Int) ≤ 6 := by omega
        have hmay := dn_may n (by omega)
        have hnm := hidden (names_join hmay)
        have hdl := hidden (dn_len n)
        by_cases h0 : n = 0
        · subst h0
          have kS := hidden (fun w => split_calls [47] w (by decide))
          have h00 : ((0 : Nat) : Int) = 0 := rfl
          replace hnm : Hid (namesB [47] = dn 0) := hnm
          go_wp2_with fail
          refine (kS.out k0).mono ?_
          rintro e w1 ⟨v1, rfl, ht⟩
          have hB1 := hidden (hB'.out.trans (ht.2.mono hB'.out.size))
          have hT1 := hidden (told_at ht)
          rw [hnm.out] at hT1
          clear ht kS hnm
          obtain ⟨a1, c1, rfl, -, -⟩ := hT1.out
          rw [hdl.out] at hT1 ⊢
          clear hdl
          go_wp2_with fail
          go_loopg [3, 5] 0 (fun g s l wr => ∃ m : Nat, m ≤ 0 ∧ g = m ∧ s = .string (mkB (joinB (dn m))) ∧ TxtsAt wr l (dn m) ∧ Below w.heap.size w wr)
          case atStart => exact ⟨0, Nat.le_refl _, rfl, rfl, hT1.out, hB1.out⟩
          case round =>
            obtain ⟨m, hmn, hgm, rfl, hT, hB⟩ := hrel
            replace hgm := hidden hgm
            have hT' := hidden hT
            have hB2 := hidden hB
            clear hT1 hB1 hB
            obtain ⟨a2, c2, rfl, hcap, hcc⟩ := hT
            rw [dn_len] at hT' hcap ⊢
            cases m with
            | zero =>
              clear hcc hcap hT'
              go_wp2_with fail
              refine (kR.out wr).mono ?_
              rintro e w2 ⟨rfl, hB⟩
              have hB3 := hidden (hB2.out.trans (hB.mono hB2.out.size))
              clear hB
              have hst : ((mkB (joinB (dn 0))).toList == [47]) = true := by rw [mk_toList]; rfl
              go_wp2_with fail
              refine (kA.out w2).mono ?_
              rintro e w3 ⟨rfl, hB⟩
              have hB4 := hidden (hB3.out.trans (hB.mono hB3.out.size))
              clear hB
              go_wp2
              go_ret
              exact ⟨rfl, hB4.out⟩
            | succ m =>
              have hm7 : m + 1 < 7 := by omega
              have hmay := dn_may (m + 1) hm7
              have hl1 : (joinB (dn (m + 1))).length ≤ 2000 := Nat.le_trans (join_len hmay) (by omega)
              have hl0 : (joinB (dn m)).length ≤ 2000 := Nat.le_trans (join_len (dn_may m (by omega))) (by omega)
              have kP := hidden (parent_calls (joinB (dn (m + 1))) wr hl1)
              rw [parD_join hmay (dn_ne m), parN_join hmay, parO_join hmay (dn_ne m), dn_drop, dn_last] at kP
              have kW := hidden (fun w => within_calls (joinB (dn (m + 1))) (joinB (dn m)) w hl1 hl0)
              rw [dn_in m hm7] at kW
              have kV := hidden (fun w => within_calls (joinB (dn m)) (joinB (dn (m + 1))) w hl0 hl1)
              rw [dn_out m hm7] at kV
              have kT := hidden (fun w => split_calls (joinB (dn m)) w hl0)
              rw [split_join (dn_may m (by omega))] at kT
              have hnm := hidden (names_join (dn_may m (by omega)))
              obtain ⟨b, off, rfl, hb, hx⟩ := hcc (dn_ne m)
              have hcell := hx m [UInt8.ofNat (97 + m)] (by rw [dn_succ]; simp [dn_len])
              have hcl : off + ((m + 1) - 1) = off + m := by omega
              generalize [UInt8.ofNat (97 + m)] = X at *
              clear hx hcc hmay hl1 hl0 hcl
              have hxx : ((mkB X).toList != (mkB X).toList) = false := by simp
              have i1 : ((m : Int) + 1 - 1) = (m : Int) := by omega
              go_wp2_with fail
              refine kP.out.mono ?_
              rintro e w2 ⟨rfl, hB⟩
              have hB3 := hidden (hB2.out.trans (hB.mono hB2.out.size))
              have hcell2 := (hB.cell (p := ⟨b, off + m, none⟩) hb).trans hcell
              clear hB kP hcell
              go_wp2_with fail
              refine (kW.out w2).mono ?_
              rintro e w3 ⟨rfl, hB⟩
              have hB4 := hidden (hB3.out.trans (hB.mono hB3.out.size))
              clear hB kW hcell2 hB3
              go_wp2_with fail
              refine (kV.out w3).mono ?_
              rintro e w4 ⟨rfl, hB⟩
              have hB5 := hidden (hB4.out.trans (hB.mono hB4.out.size))
              clear hB kV hB4
              go_wp2_with fail
              refine (kT.out w4).mono ?_
              rintro e w5 ⟨v5, rfl, ht⟩
              have hB6 := hidden (hB5.out.trans (ht.2.mono hB5.out.size))
              have hT5 := hidden (told_at ht)
              rw [hnm.out] at hT5
              clear ht kT hnm
              obtain ⟨a5, c5, rfl, -, -⟩ := hT5.out
              have hd5 := dn_len m
              have hlm : ((dn m).length : Int) = (m : Int) := by rw [hd5]
              rw [hd5] at hT5 ⊢
              clear hd5 hlm
              go_wp2_with fail
              go_roundg m
              case measure => rw [hgm.out]; omega
              case rel => exact ⟨m, by omega, rfl, rfl, hT5.out, hB6.out⟩
        · have h0' : ¬ (n : Int) = 0 := by omega
          have hj := dn_join n h0
          have kS := hidden (fun w => split_calls (joinB (dn n)) w (Nat.le_trans (join_len hmay) (by omega)))
          rw [split_join hmay, hj] at kS
          have hj' := hidden hj
          rw [hj] at hnm
          clear h0 hj hmay
          go_wp2_with fail
          refine (kS.out k0).mono ?_
          rintro e w1 ⟨v1, rfl, ht⟩
          have hB1 := hidden (hB'.out.trans (ht.2.mono hB'.out.size))
          have hT1 := hidden (told_at ht)
          rw [hnm.out] at hT1
          clear ht kS hnm
          obtain ⟨a1, c1, rfl, -, -⟩ := hT1.out
          rw [hdl.out] at hT1 ⊢
          clear hdl
          go_wp2_with fail
          go_loopg [3, 5] n (fun g s l wr => ∃ m : Nat, m ≤ n ∧ g = m ∧ s = .string (mkB (joinB (dn m))) ∧ TxtsAt wr l (dn m) ∧ Below w.heap.size w wr)
          case atStart => exact ⟨n, Nat.le_refl _, rfl, by rw [hj'.out], hT1.out, hB1.out⟩
          case round =>
            obtain ⟨m, hmn, hgm, rfl, hT, hB⟩ := hrel
            replace hgm := hidden hgm
            have hT' := hidden hT
            have hB2 := hidden hB
            clear hT1 hB1 hB
            obtain ⟨a2, c2, rfl, hcap, hcc⟩ := hT
            rw [dn_len] at hT' hcap ⊢
            cases m with
            | zero =>
              clear hcc hcap hT'
              go_wp2_with fail
              refine (kR.out wr).mono ?_
              rintro e w2 ⟨rfl, hB⟩
              have hB3 := hidden (hB2.out.trans (hB.mono hB2.out.size))
              clear hB
              have hst : ((mkB (joinB (dn 0))).toList == [47]) = true := by rw [mk_toList]; rfl
              go_wp2_with fail
              refine (kA.out w2).mono ?_
              rintro e w3 ⟨rfl, hB⟩
              have hB4 := hidden (hB3.out.trans (hB.mono hB3.out.size))
              clear hB
              go_wp2
              go_ret
              exact ⟨rfl, hB4.out⟩
            | succ m =>
              have hm7 : m + 1 < 7 := by omega
              have hmay := dn_may (m + 1) hm7
              have hl1 : (joinB (dn (m + 1))).length ≤ 2000 := Nat.le_trans (join_len hmay) (by omega)
              have hl0 : (joinB (dn m)).length ≤ 2000 := Nat.le_trans (join_len (dn_may m (by omega))) (by omega)
              have kP := hidden (parent_calls (joinB (dn (m + 1))) wr hl1)
              rw [parD_join hmay (dn_ne m), parN_join hmay, parO_join hmay (dn_ne m), dn_drop, dn_last] at kP
              have kW := hidden (fun w => within_calls (joinB (dn (m + 1))) (joinB (dn m)) w hl1 hl0)
              rw [dn_in m hm7] at kW
              have kV := hidden (fun w => within_calls (joinB (dn m)) (joinB (dn (m + 1))) w hl0 hl1)
              rw [dn_out m hm7] at kV
              have kT := hidden (fun w => split_calls (joinB (dn m)) w hl0)
              rw [split_join (dn_may m (by omega))] at kT
              have hnm := hidden (names_join (dn_may m (by omega)))
              obtain ⟨b, off, rfl, hb, hx⟩ := hcc (dn_ne m)
              have hcell := hx m [UInt8.ofNat (97 + m)] (by rw [dn_succ]; simp [dn_len])
              have hcl : off + ((m + 1) - 1) = off + m := by omega
              generalize [UInt8.ofNat (97 + m)] = X at *
              clear hx hcc hmay hl1 hl0 hcl
              have hxx : ((mkB X).toList != (mkB X).toList) = false := by simp
              have i1 : ((m : Int) + 1 - 1) = (m : Int) := by omega
              go_wp2_with fail
              refine kP.out.mono ?_
              rintro e w2 ⟨rfl, hB⟩
              have hB3 := hidden (hB2.out.trans (hB.mono hB2.out.size))
              have hcell2 := (hB.cell (p := ⟨b, off + m, none⟩) hb).trans hcell
              clear hB kP hcell
              go_wp2_with fail
              refine (kW.out w2).mono ?_
              rintro e w3 ⟨rfl, hB⟩
              have hB4 := hidden (hB3.out.trans (hB.mono hB3.out.size))
              clear hB kW hcell2 hB3
              go_wp2_with fail
              refine (kV.out w3).mono ?_
              rintro e w4 ⟨rfl, hB⟩
              have hB5 := hidden (hB4.out.trans (hB.mono hB4.out.size))
              clear hB kV hB4
              go_wp2_with fail
              refine (kT.out w4).mono ?_
              rintro e w5 ⟨v5, rfl, ht⟩
              have hB6 := hidden (hB5.out.trans (ht.2.mono hB5.out.size))
              have hT5 := hidden (told_at ht)
              rw [hnm.out] at hT5
              clear ht kT hnm
              obtain ⟨a5, c5, rfl, -, -⟩ := hT5.out
              have hd5 := dn_len m
              have hlm : ((dn m).length : Int) = (m : Int) := by rw [hd5]
              rw [hd5] at hT5 ⊢
              clear hd5 hlm
              go_wp2_with fail
              go_roundg m
              case measure => rw [hgm.out]; omega
              case rel => exact ⟨m, by omega, rfl, rfl, hT5.out, hB6.out⟩
      · have h6' : ¬ (n : Int) ≤ 6 := by omega
        have h0' : ¬ (n : Int) = 0 := by omega
        have hj := dn_join n (by omega)
        have hno := dn_not n hn (by omega)
        rw [hj] at hno
        have kS := hidden (fun w => split_calls (flatB (dn n)) w (by rw [dn_flen]; omega))
        have hnm : namesB (flatB (dn n)) = [] := by rw [namesB, hno]; rfl
        rw [hno] at kS
        replace hnm := hidden hnm
        clear hj hno
        go_wp2_with fail
        refine (kS.out k0).mono ?_
        rintro e w1 ⟨v1, rfl, ht⟩
        have hB1 := hidden (hB'.out.trans (ht.2.mono hB'.out.size))
        have hT1 := hidden (told_at ht)
        rw [hnm.out] at hT1
        clear ht kS
        obtain ⟨a1, c1, rfl, -, -⟩ := hT1.out
        rw [show ([] : List (List UInt8)).length = 0 from rfl]
        clear hT1
        go_wp2_with fail
        refine (kA.out w1).mono ?_
        rintro e w3 ⟨rfl, hB⟩
        have hB4 := hidden (hB1.out.trans (hB.mono hB1.out.size))
        clear hB
        go_wp2
        go_ret
        exact ⟨rfl, hB4.out⟩
end Go.Proofs.Ythibelgeejgmeaa
