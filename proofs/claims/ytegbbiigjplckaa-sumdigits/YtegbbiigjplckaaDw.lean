/- SumDigits answers true, whatever it is given, and changes nothing that was there. -/
import Derived.Test.YtegbbiigjplckaaDg
import Derived.Test.YtegbbiigjplckaaCv
namespace Go.Proofs.Ytegbbiigjplckaa
open Go.RowKit
set_option maxRecDepth 100000

theorem made_bytes (N : Nat) : madeCells (Value.int .u8 0).cells (N * 1) = Array.replicate N (.int .u8 0) := by
  apply Array.ext
  · simp [size_madeCells]
  · intro i h1 h2
    simp [madeCells, Value.cells, Nat.mod_one]
theorem make_bytes (N : Nat) (hN : N ≤ 20) (w : World) : (Instr.makeSlice 22 (.int .i64 N) (.int .i64 N)).run Try.prog w = .ok (.slice (some ⟨w.heap.size, 0, none⟩) N N) (w.alloc (.cells (Array.replicate N (.int .u8 0)) 5)) := by
  obtain ⟨i0, hi, hz0, hz1, hz2⟩ := info_parts Try.infoByte
  have h := run_makeSlice (P := Try.prog) (w := w) 22 5 i0 (.int .u8 0) Try.underlying22 hi hz0 .i64 .i64 N N (by omega) (by omega) (by rw [hz1]; simp; omega) (by rw [hz2]; omega) (by omega)
  rw [hz1] at h
  simp only [Int.toNat_natCast, made_bytes] at h
  exact h

theorem refhex0 : ∃ h0 : ByteArray, h0.size = 16 ∧ ∀ w, Calls Try.prog 14 #[.int .u64 0] w fun e w' => e = .returned (.string h0) ∧ w' = w :=
  ⟨ofBytes (hexL 0), by rw [ofBytes_size, hexL_len], fun w => refhex_calls 0 (by decide) w⟩
set_option maxHeartbeats 2000000 in
theorem sumDigits_calls (c at' n : Int) (hc : 0 ≤ c ∧ c ≤ 255) (w : World) :
    Calls Try.prog 5 #[.int .u8 c, .int .i64 at', .int .i64 n] w fun e w' => e = .returned (.bool true) ∧ Below w.heap.size w w' := by
  obtain ⟨N, hN⟩ : ∃ N : Nat, (bits .and .i64 n 255).tmod 21 = (N : Int) := ⟨_, (Int.toNat_of_nonneg (Int.tmod_nonneg 21 (and_low n 255 (by decide)).1)).symm⟩
  have hN20 : N ≤ 20 := by
    have h1 := Int.tmod_lt_of_pos (bits .and .i64 n 255) (b := 21) (by decide)
    omega
  have hmk := make_bytes N hN20 w
  obtain ⟨h0, hh0, hrx⟩ := refhex0
  replace hrx := hidden hrx
  have hh0' := hidden hh0
  clear hh0
  go_enter Try.func5, Try.ntmps5
  go_wp2_with fail
  go_loopg [19] N (fun g i wr => ∃ k : Nat, k ≤ N ∧ g = N - k ∧ (∃ q : Int, i = .int .i64 q ∧ q = (k : Int)) ∧ wr = w.alloc (.cells (sevenC N k) 5))
  case atStart => exact ⟨0, Nat.zero_le _, rfl, ⟨0, rfl, rfl⟩, rfl⟩
  case round =>
    obtain ⟨k, hk, hg, ⟨q, rfl, hq⟩, rfl⟩ := hrel
    have hq0 : 0 ≤ q := by omega
    by_cases hlt : k < N
    · have hlq : q < (N : Int) := by omega
      obtain rfl : k = q.toNat := by omega
      obtain ⟨v, hv⟩ : ∃ v, (sevenC N q.toNat)[q.toNat]? = some v := ⟨_, sevenC_get N q.toNat hk q.toNat hlt⟩
      have hall := hidden (And.intro hk (And.intro hg (And.intro hq hlt)))
      clear hk hg hq hlt hmk hN
      go_wp2
      go_roundg (N - (q.toNat + 1))
      case measure => obtain ⟨hk, hg, hq, hlt⟩ := hall.out; rw [hg]; omega
      case rel =>
        obtain ⟨hk, hg, hq, hlt⟩ := hall.out
        exact ⟨q.toNat + 1, hlt, rfl, ⟨_, rfl, by omega⟩, rfl⟩
    · have hlq : ¬ q < (N : Int) := by omega
      obtain rfl : k = N := by omega
      clear hk hg hq hlt hmk hN
      go_upto_region 8 with fail
      go_cut [9] (fun x wx => x = .bool (dig c).isSome ∧ wx = w.alloc (.cells (sevenC k k) 5))
      case first =>
        by_cases h1 : 48 ≤ c
        · by_cases h2 : c ≤ 57
          · have hd : (dig c).isSome = true := by rw [dig_digit h1 h2]; rfl
            go_wp2_with fail
            go_meet
            case rel => exact ⟨by rw [hd], rfl⟩
          · have h2' : decide (c ≤ 57) = false := decide_eq_false h2
            by_cases h3 : 97 ≤ c
            · by_cases h4 : c ≤ 102
              · have hd : (dig c).isSome = true := by rw [dig_letter h3 h4]; rfl
                go_wp2_with fail
                go_meet
                case rel => exact ⟨by rw [hd], rfl⟩
              · have hd : (dig c).isSome = false := by rw [dig_none (by omega) (by omega)]; rfl
                go_wp2_with fail
                go_meet
                case rel => exact ⟨by rw [hd], rfl⟩
            · have hd : (dig c).isSome = false := by rw [dig_none (by omega) (by omega)]; rfl
              go_wp2_with fail
              go_meet
              case rel => exact ⟨by rw [hd], rfl⟩
        · have h3 : ¬ 97 ≤ c := by omega
          have hd : (dig c).isSome = false := by rw [dig_none (by omega) (by omega)]; rfl
          go_wp2_with fail
          go_meet
          case rel => exact ⟨by rw [hd], rfl⟩
      case rest =>
        obtain ⟨rfl, rfl⟩ := hcut
        by_cases hk0 : k = 0
        · subst hk0
          have hbt : BytesAt (w.alloc (.cells (sevenC 0 0) 5)) (.slice (some ⟨w.heap.size, 0, none⟩) 0 0) [] := BytesAt.new w [] 0 (0, 0) (by simp) (by simp)
          have hcv := conv_bytes _ _ _ hbt
          have hun : unhexV (unhexS (ofBytes [])) = .tuple #[.int .u64 0, .bool false] := by kernel_rfl
          have hB1 : Below w.heap.size w (w.alloc (.cells (sevenC 0 0) 5)) := (Below.refl _ _).alloc (Nat.le_refl _) _
          have hs1 : w.heap.size ≤ (w.alloc (.cells (sevenC 0 0) 5)).heap.size := hB1.size
          clear hbt
          generalize w.alloc (.cells (sevenC 0 0) 5) = w1 at hcv hB1 hs1
          generalize ofBytes [] = s at hcv hun
          replace hun := hidden hun
          go_wp2_with fail
          refine (unhex_calls s w1).mono ?_
          rintro ev w2 ⟨rfl, hw2⟩
          subst hw2
          rw [hun.out]
          have cR : ∀ d os, Calls Try.prog 14 #[.int .u64 0] (Go.Sort.grow (redrawn w2 d) os) fun e w'' => e = .returned (.string h0) ∧ ∃ p : Regrown, w'' = Go.Sort.grow (redrawn w2 p.d) p.os := fun d os => Calls.regrown_of ((hrx.out _).mono fun _ _ h => ⟨h.1, by rw [h.2]; exact Below.refl _ _⟩)
          have cA : ∀ d os, Calls Try.prog 9 #[] (Go.Sort.grow (redrawn w2 d) os) fun e w'' => e = .returned (.bool true) ∧ ∃ p : Regrown, w'' = Go.Sort.grow (redrawn w2 p.d) p.os := fun d os => Calls.regrown_of (awake_calls _)
          replace cR := hidden cR
          replace cA := hidden cA
          go_wp2_with fail
          have hh0 : h0.size = 16 := hh0'.out
          refine wp_region_quiet_below (by kernel_rfl) (by kernel_rfl) ?_
          repeat (go_big_quiet_step (first | exact cR.out _ _ | exact cA.out _ _))
          refine wpQuiet_nil ?_
          intro _ hw'
          obtain ⟨⟨dq, osq⟩, hw''⟩ := hw'
          subst hw''
          go_wp2
          go_ret
          exact ⟨rfl, hB1.trans ((below_regrown w2 dq osq).mono hs1)⟩
        · have hp := and_low at' 255 (by decide)
          obtain ⟨P, hP⟩ : ∃ P : Nat, (bits .and .i64 at' 255).tmod (k : Int) = (P : Int) := ⟨_, (Int.toNat_of_nonneg (Int.tmod_nonneg _ (and_low at' 255 (by decide)).1)).symm⟩
          have hPk : P < k := by
            have h1 := Int.tmod_lt_of_pos (bits .and .i64 at' 255) (b := (k : Int)) (by omega)
            omega
          have hk1 : (0 : Int) < (k : Int) := by omega
          have hkz : ((k : Int) == 0) = false := by simp; omega
          have hPi : (P : Int) < (k : Int) := by omega
          have hP0 : (0 : Int) ≤ (P : Int) := by omega
          obtain ⟨v, hv⟩ : ∃ v, (sevenC k k)[P]? = some v := ⟨_, sevenC_get k k (Nat.le_refl _) P hPk⟩
          have hst := seven_turned k P c
          have hbt : BytesAt (w.alloc (.cells ((turned k P c).map (Value.int .u8)).toArray 5)) (.slice (some ⟨w.heap.size, 0, none⟩) k k) (turned k P c) := by
            have h1 := BytesAt.new w (turned k P c) k (0, 0) (by
              intro z hz
              rcases turned_mem hz with rfl | rfl
              · omega
              · exact hc) (by rw [turned_len]; unfold maxLen; omega)
            rw [turned_len] at h1
            exact h1
          have hB1 : Below w.heap.size w (w.alloc (.cells ((turned k P c).map (Value.int .u8)).toArray 5)) := (Below.refl _ _).alloc (Nat.le_refl _) _
          have hs1 : w.heap.size ≤ (w.alloc (.cells ((turned k P c).map (Value.int .u8)).toArray 5)).heap.size := hB1.size
          have hcv := conv_bytes _ _ _ hbt
          replace hbt := hidden hbt
          go_upto_region 11 with fail
          clear hst hv hp
          generalize w.alloc (.cells ((turned k P c).map (Value.int .u8)).toArray 5) = w1 at hbt hB1 hs1 hcv
          by_cases h16 : k = 16
          · subst h16
            cases hg : (dig c).isSome with
            | true =>
              obtain ⟨m, hm1, hm2, hm3, hm4⟩ := turned_good (p := P) hg
              have hun : unhexV (unhexS (ofBytes (turned 16 P c))) = .tuple #[.int .u64 m, .bool true] := by
                rw [unhexS, if_pos (by rw [ofBytes_size, turned_len]), bytesOf_ofBytes _ (by
                  intro z hz
                  rcases turned_mem hz with rfl | rfl
                  · omega
                  · exact hc), hm1]; rfl
              have hHex : Hid (∀ wx, Calls Try.prog 13 #[.int .u64 m] wx fun e w' => e = .returned (.string (ofBytes (turned 16 P c))) ∧ w' = wx.alloc (.cells (hexC m 16) 42)) := hidden fun wx => by
                have := hex_calls m ⟨hm3, hm4⟩ wx
                rw [hm2] at this
                exact this
              have hcvB : Hid (∀ wx, Below w1.heap.size w1 wx → (convert 22 9 (.slice (some ⟨w.heap.size, 0, none⟩) 16 16)).run Try.prog wx = .ok (.string (ofBytes (turned 16 P c))) wx) := hidden fun wx hx => conv_bytes _ _ _ (hbt.out.below hx)
              clear hm1 hm2 hbt hPk hP hPi hP0 hk1 hkz hk0
              generalize ofBytes (turned 16 P c) = s at hcv hun hHex hcvB
              replace hun := hidden hun
              go_wp2_with fail
              refine (unhex_calls s w1).mono ?_
              rintro ev w2 ⟨rfl, hw2⟩
              subst hw2
              rw [hun.out]
              have cR : ∀ d os, Calls Try.prog 14 #[.int .u64 0] (Go.Sort.grow (redrawn w2 d) os) fun e w'' => e = .returned (.string h0) ∧ ∃ p : Regrown, w'' = Go.Sort.grow (redrawn w2 p.d) p.os := fun d os => Calls.regrown_of ((hrx.out _).mono fun _ _ h => ⟨h.1, by rw [h.2]; exact Below.refl _ _⟩)
              have cA : ∀ d os, Calls Try.prog 9 #[] (Go.Sort.grow (redrawn w2 d) os) fun e w'' => e = .returned (.bool true) ∧ ∃ p : Regrown, w'' = Go.Sort.grow (redrawn w2 p.d) p.os := fun d os => Calls.regrown_of (awake_calls _)
              have cH : ∀ d os, Calls Try.prog 13 #[.int .u64 m] (Go.Sort.grow (redrawn w2 d) os) fun e w'' => e = .returned (.string s) ∧ ∃ p : Regrown, w'' = Go.Sort.grow (redrawn w2 p.d) p.os := fun d os => Calls.regrown_of ((hHex.out _).mono fun _ _ h => ⟨h.1, by rw [h.2]; exact (Below.refl _ _).alloc (Nat.le_refl _) _⟩)
              have hcv2 : ∀ d os, (convert 22 9 (.slice (some ⟨w.heap.size, 0, none⟩) 16 16)).run Try.prog (Go.Sort.grow (redrawn w2 d) os) = .ok (.string s) (Go.Sort.grow (redrawn w2 d) os) := fun d os => hcvB.out _ (below_regrown w2 d os)
              replace cH := hidden cH
              replace cR := hidden cR
              replace cA := hidden cA
              go_wp2_with fail
              have hh0 : h0.size = 16 := hh0'.out
              refine wp_region_quiet_below (by kernel_rfl) (by kernel_rfl) ?_
              repeat (go_big_quiet_step (first | exact cR.out _ _ | exact cA.out _ _ | exact cH.out _ _))
              refine wpQuiet_nil ?_
              intro _ hw'
              obtain ⟨⟨dq, osq⟩, hw''⟩ := hw'
              subst hw''
              go_wp2
              go_ret
              exact ⟨rfl, hB1.trans ((below_regrown w2 dq osq).mono hs1)⟩
            | false =>
              have hd : dig c = none := by
                cases h : dig c with
                | none => rfl
                | some d => rw [h] at hg; cases hg
              have hun : unhexV (unhexS (ofBytes (turned 16 P c))) = .tuple #[.int .u64 0, .bool false] := by
                rw [unhexS, if_pos (by rw [ofBytes_size, turned_len]), bytesOf_ofBytes _ (by
                  intro z hz
                  rcases turned_mem hz with rfl | rfl
                  · omega
                  · exact hc), turned_bad hPk hd]; rfl
              clear hbt hPk hP hPi hP0 hk1 hkz hk0 hd
              generalize ofBytes (turned 16 P c) = s at hcv hun
              replace hun := hidden hun
              go_wp2_with fail
              refine (unhex_calls s w1).mono ?_
              rintro ev w2 ⟨rfl, hw2⟩
              subst hw2
              rw [hun.out]
              have cR : ∀ d os, Calls Try.prog 14 #[.int .u64 0] (Go.Sort.grow (redrawn w2 d) os) fun e w'' => e = .returned (.string h0) ∧ ∃ p : Regrown, w'' = Go.Sort.grow (redrawn w2 p.d) p.os := fun d os => Calls.regrown_of ((hrx.out _).mono fun _ _ h => ⟨h.1, by rw [h.2]; exact Below.refl _ _⟩)
              have cA : ∀ d os, Calls Try.prog 9 #[] (Go.Sort.grow (redrawn w2 d) os) fun e w'' => e = .returned (.bool true) ∧ ∃ p : Regrown, w'' = Go.Sort.grow (redrawn w2 p.d) p.os := fun d os => Calls.regrown_of (awake_calls _)
              replace cR := hidden cR
              replace cA := hidden cA
              go_wp2_with fail
              have hh0 : h0.size = 16 := hh0'.out
              refine wp_region_quiet_below (by kernel_rfl) (by kernel_rfl) ?_
              repeat (go_big_quiet_step (first | exact cR.out _ _ | exact cA.out _ _))
              refine wpQuiet_nil ?_
              intro _ hw'
              obtain ⟨⟨dq, osq⟩, hw''⟩ := hw'
              subst hw''
              go_wp2
              go_ret
              exact ⟨rfl, hB1.trans ((below_regrown w2 dq osq).mono hs1)⟩
          · have hun : unhexV (unhexS (ofBytes (turned k P c))) = .tuple #[.int .u64 0, .bool false] := by
              rw [unhexS, if_neg (by rw [ofBytes_size, turned_len]; exact h16)]; rfl
            have hk16 : ((k : Int) == 16) = false := by simp; omega
            clear hbt hPk hP hPi hP0 hk1 hkz hk0 h16
            generalize ofBytes (turned k P c) = s at hcv hun
            replace hun := hidden hun
            go_wp2_with fail
            refine (unhex_calls s w1).mono ?_
            rintro ev w2 ⟨rfl, hw2⟩
            subst hw2
            rw [hun.out]
            have cR : ∀ d os, Calls Try.prog 14 #[.int .u64 0] (Go.Sort.grow (redrawn w2 d) os) fun e w'' => e = .returned (.string h0) ∧ ∃ p : Regrown, w'' = Go.Sort.grow (redrawn w2 p.d) p.os := fun d os => Calls.regrown_of ((hrx.out _).mono fun _ _ h => ⟨h.1, by rw [h.2]; exact Below.refl _ _⟩)
            have cA : ∀ d os, Calls Try.prog 9 #[] (Go.Sort.grow (redrawn w2 d) os) fun e w'' => e = .returned (.bool true) ∧ ∃ p : Regrown, w'' = Go.Sort.grow (redrawn w2 p.d) p.os := fun d os => Calls.regrown_of (awake_calls _)
            replace cR := hidden cR
            replace cA := hidden cA
            go_wp2_with fail
            have hh0 : h0.size = 16 := hh0'.out
            refine wp_region_quiet_below (by kernel_rfl) (by kernel_rfl) ?_
            repeat (go_big_quiet_step (first | exact cR.out _ _ | exact cA.out _ _))
            refine wpQuiet_nil ?_
            intro _ hw'
            obtain ⟨⟨dq, osq⟩, hw''⟩ := hw'
            subst hw''
            go_wp2
            go_ret
            exact ⟨rfl, hB1.trans ((below_regrown w2 dq osq).mono hs1)⟩
end Go.Proofs.Ytegbbiigjplckaa
