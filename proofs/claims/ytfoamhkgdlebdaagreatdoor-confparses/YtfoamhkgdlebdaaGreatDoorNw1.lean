/- name.sign and name.Ok, and the document's own: which bytes, and which texts, may be names; the memory stays as it was. -/
import Derived.Test.YtfoamhkgdlebdaaGreatDoorNw0
import Derived.Lib.IndexEntry
import Derived.Laws.Externs
namespace Go.Proofs.YtfoamhkgdlebdaaGreatDoor
open Go Go.RowKit Go.Extern.Stop Go.Stop Go.Extern
set_option maxRecDepth 100000

theorem ix_sign (c : UInt8) : decide (0 ≤ Lib.indexByte [46, 43, 45, 95, 126] c) = (c == 46 || c == 43 || c == 45 || c == 95 || c == 126) := by
  simp only [Lib.indexByte]
  have f : ∀ a : UInt8, (a == c) = (c == a) := fun a => BEq.comm
  simp only [f]
  cases h1 : (c == 46) <;> cases h2 : (c == 43) <;> cases h3 : (c == 45) <;> cases h4 : (c == 95) <;> cases h5 : (c == 126) <;> simp
theorem stringslite_indexByte (s : ByteArray) (c : UInt8) (w : World) : Calls Tryz.prog 97 #[.string s, .int .u8 (c.toNat : Int)] w fun e w' => e = .returned (.int .i64 (Lib.indexByte s.data.toList c)) ∧ w' = w := by
  go_enter Tryz.func97, Tryz.ntmps97
  go_wp2
  rw [run_callFunc_extern Tryz.func108 (by kernel_rfl) (by kernel_rfl) (by kernel_rfl) (e := Extern.BytealgIndexByte.indexByte) (by kernel_rfl), Lib.run_indexByteString]
  simp only [Result.andThen]
  rw [Oper.upon_value]
  go_wp2
  go_ret
  exact ⟨rfl, rfl⟩
theorem indexByte_calls (s : ByteArray) (c : UInt8) (w : World) : Calls Tryz.prog 91 #[.string s, .int .u8 (c.toNat : Int)] w fun e w' => e = .returned (.int .i64 (Lib.indexByte s.data.toList c)) ∧ w' = w := by
  have hin := stringslite_indexByte s c w
  go_enter Tryz.func91, Tryz.ntmps91
  go_wp2_with fail
  refine hin.mono ?_
  rintro e w' ⟨rfl, rfl⟩
  go_wp2
  go_ret
  exact ⟨rfl, rfl⟩
set_option maxHeartbeats 2000000 in
theorem sign_calls (c : UInt8) (w : World) : Calls Tryz.prog 71 #[.int .u8 (c.toNat : Int)] w fun e w' => e = .returned (.bool (signB c)) ∧ w' = w := by
  by_cases h1 : 97 ≤ c.toNat ∧ c.toNat ≤ 122
  · have a1 : (97 : Int) ≤ (c.toNat : Int) := by omega
    have a2 : (c.toNat : Int) ≤ 122 := by omega
    have e : signB c = true := by simp [signB, h1]
    rw [e]; clear e h1
    go_enter Tryz.func71, Tryz.ntmps71
    go_wp2
    go_ret
    exact ⟨rfl, rfl⟩
  · by_cases h2 : 65 ≤ c.toNat ∧ c.toNat ≤ 90
    · have a1 : ¬ (97 : Int) ≤ (c.toNat : Int) := by omega
      have b1 : (65 : Int) ≤ (c.toNat : Int) := by omega
      have b2 : (c.toNat : Int) ≤ 90 := by omega
      have e : signB c = true := by simp [signB, h2]
      rw [e]; clear e h1 h2
      go_enter Tryz.func71, Tryz.ntmps71
      go_wp2
      go_ret
      exact ⟨rfl, rfl⟩
    · by_cases h3 : 48 ≤ c.toNat ∧ c.toNat ≤ 57
      · have a1 : ¬ (97 : Int) ≤ (c.toNat : Int) := by omega
        have b1 : ¬ (65 : Int) ≤ (c.toNat : Int) := by omega
        have c1 : (48 : Int) ≤ (c.toNat : Int) := by omega
        have c2 : (c.toNat : Int) ≤ 57 := by omega
        have e : signB c = true := by simp [signB, h3]
        rw [e]; clear e h1 h2 h3
        go_enter Tryz.func71, Tryz.ntmps71
        go_wp2
        go_ret
        exact ⟨rfl, rfl⟩
      · have e : signB c = decide (0 ≤ Lib.indexByte [46, 43, 45, 95, 126] c) := by
          rw [ix_sign]
          have f1 : (decide (97 ≤ c.toNat) && decide (c.toNat ≤ 122)) = false := by simpa using h1
          have f2 : (decide (65 ≤ c.toNat) && decide (c.toNat ≤ 90)) = false := by simpa using h2
          have f3 : (decide (48 ≤ c.toNat) && decide (c.toNat ≤ 57)) = false := by simpa using h3
          simp only [signB, f1, f2, f3, Bool.false_or]
        rw [e]; clear e
        have kI := hidden (indexByte_calls ⟨#[46, 43, 45, 95, 126]⟩ c w)
        by_cases a1 : (97 : Int) ≤ (c.toNat : Int)
        · have a2 : ¬ (c.toNat : Int) ≤ 122 := by omega
          have b1 : (65 : Int) ≤ (c.toNat : Int) := by omega
          have b2 : ¬ (c.toNat : Int) ≤ 90 := by omega
          have c1 : (48 : Int) ≤ (c.toNat : Int) := by omega
          have c2 : ¬ (c.toNat : Int) ≤ 57 := by omega
          clear h1 h2 h3
          go_enter Tryz.func71, Tryz.ntmps71
          go_wp2_with fail
          refine kI.out.mono ?_
          rintro e w' ⟨rfl, rfl⟩
          by_cases hx : 0 ≤ Lib.indexByte [46, 43, 45, 95, 126] c
          · go_wp2
            go_ret
            exact ⟨by simp [hx], rfl⟩
          · go_wp2
            go_ret
            exact ⟨by simp [hx], rfl⟩
        · by_cases b1 : (65 : Int) ≤ (c.toNat : Int)
          · have b2 : ¬ (c.toNat : Int) ≤ 90 := by omega
            have c1 : (48 : Int) ≤ (c.toNat : Int) := by omega
            have c2 : ¬ (c.toNat : Int) ≤ 57 := by omega
            clear h1 h2 h3
            go_enter Tryz.func71, Tryz.ntmps71
            go_wp2_with fail
            refine kI.out.mono ?_
            rintro e w' ⟨rfl, rfl⟩
            by_cases hx : 0 ≤ Lib.indexByte [46, 43, 45, 95, 126] c
            · go_wp2
              go_ret
              exact ⟨by simp [hx], rfl⟩
            · go_wp2
              go_ret
              exact ⟨by simp [hx], rfl⟩
          · by_cases c1 : (48 : Int) ≤ (c.toNat : Int)
            · have c2 : ¬ (c.toNat : Int) ≤ 57 := by omega
              clear h1 h2 h3
              go_enter Tryz.func71, Tryz.ntmps71
              go_wp2_with fail
              refine kI.out.mono ?_
              rintro e w' ⟨rfl, rfl⟩
              by_cases hx : 0 ≤ Lib.indexByte [46, 43, 45, 95, 126] c
              · go_wp2
                go_ret
                exact ⟨by simp [hx], rfl⟩
              · go_wp2
                go_ret
                exact ⟨by simp [hx], rfl⟩
            · clear h1 h2 h3
              go_enter Tryz.func71, Tryz.ntmps71
              go_wp2_with fail
              refine kI.out.mono ?_
              rintro e w' ⟨rfl, rfl⟩
              by_cases hx : 0 ≤ Lib.indexByte [46, 43, 45, 95, 126] c
              · go_wp2
                go_ret
                exact ⟨by simp [hx], rfl⟩
              · go_wp2
                go_ret
                exact ⟨by simp [hx], rfl⟩
theorem len_size (s : ByteArray) : s.data.toList.length = s.size := Array.length_toList
theorem get_byte (s : ByteArray) (k : Nat) (h : k < s.size) : s.data.toList[k]? = some (s[k]'h) := by
  rw [Array.getElem?_toList]
  exact Array.getElem?_eq_getElem h
theorem all_take_succ (s : ByteArray) (k : Nat) (h : k < s.size) : (s.data.toList.take (k + 1)).all signB = ((s.data.toList.take k).all signB && signB (s[k]'h)) := by
  have hb := get_byte s k h
  rw [List.take_add_one, hb]
  simp
theorem all_at {l : List UInt8} {k : Nat} {c : UInt8} (h : l[k]? = some c) (hc : signB c = false) : l.all signB = false := by
  rw [List.all_eq_false]
  exact ⟨c, List.mem_of_getElem? h, by simp [hc]⟩
theorem ok_tests (s : ByteArray) : okB s.data.toList = (!(s.toList.isEmpty || decide ((27 : Int) < (s.size : Int)) || s.toList == [46] || s.toList == [46, 46]) && s.data.toList.all signB) := by
  rw [Lib.toList_data, okB, len_size]
  have e1 : decide (1 ≤ s.size) = !s.data.toList.isEmpty := by
    have := len_size s
    cases h : s.data.toList with
    | nil => rw [h] at this; simp at this; simp [← this]
    | cons c r => rw [h] at this; simp at this; simp [← this]
  have e2 : decide (s.size ≤ 27) = !decide ((27 : Int) < (s.size : Int)) := by
    by_cases h : s.size ≤ 27
    · have : ¬ (27 : Int) < (s.size : Int) := by omega
      simp only [h, this, decide_true, decide_false, Bool.not_false]
    · have : (27 : Int) < (s.size : Int) := by omega
      simp [h, this]
  rw [e1, e2]
  simp [Bool.not_or, Bool.and_assoc]
set_option maxHeartbeats 2000000 in
theorem ok_calls (s : ByteArray) (w : World) : Calls Tryz.prog 57 #[.string s] w fun e w' => e = .returned (.bool (okB s.data.toList)) ∧ w' = w := by
  have ht := ok_tests s
  by_cases h0 : s.toList.isEmpty = true
  · have e : okB s.data.toList = false := by rw [ht, h0]; rfl
    rw [e]; clear ht e
    go_enter Tryz.func57, Tryz.ntmps57
    go_wp2
    go_ret
    exact ⟨rfl, rfl⟩
  replace h0 : s.toList.isEmpty = false := by simpa using h0
  by_cases h1 : (27 : Int) < (s.size : Int)
  · have e : okB s.data.toList = false := by rw [ht]; simp [h1]
    rw [e]; clear ht e
    go_enter Tryz.func57, Tryz.ntmps57
    go_wp2
    go_ret
    exact ⟨rfl, rfl⟩
  by_cases h2 : (s.toList == [46]) = true
  · have e : okB s.data.toList = false := by rw [ht]; simp [h2]
    rw [e]; clear ht e
    go_enter Tryz.func57, Tryz.ntmps57
    go_wp2
    go_ret
    exact ⟨rfl, rfl⟩
  replace h2 : (s.toList == [46]) = false := by simpa using h2
  by_cases h3 : (s.toList == [46, 46]) = true
  · have e : okB s.data.toList = false := by rw [ht]; simp [h3]
    rw [e]; clear ht e
    go_enter Tryz.func57, Tryz.ntmps57
    go_wp2
    go_ret
    exact ⟨rfl, rfl⟩
  replace h3 : (s.toList == [46, 46]) = false := by simpa using h3
  have e : okB s.data.toList = s.data.toList.all signB := by rw [ht, h0, h2, h3]; simp [h1]
  have hsz : s.size ≤ 27 := by omega
  rw [e]; clear ht e
  go_enter Tryz.func57, Tryz.ntmps57
  go_wp2_with fail
  clear h0 h2 h3
  go_loopg [21] s.size (fun g i wr => ∃ k : Nat, k ≤ s.size ∧ g = s.size - k ∧ i = .int .i64 (k : Int) ∧ wr = w ∧ (s.data.toList.take k).all signB = true)
  case atStart => exact ⟨0, Nat.zero_le _, rfl, rfl, rfl, rfl⟩
  case round =>
    obtain ⟨k, hk, hg, rfl, rfl, hall⟩ := hrel
    replace hg := hidden hg
    replace hall := hidden hall
    by_cases hlt : k < s.size
    · have hn := hidden (all_take_succ s k hlt)
      have hb := hidden (get_byte s k hlt)
      have kS := hidden (sign_calls (s[k]'hlt) wr)
      go_wp2_with fail
      refine kS.out.mono ?_
      rintro e w' ⟨rfl, rfl⟩
      cases hx : signB (s[k]'hlt)
      · go_wp2
        go_ret
        exact ⟨by rw [all_at hb.out hx]; rfl, rfl⟩
      · go_wp2
        go_roundg (s.size - (k + 1))
        case measure => rw [hg.out]; omega
        case rel => exact ⟨k + 1, hlt, rfl, by simp, rfl, by rw [hn.out, hall.out, hx]; rfl⟩
    · obtain rfl : k = s.size := by omega
      go_wp2
      go_ret
      refine ⟨?_, rfl⟩
      have h := hall.out
      rw [← len_size, List.take_length] at h
      rw [h]; rfl
def letterB (c : UInt8) : Bool := (decide ((97 : Int) ≤ (c.toNat : Int)) && decide ((c.toNat : Int) ≤ 122)) || (decide ((65 : Int) ≤ (c.toNat : Int)) && decide ((c.toNat : Int) ≤ 90)) || (decide ((48 : Int) ≤ (c.toNat : Int)) && decide ((c.toNat : Int) ≤ 57))
theorem int_dec (a b : Nat) : decide ((a : Int) ≤ (b : Int)) = decide (a ≤ b) := by simp
theorem u8_eq (c : UInt8) (n : Nat) (h : n < 256) : decide ((c.toNat : Int) = (n : Int)) = (c == UInt8.ofNat n) := by
  by_cases e : c = UInt8.ofNat n
  · subst e; simp [Nat.mod_eq_of_lt h]
  · have : ¬ c.toNat = n := fun h2 => e (by rw [← h2]; simp)
    have h3 : ¬ (c.toNat : Int) = (n : Int) := by omega
    simp [e, h3]
theorem sign_letter (c : UInt8) : signB c = (letterB c || decide ((c.toNat : Int) = 46) || decide ((c.toNat : Int) = 43) || decide ((c.toNat : Int) = 45) || decide ((c.toNat : Int) = 95) || decide ((c.toNat : Int) = 126)) := by
  have e : letterB c = ((decide (97 ≤ c.toNat) && decide (c.toNat ≤ 122)) || (decide (65 ≤ c.toNat) && decide (c.toNat ≤ 90)) || (decide (48 ≤ c.toNat) && decide (c.toNat ≤ 57))) := by
    rw [letterB, ← int_dec 97, ← int_dec 65, ← int_dec 48, ← int_dec c.toNat 122, ← int_dec c.toNat 90, ← int_dec c.toNat 57]; rfl
  have f1 := u8_eq c 46 (by omega); have f2 := u8_eq c 43 (by omega); have f3 := u8_eq c 45 (by omega); have f4 := u8_eq c 95 (by omega); have f5 := u8_eq c 126 (by omega)
  rw [e, signB]
  rw [show decide ((c.toNat : Int) = 46) = (c == 46) from f1, show decide ((c.toNat : Int) = 43) = (c == 43) from f2, show decide ((c.toNat : Int) = 45) = (c == 45) from f3, show decide ((c.toNat : Int) = 95) = (c == 95) from f4, show decide ((c.toNat : Int) = 126) = (c == 126) from f5]
set_option maxHeartbeats 2000000 in
theorem letter_calls (c : UInt8) (w : World) : Calls Tryz.prog 90 #[.int .u8 (c.toNat : Int)] w fun e w' => e = .returned (.bool (letterB c)) ∧ w' = w := by
  unfold letterB
  generalize (c.toNat : Int) = z
  by_cases a1 : (97 : Int) ≤ z <;> by_cases a2 : z ≤ 122 <;> by_cases b1 : (65 : Int) ≤ z <;> by_cases b2 : z ≤ 90 <;> by_cases c1 : (48 : Int) ≤ z <;> by_cases c2 : z ≤ 57
  all_goals first
    | (exfalso; omega)
    | (simp only [a1, a2, b1, b2, c1, c2, decide_true, decide_false, Bool.and_true, Bool.and_false, Bool.or_true, Bool.or_false]
       go_enter Tryz.func90, Tryz.ntmps90
       go_wp2
       go_ret
       exact ⟨rfl, rfl⟩)
set_option maxHeartbeats 2000000 in
theorem nameOk_calls (s : ByteArray) (w : World) : Calls Tryz.prog 69 #[.string s] w fun e w' => e = .returned (.bool (okB s.data.toList)) ∧ w' = w := by
  have ht := ok_tests s
  have hz : s.toList.isEmpty = decide ((s.size : Int) < 1) := by
    rw [Lib.toList_data]
    have := len_size s
    cases h : s.data.toList with
    | nil => rw [h] at this; simp at this; simp [← this]
    | cons c r => rw [h] at this; simp at this; rw [← this]; simp; omega
  rw [hz] at ht; clear hz
  by_cases h0 : (s.size : Int) < 1
  · have e : okB s.data.toList = false := by rw [ht]; simp [h0]
    rw [e]; clear ht e
    go_enter Tryz.func69, Tryz.ntmps69
    go_wp2
    go_ret
    exact ⟨rfl, rfl⟩
  by_cases h1 : (27 : Int) < (s.size : Int)
  · have e : okB s.data.toList = false := by rw [ht]; simp [h1]
    rw [e]; clear ht e
    go_enter Tryz.func69, Tryz.ntmps69
    go_wp2
    go_ret
    exact ⟨rfl, rfl⟩
  by_cases h2 : (s.toList == [46]) = true
  · have e : okB s.data.toList = false := by rw [ht]; simp [h2]
    rw [e]; clear ht e
    go_enter Tryz.func69, Tryz.ntmps69
    go_wp2
    go_ret
    exact ⟨rfl, rfl⟩
  replace h2 : (s.toList == [46]) = false := by simpa using h2
  by_cases h3 : (s.toList == [46, 46]) = true
  · have e : okB s.data.toList = false := by rw [ht]; simp [h3]
    rw [e]; clear ht e
    go_enter Tryz.func69, Tryz.ntmps69
    go_wp2
    go_ret
    exact ⟨rfl, rfl⟩
  replace h3 : (s.toList == [46, 46]) = false := by simpa using h3
  have e : okB s.data.toList = s.data.toList.all signB := by rw [ht, h2, h3]; simp [h0, h1]
  have hsz : s.size ≤ 27 := by omega
  rw [e]; clear ht e
  go_enter Tryz.func69, Tryz.ntmps69
  go_wp2_with fail
  clear h0 h2 h3
  go_loopg [3] s.size (fun g i wr => ∃ k : Nat, k ≤ s.size ∧ g = s.size - k ∧ i = .int .i64 (k : Int) ∧ wr = w ∧ (s.data.toList.take k).all signB = true)
  case atStart => exact ⟨0, Nat.zero_le _, rfl, rfl, rfl, rfl⟩
  case round =>
    obtain ⟨k, hk, hg, rfl, rfl, hall⟩ := hrel
    replace hg := hidden hg
    replace hall := hidden hall
    by_cases hlt : k < s.size
    · have hn := hidden (all_take_succ s k hlt)
      have hb := hidden (get_byte s k hlt)
      have kS := hidden (letter_calls (s[k]'hlt) wr)
      go_wp2_with fail
      refine kS.out.mono ?_
      rintro e w' ⟨rfl, rfl⟩
      have hs := hidden (sign_letter (s[k]'hlt))
      generalize s[k]'hlt = c at hs hb hn ⊢
      cases hl : letterB c
      · by_cases e1 : (c.toNat : Int) = 46
        · have hx : signB c = true := by rw [hs.out]; simp [e1]
          clear hs
          go_wp2
          go_roundg (s.size - (k + 1))
          case measure => rw [hg.out]; omega
          case rel => exact ⟨k + 1, hlt, rfl, by simp, rfl, by rw [hn.out, hall.out, hx]; rfl⟩
        · by_cases e2 : (c.toNat : Int) = 43
          · have hx : signB c = true := by rw [hs.out]; simp [e2]
            clear hs
            go_wp2
            go_roundg (s.size - (k + 1))
            case measure => rw [hg.out]; omega
            case rel => exact ⟨k + 1, hlt, rfl, by simp, rfl, by rw [hn.out, hall.out, hx]; rfl⟩
          · by_cases e3 : (c.toNat : Int) = 45
            · have hx : signB c = true := by rw [hs.out]; simp [e3]
              clear hs
              go_wp2
              go_roundg (s.size - (k + 1))
              case measure => rw [hg.out]; omega
              case rel => exact ⟨k + 1, hlt, rfl, by simp, rfl, by rw [hn.out, hall.out, hx]; rfl⟩
            · by_cases e4 : (c.toNat : Int) = 95
              · have hx : signB c = true := by rw [hs.out]; simp [e4]
                clear hs
                go_wp2
                go_roundg (s.size - (k + 1))
                case measure => rw [hg.out]; omega
                case rel => exact ⟨k + 1, hlt, rfl, by simp, rfl, by rw [hn.out, hall.out, hx]; rfl⟩
              · by_cases e5 : (c.toNat : Int) = 126
                · have hx : signB c = true := by rw [hs.out]; simp [e5]
                  clear hs
                  go_wp2
                  go_roundg (s.size - (k + 1))
                  case measure => rw [hg.out]; omega
                  case rel => exact ⟨k + 1, hlt, rfl, by simp, rfl, by rw [hn.out, hall.out, hx]; rfl⟩
                · have n1 : ((c.toNat : Int) != 46) = true := by simp [e1]
                  have n2 : ((c.toNat : Int) != 43) = true := by simp [e2]
                  have n3 : ((c.toNat : Int) != 45) = true := by simp [e3]
                  have n4 : ((c.toNat : Int) != 95) = true := by simp [e4]
                  have n5 : ((c.toNat : Int) != 126) = true := by simp [e5]
                  have hx : signB c = false := by rw [hs.out]; simp [hl, e1, e2, e3, e4, e5]
                  clear hs
                  go_wp2
                  go_ret
                  exact ⟨by rw [all_at hb.out hx]; rfl, rfl⟩
      · have hx : signB c = true := by rw [hs.out]; simp [hl]
        clear hs
        go_wp2
        go_roundg (s.size - (k + 1))
        case measure => rw [hg.out]; omega
        case rel => exact ⟨k + 1, hlt, rfl, by simp, rfl, by rw [hn.out, hall.out, hx]; rfl⟩
    · obtain rfl : k = s.size := by omega
      go_wp2
      go_ret
      refine ⟨?_, rfl⟩
      have h := hall.out
      rw [← len_size, List.take_length] at h
      rw [h]; rfl
end Go.Proofs.YtfoamhkgdlebdaaGreatDoor
