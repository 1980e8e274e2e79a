/- credenzaref2.Num: a number's text, as strconv tells it. -/
import Derived.Test.YtleafmdjhmnjmaaGreatDoorGWf
namespace Go.Proofs.YtleafmdjhmnjmaaGreatDoor
open Go.RowKit Go.Extern.Stop Go.Stop Go.Extern
set_option maxRecDepth 100000
abbrev tenText : ByteArray := ⟨#[48, 49, 50, 51, 52, 53, 54, 55, 56, 57]⟩
theorem ten_extract : ∀ d : Nat, d < 10 -> (tenText.extract d (d + 1)).data = #[UInt8.ofNat (48 + d)] := by decide
theorem ten_cat (d : Nat) (hd : d < 10) (t : List UInt8) : tenText.extract d (d + 1) ++ (⟨t.toArray⟩ : ByteArray) = ⟨(UInt8.ofNat (48 + d) :: t).toArray⟩ := by
  apply ByteArray.ext
  rw [ByteArray.data_append, ten_extract d hd]
  simp
theorem ten_size (d : Nat) (hd : d < 10) : (tenText.extract d (d + 1)).size = 1 := by
  have := ten_extract d hd
  show (tenText.extract d (d + 1)).data.size = 1
  rw [this]
  rfl
theorem decDigits_step (u : Nat) (h : ¬ u < 10) : Lib.decDigits u = Lib.decDigits (u / 10) ++ [UInt8.ofNat (48 + u % 10)] := by rw [Lib.decDigits, dif_neg h]
theorem decDigits_len (u : Nat) (h : u < 18446744073709551616) : (Lib.decDigits u).length <= 20 := by
  have key : ∀ (k u : Nat), u < 10 ^ (k + 1) -> (Lib.decDigits u).length <= k + 1 := by
    intro k
    induction k with
    | zero => intro u hu; rw [Lib.decDigits_one (by omega)]; simp
    | succ k ih =>
      intro u hu
      by_cases h10 : u < 10
      · rw [Lib.decDigits_one h10]; simp
      · rw [decDigits_step u h10, List.length_append]
        have := ih (u / 10) (by rw [Nat.pow_succ] at hu; omega)
        simp
        omega
  exact key 19 u (by omega)
set_option maxHeartbeats 1000000 in
theorem digits_calls (u : Nat) (hu : u < 18446744073709551616) (w : World) :
    Calls Tryz.prog 27 #[.int .u64 u] w fun e w' => e = .returned (.string ⟨(Lib.decDigits u).toArray⟩) /\ w' = w := by
  have hlen := decDigits_len u hu
  go_enter Tryz.func27, Tryz.ntmps27
  go_wp2
  go_loopg [0, 3] u (fun gk x s wr => ∃ (y : Int) (t : List UInt8), x = .int .u64 y /\ s = .string ⟨t.toArray⟩ /\ 0 <= y /\ y < 18446744073709551616 /\ gk = y.toNat /\ Lib.decDigits u = Lib.decDigits y.toNat ++ t /\ wr = w)
  case atStart => exact ⟨u, [], rfl, rfl, by omega, by omega, by simp, by simp, rfl⟩
  case round =>
    obtain ⟨y, t, rfl, rfl, hy0, hy1, hgk, hd, rfl⟩ := hrel
    have htl : t.length <= 20 := by rw [hd, List.length_append] at hlen; omega
    have hts : (⟨t.toArray⟩ : ByteArray).size = t.length := by simp [ByteArray.size]
    replace hd := hidden hd
    replace hgk := hidden hgk
    clear hlen
    by_cases hlt : 9 < y
    · obtain ⟨D, hD, hD2⟩ : ∃ D : Nat, y.tmod 10 = (D : Int) /\ D = y.toNat % 10 := ⟨y.toNat % 10, by rw [Int.tmod_eq_emod_of_nonneg hy0]; omega, rfl⟩
      have hD10 : D < 10 := by omega
      have hDi : (D : Int) < 10 := by omega
      have hdiv : y.tdiv 10 = y / 10 := Int.tdiv_eq_ediv_of_nonneg hy0
      have hsz := ten_size D hD10
      have hct := hidden (ten_cat D hD10 t)
      replace hD2 := hidden hD2
      go_wp2
      go_roundg (y.toNat / 10)
      case measure => rw [hgk.out]; omega
      case rel =>
        refine ⟨y / 10, UInt8.ofNat (48 + D) :: t, rfl, ?_, by omega, by omega, by omega, ?_, rfl⟩
        · exact congrArg Value.string hct.out
        · rw [hd.out, decDigits_step y.toNat (by omega), <- hD2.out, show (y / 10).toNat = y.toNat / 10 by omega]
          simp
    · obtain ⟨Y, rfl⟩ := Int.eq_ofNat_of_zero_le hy0
      have hY : Y < 10 := by omega
      have hYi : (Y : Int) < 10 := by omega
      have hsz := ten_size Y hY
      have hct := hidden (ten_cat Y hY t)
      go_wp2
      go_ret
      refine ⟨?_, rfl⟩
      have h2 := hd.out
      rw [show ((Y : Nat) : Int).toNat = Y from rfl, Lib.decDigits_one hY] at h2
      rw [h2]
      exact congrArg (fun s => Ending.returned (.string s)) hct.out
theorem num_calls (i : Int) (hi : i64 i) (w : World) :
    Calls Tryz.prog 7 #[.int .i64 i] w fun e w' => e = .returned (.string (itoaB i)) /\ w' = w := by
  obtain ⟨hi0, hi1⟩ := hi
  by_cases hn : i < 0
  · have hlen := decDigits_len i.natAbs (by omega)
    have hdg := hidden (digits_calls i.natAbs (by omega) w)
    have hE : itoaB i = (⟨#[45]⟩ : ByteArray) ++ ⟨(Lib.decDigits i.natAbs).toArray⟩ := by
      apply ByteArray.ext
      show (Lib.itoa i).toArray = _
      unfold Lib.itoa
      rw [if_pos hn]
      simp
    have hsz : (⟨(Lib.decDigits i.natAbs).toArray⟩ : ByteArray).size <= 20 := by simpa [ByteArray.size] using hlen
    have hab : -(i + 1) + 1 = (i.natAbs : Int) := by omega
    have h0 : 0 <= -(i + 1) := by omega
    have h1 : -(i + 1) <= 9223372036854775807 := by omega
    rw [hE]
    clear hE hlen
    generalize (⟨(Lib.decDigits i.natAbs).toArray⟩ : ByteArray) = s at hdg hsz
    go_enter Tryz.func7, Tryz.ntmps7
    go_wp2_with fail
    refine (hdg.out).mono ?_
    rintro ev w1 ⟨rfl, rfl⟩
    go_wp2
    go_ret
    exact ⟨rfl, rfl⟩
  · obtain ⟨u, rfl⟩ := Int.eq_ofNat_of_zero_le (show 0 <= i by omega)
    have hdg := hidden (digits_calls u (by omega) w)
    have hE : itoaB (u : Int) = ⟨(Lib.decDigits u).toArray⟩ := by
      show (⟨(Lib.itoa (u : Int)).toArray⟩ : ByteArray) = _
      rw [Lib.itoa_nonneg]
    rw [hE]
    clear hE
    have h0 : (0 : Int) <= (u : Int) := by omega
    go_enter Tryz.func7, Tryz.ntmps7
    go_wp2_with fail
    refine (hdg.out).mono ?_
    rintro ev w1 ⟨rfl, rfl⟩
    go_wp2
    go_ret
    exact ⟨rfl, rfl⟩
end Go.Proofs.YtleafmdjhmnjmaaGreatDoor
