/- conf.plain, versionOk, optionsOk, blobOk, Ok: which entries may be. -/
import Derived.Test.YtfoamhkgdlebdaaGreatDoorX1
import Derived.Deep.CutBlock
namespace Go.Proofs.YtfoamhkgdlebdaaGreatDoor
open Go.RowKit Go.Extern.Stop Go.Stop Go.Extern
set_option maxRecDepth 100000

def inR (lo hi : Nat) (c : UInt8) : Bool := decide (lo ≤ c.toNat) && decide (c.toNat ≤ hi)
def plainB (x : List UInt8) : Bool := x.all (inR 32 126)
def verB (x : List UInt8) : Bool := !x.isEmpty && decide (x.length ≤ 40) && plainB x && !decide (0 ≤ Lib.indexByte x 32)
def optB (x : List UInt8) : Bool := decide (x.length ≤ 200) && plainB x && (Lib.trimB x 32 == x)
def blobB (n s : List UInt8) : Bool := (unhexS (mkB s)).isSome && okB n
theorem allp_take (p : UInt8 → Bool) (s : ByteArray) (k : Nat) (h : k < s.size) : (s.data.toList.take (k + 1)).all p = ((s.data.toList.take k).all p && p (s[k]'h)) := by
  have hb := get_byte s k h
  rw [List.take_add_one, hb]
  simp
theorem allp_at {p : UInt8 → Bool} {l : List UInt8} {k : Nat} {c : UInt8} (h : l[k]? = some c) (hc : p c = false) : l.all p = false := by
  rw [List.all_eq_false]
  exact ⟨c, List.mem_of_getElem? h, by simp [hc]⟩
set_option maxHeartbeats 2000000 in
theorem plain_calls (s : ByteArray) (hsz : s.size ≤ 200) (w : World) : Calls Tryz.prog 54 #[.string s] w fun e w' => e = .returned (.bool (plainB s.data.toList)) ∧ w' = w := by
  go_enter Tryz.func54, Tryz.ntmps54
  go_wp2_with fail
  go_loopg [6] s.size (fun g i wr => ∃ k : Nat, k ≤ s.size ∧ g = s.size - k ∧ i = .int .i64 (k : Int) ∧ wr = w ∧ (s.data.toList.take k).all (inR 32 126) = true)
  case atStart => exact ⟨0, Nat.zero_le _, rfl, rfl, rfl, rfl⟩
  case round =>
    obtain ⟨k, hk, hg, rfl, rfl, hall⟩ := hrel
    replace hg := hidden hg
    replace hall := hidden hall
    by_cases hlt : k < s.size
    · have hn := hidden (allp_take (inR 32 126) s k hlt)
      have hb := hidden (get_byte s k hlt)
      obtain ⟨c, hc⟩ : ∃ c, s[k]'hlt = c := ⟨_, rfl⟩
      rw [hc] at hn hb
      by_cases a1 : (c.toNat : Int) < 32
      · have hx : inR 32 126 c = false := by simp [inR]; omega
        go_wp2
        go_ret
        exact ⟨by rw [show plainB s.data.toList = false from allp_at hb.out hx]; rfl, rfl⟩
      · by_cases a2 : (126 : Int) < (c.toNat : Int)
        · have hx : inR 32 126 c = false := by simp [inR]; omega
          go_wp2
          go_ret
          exact ⟨by rw [show plainB s.data.toList = false from allp_at hb.out hx]; rfl, rfl⟩
        · have hx : inR 32 126 c = true := by simp [inR]; omega
          go_wp2
          go_roundg (s.size - (k + 1))
          case measure => rw [hg.out]; omega
          case rel => exact ⟨k + 1, hlt, rfl, by simp, rfl, by rw [hn.out, hall.out, hx]; rfl⟩
    · obtain rfl : k = s.size := by omega
      go_wp2
      go_ret
      refine ⟨?_, rfl⟩
      have h := hall.out
      rw [← len_size, List.take_length] at h
      rw [show plainB s.data.toList = true from h]; rfl
theorem empty_list (s : ByteArray) : s.toList.isEmpty = s.data.toList.isEmpty := by rw [Lib.toList_data]
set_option maxHeartbeats 2000000 in
theorem version_calls (s : ByteArray) (w : World) : Calls Tryz.prog 38 #[.string s] w fun e w' => e = .returned (.bool (verB s.data.toList)) ∧ w' = w := by
  have hv : verB s.data.toList = (!s.toList.isEmpty && decide (s.size ≤ 40) && plainB s.data.toList && !decide (0 ≤ Lib.indexByte s.data.toList 32)) := by rw [verB, empty_list, len_size]
  rw [hv]; clear hv
  cases h0 : s.toList.isEmpty with
  | true =>
    go_enter Tryz.func38, Tryz.ntmps38
    go_wp2
    go_ret
    exact ⟨rfl, rfl⟩
  | false =>
    by_cases h1 : s.size ≤ 40
    · have h1' : (s.size : Int) ≤ 40 := by omega
      have kP := hidden (plain_calls s (by omega) w)
      have kC := hidden (Tryz.strings_Contains_one s 32 w)
      rw [show decide (s.size ≤ 40) = true by simpa using h1]; clear h1
      generalize plainB s.data.toList = p at kP ⊢
      generalize decide (0 ≤ Lib.indexByte s.data.toList 32) = q at kC ⊢
      cases p
      · go_enter Tryz.func38, Tryz.ntmps38
        go_wp2_with (go_at_call 54; refine kP.out.mono ?_; rintro e w' ⟨rfl, rfl⟩)
        go_ret
        exact ⟨rfl, rfl⟩
      · go_enter Tryz.func38, Tryz.ntmps38
        go_wp2_with first
          | (go_at_call 54; refine kP.out.mono ?_; rintro e w' ⟨rfl, rfl⟩)
          | (go_at_call 55; refine kC.out.mono ?_; rintro e w' ⟨rfl, rfl⟩)
        go_ret
        exact ⟨by simp, rfl⟩
    · have h1' : ¬ (s.size : Int) ≤ 40 := by omega
      rw [show decide (s.size ≤ 40) = false by simpa using h1]; clear h1
      go_enter Tryz.func38, Tryz.ntmps38
      go_wp2
      go_ret
      exact ⟨rfl, rfl⟩
theorem list_eq (s t : ByteArray) : (s.toList == t.toList) = (s.data.toList == t.data.toList) := by rw [Lib.toList_data, Lib.toList_data]
set_option maxHeartbeats 2000000 in
theorem options_calls (s : ByteArray) (w : World) : Calls Tryz.prog 42 #[.string s] w fun e w' => e = .returned (.bool (optB s.data.toList)) ∧ Below w.heap.size w w' := by
  rw [optB, len_size]
  by_cases h1 : s.size ≤ 200
  · have h1' : (s.size : Int) ≤ 200 := by omega
    have kP := hidden (plain_calls s h1 w)
    have kT := hidden (Tryz.strings_Trim_one s 32 (by decide) w (by omega))
    rw [show decide (s.size ≤ 200) = true by simpa using h1]; clear h1
    generalize plainB s.data.toList = p at kP ⊢
    obtain ⟨u, hu⟩ : ∃ u : ByteArray, u = ⟨(Lib.trimB s.data.toList 32).toArray⟩ := ⟨_, rfl⟩
    have hq : (Lib.trimB s.data.toList 32 == s.data.toList) = (u.toList == s.toList) := by rw [list_eq, hu]
    rw [← hu] at kT
    rw [hq]; clear hq hu
    generalize hq : (u.toList == s.toList) = q
    cases p
    · go_enter Tryz.func42, Tryz.ntmps42
      go_wp2_with (go_at_call 54; refine kP.out.mono ?_; rintro e w' ⟨rfl, rfl⟩)
      go_ret
      exact ⟨rfl, Below.refl _ _⟩
    · go_enter Tryz.func42, Tryz.ntmps42
      go_wp2_with (go_at_call 54; refine kP.out.mono ?_; rintro e w' ⟨rfl, hw⟩; subst w')
      go_wp2_with fail
      refine kT.out.mono ?_
      rintro e w1 ⟨rfl, hw⟩
      have hB : Below w.heap.size w w1 := by
        rcases hw with rfl | rfl
        · exact Below.refl _ _
        · exact (Below.refl _ _).drew
      clear hw
      replace hB := hidden hB
      go_wp2
      go_ret
      exact ⟨by simp, hB.out⟩
  · have h1' : ¬ (s.size : Int) ≤ 200 := by omega
    rw [show decide (s.size ≤ 200) = false by simpa using h1]; clear h1
    go_enter Tryz.func42, Tryz.ntmps42
    go_wp2
    go_ret
    exact ⟨rfl, Below.refl _ _⟩
end Go.Proofs.YtfoamhkgdlebdaaGreatDoor
