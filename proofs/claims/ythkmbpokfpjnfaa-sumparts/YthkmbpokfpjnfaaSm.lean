/- sum.add, sum.Of and sum.Parts: the digest of a row of bytes, byte by byte; the memory stays as it was. -/
import Derived.Test.YthkmbpokfpjnfaaRows
import Derived.WalkKit
import Derived.WalkSpells
import Derived.ProofKit
import Derived.OpenShut
import Derived.RowKitTokens
import Derived.Deep.LoopGhost
import Derived.Deep.RegionWith
import Derived.Deep.Matrix
namespace Go.Proofs.Ythkmbpokfpjnfaa
open Go.RowKit
set_option maxRecDepth 100000

/-- A fact kept from the walk. -/
theorem hidden {p : Prop} (h : p) : Hid p := h
/-- One byte more. -/
def fnvStep (n c : Int) : Int := IntKind.u64.wrap (bits .xor .u64 n c * 1099511628211)
/-- A row of bytes more. -/
def fnv (n : Int) (zs : List Int) : Int := zs.foldl fnvStep n
abbrev fnv0 : Int := 14695981039346656037

/-- A value that is a slice of bytes, as it lies in memory. -/
def BytesAt (w : World) (v : Value) (zs : List Int) : Prop :=
  ∃ a cap, v = .slice a zs.length cap ∧ (∀ z ∈ zs, 0 ≤ z ∧ z ≤ 255) ∧ zs.length ≤ maxLen ∧ (a = none → cap = 0) ∧
    (zs ≠ [] → ∃ b off, a = some ⟨b, off, none⟩ ∧ b < w.heap.size ∧ ∀ k, k < zs.length → w.cell? ⟨b, off + k, none⟩ = some (.int .u8 (zs.getD k 0)))
theorem BytesAt.nil (w : World) : BytesAt w (.slice none 0 0) [] := ⟨none, 0, rfl, by simp, by simp, fun _ => rfl, fun h => (h rfl).elim⟩
theorem BytesAt.below {w w' : World} {v : Value} {zs : List Int} (h : BytesAt w v zs) (hb : Below w.heap.size w w') : BytesAt w' v zs := by
  obtain ⟨a, cap, hv, hr, hm, hn, hc⟩ := h
  refine ⟨a, cap, hv, hr, hm, hn, fun hne => ?_⟩
  obtain ⟨b, off, ha, hlt, hk⟩ := hc hne
  exact ⟨b, off, ha, Nat.lt_of_lt_of_le hlt hb.size, fun k hlk => (hb.cell (p := ⟨b, off + k, none⟩) hlt).trans (hk k hlk)⟩

theorem fnv_take_succ (n : Int) (zs : List Int) (k : Nat) (h : k < zs.length) : fnv n (zs.take (k + 1)) = fnvStep (fnv n (zs.take k)) (zs.getD k 0) := by
  unfold fnv
  rw [List.take_succ_eq_append_getElem h, List.foldl_append]
  simp [List.getD, h]

theorem add_calls (n : Int) (zs : List Int) (v : Value) (w : World) (h : BytesAt w v zs) :
    Calls Try.prog 17 #[.int .u64 n, v] w fun e w' => e = .returned (.int .u64 (fnv n zs)) ∧ w' = w := by
  obtain ⟨a, cap, rfl, hr, hm, _, hc⟩ := h
  have hm' : zs.length ≤ 9223372036854775807 := by unfold maxLen at hm; omega
  clear hm
  have hr' : ∀ k, 0 ≤ zs.getD k 0 ∧ zs.getD k 0 ≤ 255 := by
    intro k
    by_cases hk : k < zs.length
    · have : zs.getD k 0 = zs[k] := by simp [List.getD, hk]
      rw [this]; exact hr _ (List.getElem_mem hk)
    · have : zs.getD k 0 = 0 := by simp [List.getD, hk]
      rw [this]; omega
  replace hr' := hidden hr'
  clear hr
  go_enter Try.func17, Try.ntmps17
  go_wp2
  go_loop [0, 9] (fun t i => ∃ k : Nat, k ≤ zs.length ∧ i = .int .i64 k ∧ t = .int .u64 (fnv n (zs.take k))) (fun _ i => zs.length - (intOf i).toNat)
  case atStart => exact ⟨0, Nat.zero_le _, rfl, rfl⟩
  case round =>
    obtain ⟨k, hk, rfl, rfl⟩ := hrel
    by_cases hlt : k < zs.length
    · obtain ⟨b, off, rfl, hb, hcells⟩ := hc (by intro h; rw [h] at hlt; simp at hlt)
      have hcell := hcells k hlt
      have hz := hr'.out k
      have hst := hidden (fnv_take_succ n zs k hlt)
      clear hc hcells
      generalize zs.getD k 0 = z at hcell hz hst
      go_wp2
      go_round
      case rel =>
        refine ⟨k + 1, hlt, by go_num, ?_⟩
        rw [hst.out]
        rfl
      case measure => simp [intOf]; omega
    · go_wp2
      go_ret
      have : k = zs.length := by omega
      subst this
      simp

theorem of_calls (zs : List Int) (v : Value) (w : World) (h : BytesAt w v zs) :
    Calls Try.prog 11 #[v] w fun e w' => e = .returned (.int .u64 (fnv fnv0 zs)) ∧ w' = w := by
  go_enter Try.func11, Try.ntmps11
  replace h := hidden h
  go_wp2_with fail
  refine (add_calls _ zs v w h.out).mono ?_
  rintro ev w' ⟨rfl, rfl⟩
  go_wp2
  go_ret
  exact ⟨rfl, rfl⟩

/-- A value that is a slice of slices of bytes, as it lies in memory. -/
def PartsAt (w : World) (v : Value) (zss : List (List Int)) : Prop :=
  ∃ a cap, v = .slice a zss.length cap ∧ zss.length ≤ maxLen ∧
    (zss ≠ [] → ∃ b off, a = some ⟨b, off, none⟩ ∧ b < w.heap.size ∧ ∀ k, k < zss.length → ∃ x, w.cell? ⟨b, off + k, none⟩ = some x ∧ BytesAt w x (zss.getD k []))
theorem PartsAt.nil (w : World) (a : Option Addr) (cap : Nat) : PartsAt w (.slice a 0 cap) [] := ⟨a, cap, rfl, by simp, fun h => (h rfl).elim⟩
theorem fnv_flat_succ (n : Int) (zss : List (List Int)) (k : Nat) (h : k < zss.length) : fnv n (zss.take (k + 1)).flatten = fnv (fnv n (zss.take k).flatten) (zss.getD k []) := by
  unfold fnv
  rw [List.take_succ_eq_append_getElem h, List.flatten_append, List.foldl_append]
  simp [List.getD, h]

theorem parts_calls (zss : List (List Int)) (v : Value) (w : World) (h : PartsAt w v zss) :
    Calls Try.prog 10 #[v] w fun e w' => e = .returned (.int .u64 (fnv fnv0 zss.flatten)) ∧ w' = w := by
  obtain ⟨a, cap, rfl, hm, hc⟩ := h
  have hm' : zss.length ≤ 9223372036854775807 := by unfold maxLen at hm; omega
  clear hm
  go_enter Try.func10, Try.ntmps10
  go_wp2
  go_loop [3, 8] (fun t i => ∃ k : Nat, k ≤ zss.length ∧ i = .int .i64 k ∧ t = .int .u64 (fnv fnv0 (zss.take k).flatten)) (fun _ i => zss.length - (intOf i).toNat)
  case atStart => exact ⟨0, Nat.zero_le _, rfl, rfl⟩
  case round =>
    obtain ⟨k, hk, rfl, rfl⟩ := hrel
    by_cases hlt : k < zss.length
    · obtain ⟨b, off, rfl, hb, hcells⟩ := hc (by intro h; rw [h] at hlt; simp at hlt)
      obtain ⟨x, hcell, hx⟩ := hcells k hlt
      have hst := hidden (fnv_flat_succ fnv0 zss k hlt)
      replace hx := hidden hx
      clear hc hcells
      generalize zss.getD k [] = z at hx hst
      go_wp2_with fail
      refine (add_calls _ z x w hx.out).mono ?_
      rintro ev w' ⟨rfl, rfl⟩
      go_wp2
      go_round
      case rel =>
        refine ⟨k + 1, hlt, by go_num, ?_⟩
        rw [hst.out]
      case measure => simp [intOf]; omega
    · go_wp2
      go_ret
      have : k = zss.length := by omega
      subst this
      simp
end Go.Proofs.Ythkmbpokfpjnfaa
