/- sum.add and sum.Parts: the digest of rows of bytes, byte by byte; the memory stays as it was. -/
import Derived.Test.YtopegpjkkicjhaaGreatDoorWrW
namespace Go.Proofs.YtopegpjkkicjhaaGreatDoor
open Go.RowKit Go.Extern.Stop Go.Stop Go.Extern
set_option maxRecDepth 100000

/-- One byte more. -/
def fnvStep (n c : Int) : Int := IntKind.u64.wrap (bits .xor .u64 n c * 1099511628211)
/-- A row of bytes more. -/
def fnv (n : Int) (zs : List Int) : Int := zs.foldl fnvStep n
abbrev fnv0 : Int := 14695981039346656037
abbrev zeroB : List Int := List.replicate 128 0
theorem u64_range (x : Int) : 0 ≤ IntKind.u64.wrap x ∧ IntKind.u64.wrap x < 18446744073709551616 := by
  simp only [IntKind.wrap, IntKind.bits, IntKind.signed]
  simp
  omega
theorem fnv_range (n : Int) (h : 0 ≤ n ∧ n < 18446744073709551616) (zs : List Int) : 0 ≤ fnv n zs ∧ fnv n zs < 18446744073709551616 := by
  induction zs generalizing n with
  | nil => exact h
  | cons z zs ih => exact ih _ (u64_range _)
theorem fnv_take_succ (n : Int) (zs : List Int) (k : Nat) (h : k < zs.length) : fnv n (zs.take (k + 1)) = fnvStep (fnv n (zs.take k)) (zs.getD k 0) := by
  unfold fnv
  rw [List.take_succ_eq_append_getElem h, List.foldl_append]
  simp [List.getD, h]
theorem bytes_getD {zs : List Int} (hr : ∀ z ∈ zs, 0 ≤ z ∧ z ≤ 255) : ∀ k, 0 ≤ zs.getD k 0 ∧ zs.getD k 0 ≤ 255 := by
  intro k
  by_cases hk : k < zs.length
  · have : zs.getD k 0 = zs[k] := by simp [List.getD, hk]
    rw [this]; exact hr _ (List.getElem_mem hk)
  · have : zs.getD k 0 = 0 := by simp [List.getD, hk]
    rw [this]; omega
theorem add_calls (n : Int) (zs : List Int) (v : Value) (w : World) (h : BytesAt w v zs) :
    Calls Tryz.prog 178 #[.int .u64 n, v] w fun e w' => e = .returned (.int .u64 (fnv n zs)) ∧ w' = w := by
  obtain ⟨a, cap, rfl, hr, hm, _, hc⟩ := h
  have hm' : zs.length ≤ 9223372036854775807 := by unfold maxLen at hm; omega
  clear hm
  have hr' := hidden (bytes_getD hr)
  clear hr
  go_enter Tryz.func178, Tryz.ntmps178
  go_wp2
  go_loop [0, 9] (fun t i => ∃ k : Nat, k ≤ zs.length ∧ i = .int .i64 k ∧ t = .int .u64 (fnv n (zs.take k))) (fun _ i => zs.length - (intOf i).toNat)
  case atStart => exact ⟨0, Nat.zero_le _, rfl, rfl⟩
  case round =>
    obtain ⟨k, hk, rfl, rfl⟩ := hrel
    by_cases hlt : k < zs.length
    · obtain ⟨b, off, rfl, hb, hcells⟩ := hc (by intro h; rw [h] at hlt; simp at hlt)
      have hcell := hcells k hlt
      have hz := hr'.out k
      have hst := hidden (fnv_take_succ n zs k hlt)
      clear hc hcells
      generalize zs.getD k 0 = z at hcell hz hst
      go_wp2
      go_round
      case rel =>
        refine ⟨k + 1, hlt, by go_num, ?_⟩
        rw [hst.out]
        rfl
      case measure => simp [intOf]; omega
    · go_wp2
      go_ret
      have : k = zs.length := by omega
      subst this
      simp
/-- A value that is a slice of slices of bytes, as it lies in memory. -/
def PartsAt (w : World) (v : Value) (zss : List (List Int)) : Prop :=
  ∃ a cap, v = .slice a zss.length cap ∧ zss.length ≤ maxLen ∧
    (zss ≠ [] → ∃ b off, a = some ⟨b, off, none⟩ ∧ b < w.heap.size ∧ ∀ k, k < zss.length → ∃ x, w.cell? ⟨b, off + k, none⟩ = some x ∧ BytesAt w x (zss.getD k []))
theorem fnv_flat_succ (n : Int) (zss : List (List Int)) (k : Nat) (h : k < zss.length) : fnv n (zss.take (k + 1)).flatten = fnv (fnv n (zss.take k).flatten) (zss.getD k []) := by
  unfold fnv
  rw [List.take_succ_eq_append_getElem h, List.flatten_append, List.foldl_append]
  simp [List.getD, h]
theorem parts_calls (zss : List (List Int)) (v : Value) (w : World) (h : PartsAt w v zss) :
    Calls Tryz.prog 170 #[v] w fun e w' => e = .returned (.int .u64 (fnv fnv0 zss.flatten)) ∧ w' = w := by
  obtain ⟨a, cap, rfl, hm, hc⟩ := h
  have hm' : zss.length ≤ 9223372036854775807 := by unfold maxLen at hm; omega
  clear hm
  go_enter Tryz.func170, Tryz.ntmps170
  go_wp2
  go_loop [3, 8] (fun t i => ∃ k : Nat, k ≤ zss.length ∧ i = .int .i64 k ∧ t = .int .u64 (fnv fnv0 (zss.take k).flatten)) (fun _ i => zss.length - (intOf i).toNat)
  case atStart => exact ⟨0, Nat.zero_le _, rfl, rfl⟩
  case round =>
    obtain ⟨k, hk, rfl, rfl⟩ := hrel
    by_cases hlt : k < zss.length
    · obtain ⟨b, off, rfl, hb, hcells⟩ := hc (by intro h; rw [h] at hlt; simp at hlt)
      obtain ⟨x, hcell, hx⟩ := hcells k hlt
      have hst := hidden (fnv_flat_succ fnv0 zss k hlt)
      replace hx := hidden hx
      clear hc hcells
      generalize zss.getD k [] = z at hx hst
      go_wp2_with fail
      refine (add_calls _ z x w hx.out).mono ?_
      rintro ev w' ⟨rfl, rfl⟩
      go_wp2
      go_round
      case rel =>
        refine ⟨k + 1, hlt, by go_num, ?_⟩
        rw [hst.out]
      case measure => simp [intOf]; omega
    · go_wp2
      go_ret
      have : k = zss.length := by omega
      subst this
      simp
theorem BytesAt.sliced {w : World} {a : Option Addr} {cap : Nat} {zs : List Int} (h : BytesAt w (.slice a zs.length cap) zs) (hlc : zs.length ≤ cap) (l k : Nat) (hlk : l ≤ k) (hk : k ≤ zs.length) :
    BytesAt w (sliced a l k cap 1) ((zs.take k).drop l) := by
  obtain ⟨a', cap', he, hr, hm, hn, hc⟩ := h
  obtain ⟨rfl, -, rfl⟩ := Value.slice.inj he
  have hlen : ((zs.take k).drop l).length = k - l := by simp; omega
  refine ⟨_, _, by rw [hlen]; rfl, fun z hz => hr z (List.mem_of_mem_take (List.mem_of_mem_drop hz)), by rw [hlen]; omega, ?_, ?_⟩
  · intro h
    split at h
    · omega
    · have : a = none := by simpa using h
      have := hn this
      omega
  · intro hne
    have hlt : l < k := by
      rcases Nat.lt_or_ge l k with h | h
      · exact h
      · exact absurd (List.length_eq_zero_iff.1 (by rw [hlen]; omega)) hne
    obtain ⟨b, off, rfl, hb, hcell⟩ := hc (by intro h; rw [h] at hk; simp at hk; omega)
    refine ⟨b, off + l, ?_, hb, fun j hj => ?_⟩
    · rw [if_neg (by omega)]; simp [Addr.add]
    · rw [hlen] at hj
      rw [Nat.add_assoc, hcell (l + j) (by omega)]
      simp [List.getD, show l + j < k by omega]
end Go.Proofs.YtopegpjkkicjhaaGreatDoor
