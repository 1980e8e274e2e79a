/- What the document fixes (awake): true; and credenzaref2.Of. -/
import Derived.Test.YthkmbpokfpjnfaaVx
import Derived.Lib.SlBytesConst
namespace Go.Proofs.Ythkmbpokfpjnfaa
open Go.RowKit
set_option maxRecDepth 100000

abbrev litH : ByteArray := ⟨#[99, 98, 102, 50, 57, 99, 101, 52, 56, 52, 50, 50, 50, 51, 50, 53]⟩
theorem un0 : unhexV (unhexS litH) = .tuple #[.int .u64 14695981039346656037, .bool true] := by kernel_rfl
theorem hx0 : ofBytes (hexL fnv0) = litH := by kernel_rfl
theorem of97 : fnv fnv0 [97] = 12638187200555641996 := by kernel_rfl

theorem getD_map {zs : List Int} {k : Nat} (h : k < zs.length) : (zs.map (Value.int .u8))[k]? = some (.int .u8 (zs.getD k 0)) := by
  simp [List.getD, h]
/-- A new block of bytes. -/
theorem BytesAt.new (w : World) (zs : List Int) (cap : Nat) (fr : Nat × Nat) (hr : ∀ z ∈ zs, 0 ≤ z ∧ z ≤ 255) (hm : zs.length ≤ maxLen) : BytesAt (w.alloc (.cells (zs.map (Value.int .u8)).toArray 5 fr)) (.slice (some ⟨w.heap.size, 0, none⟩) zs.length cap) zs :=
  ⟨_, cap, rfl, hr, hm, fun h => (by cases h), fun _ => ⟨_, _, rfl, by simp, fun k hk => by
    rw [Nat.zero_add, World.cell?_alloc_mark, List.getElem?_toArray, getD_map hk]⟩⟩

theorem awake_calls (w : World) :
    Calls Try.prog 9 #[] w fun e w' => e = .returned (.bool true) ∧ Below w.heap.size w w' := by
  go_enter Try.func9, Try.ntmps9
  go_wp2_with fail
  refine (unhex_calls _ w).mono ?_
  rintro ev w0 ⟨rfl, hw0⟩
  subst hw0
  rw [un0]
  go_wp2_with fail
  refine (of_calls [] _ w0 (BytesAt.nil _)).mono ?_
  rintro ev w1 ⟨rfl, hw1⟩
  subst hw1
  go_wp2_with fail
  refine (hex_calls fnv0 (by decide) w1).mono ?_
  rintro ev w2 ⟨rfl, rfl⟩
  rw [hx0]
  have hB : Below w1.heap.size w1 (w1.alloc (.cells (hexC fnv0 16) 42)) := (Below.refl _ _).alloc (Nat.le_refl _) _
  have hsz : (w1.alloc (.cells (hexC fnv0 16) 42)).heap.size = w1.heap.size + 1 := by simp
  generalize w1.alloc (.cells (hexC fnv0 16) 42) = w2 at hB hsz ⊢
  replace hsz := hidden hsz
  have hcv : (convert 22 22 (.slice (some ⟨w2.heap.size, 0, none⟩) 1 1)).run Try.prog (w2.alloc (.cells #[.int .u8 97] 5)) = .ok (.slice (some ⟨w2.heap.size, 0, none⟩) 1 1) (w2.alloc (.cells #[.int .u8 97] 5 (1, 2))) := Lib.run_convert_bytes_const w2 _ _ _ 1 1 Try.underlying22 Try.underlying5
  go_wp2_with fail
  refine (of_calls [97] _ _ (BytesAt.new w2 [97] 1 (1, 2) (by decide) (by decide))).mono ?_
  rintro ev w3 ⟨rfl, rfl⟩
  rw [of97]
  go_wp2
  go_ret
  exact ⟨rfl, hB.alloc (by rw [hsz.out]; omega) _⟩

theorem refof_calls (s : ByteArray) (hs : s.size ≤ maxLen) (w : World) :
    Calls Try.prog 15 #[.string s] w fun e w' => e = .returned (.int .u64 (fnv fnv0 (bytesOf s))) ∧ w' = w := by
  have hm' : s.size ≤ 9223372036854775807 := by unfold maxLen at hs; omega
  clear hs
  go_enter Try.func15, Try.ntmps15
  go_wp2
  go_loopg [3, 4] s.size (fun g t i wr => ∃ k : Nat, k ≤ s.size ∧ g = s.size - k ∧ (∃ q : Int, i = .int .i64 q ∧ q = (k : Int)) ∧ t = .int .u64 (fnv fnv0 ((bytesOf s).take k)) ∧ wr = w)
  case atStart => exact ⟨0, Nat.zero_le _, rfl, ⟨0, rfl, rfl⟩, rfl, rfl⟩
  case round =>
    obtain ⟨k, hk, hg, ⟨q, rfl, hq⟩, rfl, rfl⟩ := hrel
    have hq0 : 0 ≤ q := by omega
    by_cases hlt : k < s.size
    · have hgd : (bytesOf s).getD k 0 = (s[k].toNat : Int) := by rw [List.getD, bytesOf_get s k hlt]; rfl
      have hst := fnv_take_succ fnv0 (bytesOf s) k (by rw [bytesOf_len]; exact hlt)
      rw [hgd] at hst
      have hx : ∀ w : World, (Instr.index 9 (.string s) (.int .i64 q)).run Try.prog w = .ok (.int .u8 ((s[k].toNat : Nat) : Int)) w := by
        intro w
        obtain rfl : k = q.toNat := by omega
        have hlq : q < (s.size : Int) := by omega
        simp [go_sem, hq0, hlq]
      have hc : 0 ≤ ((s[k].toNat : Nat) : Int) ∧ ((s[k].toNat : Nat) : Int) ≤ 255 := ⟨by omega, by have := s[k].toNat_lt; omega⟩
      generalize ((s[k].toNat : Nat) : Int) = c at hst hx hc
      have hlq : q < (s.size : Int) := by omega
      have hall := hidden (And.intro hk (And.intro hg (And.intro hq (And.intro hst hlt))))
      clear hgd hst hk hg hq
      generalize fnv fnv0 ((bytesOf s).take k) = t at hall
      go_wp2
      go_roundg (s.size - (k + 1))
      case measure => obtain ⟨hk, hg, hq, hst, hlt⟩ := hall.out; rw [hg]; omega
      case rel =>
        obtain ⟨hk, hg, hq, hst, hlt⟩ := hall.out
        refine ⟨k + 1, hlt, rfl, ⟨_, rfl, by omega⟩, ?_, rfl⟩
        rw [hst]; rfl
    · have hlq : ¬ q < (s.size : Int) := by omega
      have ht : (bytesOf s).take k = bytesOf s := List.take_of_length_le (by rw [bytesOf_len]; omega)
      rw [ht]
      clear ht hq hg hk hlt
      go_wp2
      go_ret
      exact ⟨rfl, rfl⟩
end Go.Proofs.Ythkmbpokfpjnfaa
