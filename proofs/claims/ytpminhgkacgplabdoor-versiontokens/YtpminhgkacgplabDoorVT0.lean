/- What the statements on tails and tokens use besides. -/
import Derived.Test.YtpminhgkacgplabDoorVP
import Derived.Test.YtpminhgkacgplabDoorVM
import Derived.Test.YtpminhgkacgplabDoorV5
import Derived.Test.YtpminhgkacgplabDoorV9
import Derived.BigQuiet
namespace Go.Proofs.YtpminhgkacgplabDoor
open Go Go.RowKit
set_option maxRecDepth 100000

theorem mk_app (x y : List UInt8) : mkB x ++ mkB y = mkB (x ++ y) := by
  apply ByteArray.ext
  rw [ByteArray.data_append]
  simp [mkB]
theorem mask_nat (x : Int) (m : Nat) (hm : m < 4611686018427387904) : ∃ u : Nat, bits .and .i64 x (m : Int) = (u : Int) ∧ u ≤ m := by
  have h := and_low x m hm
  exact ⟨(bits .and .i64 x (m : Int)).toNat, by omega, by omega⟩
theorem mask_lit (x : Int) (m : Int) (h0 : 0 ≤ m) (hm : m < 4611686018427387904) : ∃ u : Nat, bits .and .i64 x m = (u : Int) ∧ (u : Int) ≤ m := by
  obtain ⟨k, rfl⟩ := Int.eq_ofNat_of_zero_le h0
  obtain ⟨u, h1, h2⟩ := mask_nat x k (by omega)
  exact ⟨u, h1, by omega⟩
theorem size_big (x : List UInt8) (n : Nat) (h : n < x.length) : (n : Int) < ((mkB x).size : Int) := by rw [mk_size]; omega
theorem size_few (x : List UInt8) (n : Nat) (h : ¬ n < x.length) : ¬ (n : Int) < ((mkB x).size : Int) := by rw [mk_size]; omega
def letB (z : Int) : Bool := (decide (97 ≤ z) && decide (z ≤ 122)) || (decide (65 ≤ z) && decide (z ≤ 90)) || (decide (48 ≤ z) && decide (z ≤ 57))
set_option maxHeartbeats 4000000 in
theorem letter_calls (c : UInt8) (w : World) : Calls Tryd.prog 6 #[.int .u8 (c.toNat : Int)] w fun e w' => e = .returned (.bool (letB (c.toNat : Int))) ∧ w' = w := by
  unfold letB
  generalize (c.toNat : Int) = z
  by_cases a1 : (97 : Int) ≤ z <;> by_cases a2 : z ≤ 122 <;> by_cases b1 : (65 : Int) ≤ z <;> by_cases b2 : z ≤ 90 <;> by_cases c1 : (48 : Int) ≤ z <;> by_cases c2 : z ≤ 57
  all_goals first
    | (exfalso; omega)
    | (simp only [a1, a2, b1, b2, c1, c2, decide_true, decide_false, Bool.and_true, Bool.and_false, Bool.or_true, Bool.or_false]
       go_enter Tryd.func6, Tryd.ntmps6
       go_wp2
       go_ret
       exact ⟨rfl, rfl⟩)
theorem bdN (w : World) (n : Nat) : Below w.heap.size w (w.drewN n) := ⟨rfl, rfl, rfl, Nat.le_refl _, fun _ _ => rfl⟩
theorem beq_text (x : List UInt8) : ((mkB x).toList == (mkB x).toList) = true := by simp
/-- Signs that say nothing. -/
def plainC (c : UInt8) : Bool := !letB (c.toNat : Int) && decide (¬ (c.toNat : Int) = 126)
theorem plain_cls (c : UInt8) (h : plainC c = true) : clsB c = 1 := by
  have h2 := clsZ_of c
  unfold plainC letB at h
  have h3 : clsZ (c.toNat : Int) = 1 := by
    generalize (c.toNat : Int) = z at *
    unfold clsZ
    by_cases a1 : (97 : Int) ≤ z <;> by_cases a2 : z ≤ 122 <;> by_cases b1 : (65 : Int) ≤ z <;> by_cases b2 : z ≤ 90 <;> by_cases c1 : (48 : Int) ≤ z <;> by_cases c2 : z ≤ 57 <;> by_cases d1 : z = 126
    all_goals first
      | (exfalso; omega)
      | (exfalso; simp [a1, a2, b1, b2, c1, c2, d1] at h; done)
      | simp [a1, a2, b1, b2, c1, c2, d1]
  omega
theorem toks_plain (s b : List UInt8) (h : ∀ c ∈ s, clsB c = 1) : toksB (s ++ b) = toksB b := by
  induction s with
  | nil => rfl
  | cons c s ih =>
    rw [List.cons_append, toksB, raw_one c _ (h c (by simp))]
    exact ih (fun d hd => h d (by simp [hd]))
theorem toks_head (a s b : List UInt8) (h : ∀ c ∈ s, clsB c = 1) : toksB ((a ++ [46]) ++ s ++ b) = toksB a ++ toksB b := by
  rw [List.append_assoc, List.append_assoc, List.singleton_append, toks_sep 46 (by decide), toks_plain s b h]
theorem toks_point (a : List UInt8) : toksB (a ++ [46]) = toksB a := by
  rw [toks_sep 46 (by decide)]; show _ ++ [] = _; rw [List.append_nil]
def BytesIn (w : World) (v : Value) (cs : List UInt8) : Prop := ∃ a cap, v = .slice a cs.length cap ∧ cs.length ≤ maxLen ∧ (cs ≠ [] → ∃ b off, a = some ⟨b, off, none⟩ ∧ b < w.heap.size ∧ ∀ k c, cs[k]? = some c → w.cell? ⟨b, off + k, none⟩ = some (.int .u8 (c.toNat : Int)))
theorem conv_one (w : World) (c : UInt8) : (convert 22 9 (.slice (some ⟨w.heap.size, 0, none⟩) 1 1)).run Tryd.prog (w.alloc (Obj.cells #[Value.int .u8 (c.toNat : Int)] 5)) = .ok (.string (mkB [c])) (w.alloc (Obj.cells #[Value.int .u8 (c.toNat : Int)] 5)) := by
  have h : BytesAt (w.alloc (Obj.cells #[Value.int .u8 (c.toNat : Int)] 5)) (.slice (some ⟨w.heap.size, 0, none⟩) 1 1) [(c.toNat : Int)] := by
    refine ⟨_, 1, rfl, fun z hz => ?_, by simp; unfold maxLen; omega, fun h => by (cases h), fun _ => ⟨w.heap.size, 0, rfl, by simp, fun k hk => ?_⟩⟩
    · simp only [List.mem_singleton] at hz
      have := c.toNat_lt
      omega
    · obtain rfl : k = 0 := by simpa using hk
      simp
  have hc := conv_bytes _ _ _ h
  have e : ofBytes [(c.toNat : Int)] = mkB [c] := by
    rw [← mk_back (ofBytes _), ofB_list]
    simp
  rw [e] at hc
  exact hc
end Go.Proofs.YtpminhgkacgplabDoor
