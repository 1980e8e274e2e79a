/- What the statements' walks need: masks, a row of bools, lists of numbers that grow. -/
import Derived.Test.YtfnfhabepadikaaKB4
namespace Go.Proofs.Ytfnfhabepadikaa
open Go Go.RowKit
set_option maxRecDepth 100000

theorem and_low (x : Int) (m : Nat) (hm : m < 4611686018427387904) : 0 ≤ bits .and .i64 x (m : Int) ∧ bits .and .i64 x (m : Int) ≤ (m : Int) := by
  have h1 : bits .and .i64 x (m : Int) = IntKind.i64.wrap (((BitVec.ofInt 64 x &&& BitVec.ofInt 64 (m : Int)).toNat : Nat) : Int) := rfl
  have h2 : (BitVec.ofInt 64 x &&& BitVec.ofInt 64 (m : Int)).toNat ≤ m := by
    rw [BitVec.toNat_and]
    refine Nat.le_trans Nat.and_le_right ?_
    rw [BitVec.toNat_ofInt]
    have : ((m : Int) % (2 ^ 64 : Nat)).toNat = m := by omega
    omega
  generalize (BitVec.ofInt 64 x &&& BitVec.ofInt 64 (m : Int)).toNat = z at h1 h2
  have h3 : IntKind.i64.wrap (z : Int) = z := by
    have h4 : (z : Int) % (2 ^ 64 : Int) = z := by omega
    simp only [IntKind.wrap, IntKind.bits, IntKind.signed, h4]
    rw [if_neg (by simp; omega)]
  rw [h1, h3]; omega
theorem and_of (x m : Int) (h0 : 0 ≤ m) (hm : m < 4611686018427387904) : ∃ f : Int, bits .and .i64 x m = f ∧ 0 ≤ f ∧ f ≤ m := by
  obtain ⟨n, rfl⟩ := Int.eq_ofNat_of_zero_le h0
  exact ⟨_, rfl, and_low x n (by omega)⟩
theorem and_rem (x m k : Int) (h0 : 0 ≤ m) (hm : m < 4611686018427387904) (hk : 0 < k) : ∃ f g : Int, bits .and .i64 x m = f ∧ 0 ≤ f ∧ f ≤ m ∧ f.tmod k = g ∧ 0 ≤ g ∧ g < k := by
  obtain ⟨f, h1, h2, h3⟩ := and_of x m h0 hm
  exact ⟨f, _, h1, h2, h3, rfl, Int.tmod_nonneg _ h2, Int.tmod_lt_of_pos _ hk⟩
theorem up_quo (n : Int) (h0 : 0 ≤ n) : (n + 15).tdiv 16 * 16 = upZ n := by
  unfold upZ; rw [Int.tdiv_eq_ediv_of_nonneg (by omega)]
theorem kept_new {base : Nat} (W : World) (n : Nat) (hn : W.heap.size = n) (hb : base ≤ W.heap.size) : Kept base (W.alloc (.cells #[] 3)) (.slice (some ⟨n, 0, none⟩) 0 0) [] := by
  subst hn
  exact ⟨⟨by simp, Or.inr ⟨_, 0, #[], rfl, hb, heap_alloc_new _ _, Nat.le_refl _, by simp, by simp, by simp⟩⟩⟩
theorem kept_append_none {base : Nat} {w : World} {v : Value} {ks : List Int} (h : Kept base w v ks) (ty : TypeId) : (Builtin.append_ #[30, 30] ty #[v, .slice none 0 0]).run Try.prog w = .ok v w := by
  obtain ⟨i0, hi, hz0, hz1, hz2⟩ := info_parts3 Try.infoInt
  exact run_append_owned_none (P := Try.prog) (w := w) base 30 ty 3 i0 1 Try.underlying30 hi v ks.length _ h.row
theorem Kept.part {base : Nat} {w : World} {v : Value} {ks : List Int} (h : Kept base w v ks) : (v = .slice none 0 0 ∧ ks = []) ∨ ∃ g cap, v = .slice (some ⟨g, 0, none⟩) ks.length cap ∧ base ≤ g ∧ g < w.heap.size ∧ ∀ k, k < ks.length → w.cell? ⟨g, k, none⟩ = some (.int .i64 (ks.getD k 0)) := by
  rcases h.row.2 with ⟨rfl, h0⟩ | ⟨g', cap', cur, rfl, h1, hh, h2, h3, h4, h5⟩
  · exact Or.inl ⟨rfl, List.length_eq_zero_iff.1 h0⟩
  · refine Or.inr ⟨g', cap', rfl, h1, ?_, fun k hk => ?_⟩
    · rcases Nat.lt_or_ge g' w.heap.size with h | h
      · exact h
      · rw [Array.getElem?_eq_none h] at hh; cases hh
    · have hc := h.row.cellAt k (by omega)
      rw [hc]
      simp [List.getD, hk, encZ]
/-- A list of one's own behind another. -/
theorem kept_more {base base' : Nat} {w : World} {v u : Value} {ks ys : List Int} (h : Kept base w v ks) (hu : Kept base' w u ys) (hn : ks.length + ys.length ≤ 1000000) (hbase : base ≤ w.heap.size) (ty : TypeId) :
    ∃ v' w', (Builtin.append_ #[30, 30] ty #[v, u]).run Try.prog w = .ok v' w' ∧ Kept base w' v' (ks ++ ys) ∧ Below base w w' := by
  rcases hu.part with ⟨rfl, rfl⟩ | ⟨g, cap, rfl, -, -, hc⟩
  · exact ⟨v, w, kept_append_none h ty, by rw [List.append_nil]; exact h, Below.refl _ _⟩
  · obtain ⟨v', w', h1, h2, h3, -⟩ := kept_append h ⟨g, 0, none⟩ ys.length cap ys rfl (fun j hj => by rw [Go.WideShapes.add_plain, Nat.zero_add]; exact hc j hj) hn hbase ty
    exact ⟨v', w', h1, h2, h3⟩
/-- One number behind a list of one's own. -/
theorem Kept.push {base : Nat} {w : World} {v : Value} {ks : List Int} (h : Kept base w v ks) (z : Int) (hn : ks.length < 1000000) (hbase : base ≤ w.heap.size) :
    ∃ v' w', (Builtin.append_ #[30, 30] 30 #[v, .slice (some ⟨w.heap.size, 0, none⟩) 1 1]).run Try.prog (w.alloc (.cells #[.int .i64 z] 3)) = .ok v' w' ∧ Kept base w' v' (ks ++ [z]) ∧ Below base w w' ∧ ∀ b, b < w.heap.size → some b ≠ v.ownBlock → w'.heap[b]? = w.heap[b]? := by
  obtain ⟨v', w', q1, q2, q3, q4⟩ := kept_append (h.below (box_new w (.cells #[.int .i64 z] 3))) ⟨w.heap.size, 0, none⟩ 1 1 [z] rfl (fun j hj => by
    obtain rfl : j = 0 := by omega
    simp [Addr.add]) (by omega) (by simp; omega) 30
  exact ⟨v', w', q1, q2, ((box_new w _).mono hbase).trans q3, fun b hb hne => (q4 b (by simp; omega) hne).trans ((box_new w _).block b hb)⟩
/-- One range behind a list of one's own. -/
theorem RgOwn.push0 {base : Nat} {w : World} {v : Value} {L : List Rg} (h : RgOwn base w v L) (hb : base ≤ w.heap.size) (hn : L.length < 1000000) (x y : Int) :
    ∃ v' w', (Builtin.append_ #[22, 22] 22 #[v, .slice (some ⟨w.heap.size, 0, none⟩) 1 1]).run Try.prog (w.alloc (Obj.cells #[Value.int .i64 x, Value.int .i64 y] 25)) = .ok v' w' ∧ RgOwn base w' v' (L ++ [(x, y)]) ∧ Below base w w' ∧ ∀ b, b < w.heap.size → some b ≠ v.ownBlock → w'.heap[b]? = w.heap[b]? := by
  obtain ⟨v', w', h1, h2, h3, h4, h5⟩ := h.push1 (Below.refl _ _) hb hn x y
  exact ⟨v', w', h1, h2, h3, h5⟩
end Go.Proofs.Ytfnfhabepadikaa
