/- Layer 10's own listing: names laid in where they belong are names sorted; append of texts. -/
import Derived.Test.YtdkpffpjbpfdnaaGreatDoorDx0z
import Derived.Test.YtdkpffpjbpfdnaaGreatDoorGDf
import Derived.Test.YtdkpffpjbpfdnaaGreatDoorDb0z
import Derived.Test.YtdkpffpjbpfdnaaGreatDoorGIa
namespace Go.Proofs.YtdkpffpjbpfdnaaGreatDoor
open Go.RowKit Go.Extern.Stop Go.Stop Go.Extern Go.Maps Go.Sort Go.Shelf
set_option maxRecDepth 100000

def insS (x : List UInt8) (l : List (List UInt8)) : List (List UInt8) := l.takeWhile (fun y => decide (y < x)) ++ x :: l.dropWhile (fun y => decide (y < x))
def listS (l : List (List UInt8)) : List (List UInt8) := l.foldl (fun a x => insS x a) []
theorem listS_snoc (l : List (List UInt8)) (x : List UInt8) : listS (l ++ [x]) = insS x (listS l) := by simp [listS]
theorem insS_perm (x : List UInt8) (l : List (List UInt8)) : (insS x l).Perm (x :: l) := by
  unfold insS
  refine List.perm_middle.trans ?_
  rw [List.takeWhile_append_dropWhile]
theorem listS_perm (l : List (List UInt8)) : (listS l).Perm l := by
  unfold listS
  have key : ∀ (l a : List (List UInt8)), (l.foldl (fun a x => insS x a) a).Perm (a ++ l) := by
    intro l
    induction l with
    | nil => intro a; simp
    | cons x r ih =>
      intro a
      refine (ih (insS x a)).trans ?_
      refine (List.Perm.append_right r (insS_perm x a)).trans ?_
      exact (List.perm_middle (l₁ := a) (l₂ := r) (a := x)).symm
  simpa using key l []
theorem le_tot (a b : List UInt8) : a ≤ b ∨ b ≤ a := List.le_total a b
theorem le_tr {a b c : List UInt8} (h : a ≤ b) (h' : b ≤ c) : a ≤ c := List.le_trans h h'
theorem le_an {a b : List UInt8} (h : a ≤ b) (h' : b ≤ a) : a = b := List.le_antisymm h h'
theorem lt_le {a b : List UInt8} (h : a < b) : a ≤ b := List.le_of_lt h
theorem nlt_le {a b : List UInt8} (h : ¬ a < b) : b ≤ a := List.not_lt.1 h
theorem insS_up (x : List UInt8) : ∀ (l : List (List UInt8)), l.Pairwise (· ≤ ·) → (insS x l).Pairwise (· ≤ ·)
  | [], _ => by simp [insS]
  | y :: r, h => by
    obtain ⟨h1, h2⟩ := List.pairwise_cons.1 h
    by_cases hy : y < x
    · have e : insS x (y :: r) = y :: insS x r := by simp [insS, hy]
      rw [e]
      refine List.pairwise_cons.2 ⟨fun z hz => ?_, insS_up x r h2⟩
      rcases List.mem_cons.1 ((insS_perm x r).mem_iff.1 hz) with rfl | hz
      · exact lt_le hy
      · exact h1 z hz
    · have e : insS x (y :: r) = x :: y :: r := by simp [insS, hy]
      rw [e]
      refine List.pairwise_cons.2 ⟨fun z hz => ?_, h⟩
      rcases List.mem_cons.1 hz with rfl | hz
      · exact nlt_le hy
      · exact le_tr (nlt_le hy) (h1 z hz)
theorem listS_up (l : List (List UInt8)) : (listS l).Pairwise (· ≤ ·) := by
  unfold listS
  have key : ∀ (l a : List (List UInt8)), a.Pairwise (· ≤ ·) → (l.foldl (fun a x => insS x a) a).Pairwise (· ≤ ·) := by
    intro l
    induction l with
    | nil => intro a h; exact h
    | cons x r ih => intro a h; exact ih _ (insS_up x a h)
  exact key l [] List.Pairwise.nil
theorem sortS_up (l : List (List UInt8)) : (sortS l).Pairwise (· ≤ ·) := by
  have := List.pairwise_mergeSort (le := fun x y : List UInt8 => decide (x ≤ y)) (fun a b c h1 h2 => by simp at *; exact le_tr h1 h2) (fun a b => by simp; exact le_tot a b) l
  exact this.imp (fun h => by simpa using h)
theorem sortS_perm (l : List (List UInt8)) : (sortS l).Perm l := List.mergeSort_perm _ _
theorem listS_sort (l : List (List UInt8)) : listS l = sortS l :=
  List.Perm.eq_of_pairwise (le := (· ≤ ·)) (fun _ _ _ _ h1 h2 => le_an h1 h2) (listS_up l) (sortS_up l) ((listS_perm l).trans (sortS_perm l).symm)
theorem listS_len (l : List (List UInt8)) : (listS l).length = l.length := (listS_perm l).length_eq
theorem ins_at (x : List UInt8) : ∀ (l : List (List UInt8)) (k : Nat), k ≤ l.length → (∀ j y, j < k → l[j]? = some y → y < x) → (∀ y, l[k]? = some y → ¬ y < x) → insS x l = l.take k ++ x :: l.drop k
  | [], k, h, _, _ => by
    obtain rfl : k = 0 := by simpa using h
    simp [insS]
  | y :: r, 0, _, _, h2 => by
    have hy := h2 y rfl
    simp [insS, hy]
  | y :: r, k + 1, h, h1, h2 => by
    have hy : y < x := h1 0 y (by omega) rfl
    have ih := ins_at x r k (by simpa using h) (fun j z hj hz => h1 (j + 1) z (by omega) (by simpa using hz)) (fun z hz => h2 z (by simpa using hz))
    have e : insS x (y :: r) = y :: insS x r := by simp [insS, hy]
    rw [e, ih]
    simp
theorem wp_last {P : Program} {c : Code} {Q : Exit → Act → World → Prop} {a : Act} {w : World} (h : Code.wp P c (Exit.then (fun a w => Q .normal a w) Q) a w) : Code.wp P c Q a w := wp_mono h (fun e a w h => by cases e <;> exact h)
theorem keptT_new {base : Nat} (w : World) (n : Nat) (hn : w.heap.size = n) (hb : base ≤ w.heap.size) : KeptT base (w.alloc (.cells #[] 9)) (.slice (some ⟨n, 0, none⟩) 0 0) [] := by
  subst hn
  exact ⟨⟨by simp, Or.inr ⟨_, 0, #[], rfl, hb, heap_alloc_new _ _, Nat.le_refl _, by simp, by simp, by simp⟩⟩⟩
theorem one_text (w : World) (x : Value) (n : Nat) (hn : w.heap.size = n) : (w.alloc (.cells #[x] 9)).cell? ⟨n, 0, none⟩ = some x := by subst hn; simp
theorem keptT_appends {base : Nat} {w : World} {v : Value} {l : List (List UInt8)} (h : KeptT base w v l) (a : Addr) (m c : Nat) (ys : List (List UInt8)) (hm : ys.length = m) (hc : ∀ j y, ys[j]? = some y → w.cell? (a.add j) = some (.string (mkB y))) (hn : l.length + m ≤ 1000) (hbase : base ≤ w.heap.size) (ty : TypeId) :
    ∃ v' w', (Builtin.append_ #[68, 68] ty #[v, .slice (some a) m c]).run Tryz.prog w = .ok v' w' ∧ KeptT base w' v' (l ++ ys) ∧ Below base w w' ∧ ∀ b, b < w.heap.size → some b ≠ v.ownBlock → w'.heap[b]? = w.heap[b]? := by
  obtain ⟨i0, hi, hz0, hz1, hz2⟩ := info_parts3 Tryz.infoStr
  obtain ⟨v', w', hrun, hown, hgrow, -⟩ := run_append_own (P := Tryz.prog) w base 68 ty 9 i0 (.string ⟨#[]⟩) 1 16 Tryz.underlying68 hi hz0 hz1 hz2 (by simp [Value.cells]) (by decide)
    v l.length _ h.row a m c (ys.map encT) (by simp [hm]) (fun j u hu => by
      rw [List.getElem?_map] at hu
      cases hy : ys[j]? with
      | none => rw [hy] at hu; cases hu
      | some y => rw [hy] at hu; cases hu; exact hc j y hy) (by intro u hu; obtain ⟨y, -, rfl⟩ := List.mem_map.1 hu; rfl) (by unfold maxLen; omega) (by omega) hbase
  refine ⟨v', w', hrun, ⟨?_⟩, (Below.refl base w).grown hgrow hbase (fun k hk => (h.row.lt k hk).1), fun b hb hne => hgrow.block b hb hne⟩
  rw [List.length_append, List.map_append, hm]
  exact hown
theorem keptT_append_none {base : Nat} {w : World} {v : Value} {l : List (List UInt8)} (h : KeptT base w v l) (ty : TypeId) : (Builtin.append_ #[68, 68] ty #[v, .slice none 0 0]).run Tryz.prog w = .ok v w := by
  obtain ⟨i0, hi, hz0, hz1, hz2⟩ := info_parts3 Tryz.infoStr
  exact run_append_owned_none (P := Tryz.prog) (w := w) base 68 ty 9 i0 1 Tryz.underlying68 hi v l.length _ h.row
end Go.Proofs.YtdkpffpjbpfdnaaGreatDoor
