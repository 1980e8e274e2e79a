/- Layer 10's own find. -/
import Derived.Test.YtlphgkaojfpepaaGreatDoorGDa
import Derived.Test.YtlphgkaojfpepaaGreatDoorGDf
import Derived.Test.YtlphgkaojfpepaaGreatDoorDb0z
import Derived.Test.YtlphgkaojfpepaaGreatDoorGIa
import Derived.Deep.CutBlock
import Derived.BigQuiet
namespace Go.Proofs.YtlphgkaojfpepaaGreatDoor
open Go.RowKit Go.Extern.Stop Go.Stop Go.Extern
set_option maxRecDepth 100000

set_option maxHeartbeats 1000000 in
theorem lfind_calls {w : World} {v : Value} {L : List Rec} (h : RecsAt w v L) (hl : L.length ≤ 1000) (y : List UInt8) :
    Calls Tryz.prog 9 #[v, .string (mkB y)] w fun e w' => ∃ x, e = .returned (.int .i64 x) ∧ Pl L y x ∧ w' = w := by
  obtain ⟨a, cap, rfl, hcs⟩ := h
  replace hcs := hidden hcs
  go_enter Tryz.func9, Tryz.ntmps9
  go_wp2_with fail
  go_loopg [5] (L.length + 1) (fun gk q wr => ∃ j : Nat, j ≤ L.length ∧ gk = L.length + 1 - j ∧ q = .int .i64 j ∧ Hid ((∀ i r, i < j → L[i]? = some r → r.s ≠ y) ∧ wr = w))
  case atStart => exact ⟨0, by omega, rfl, rfl, hidden ⟨fun i r hi => by omega, rfl⟩⟩
  case round =>
    obtain ⟨j, hj, hgk, rfl, hI⟩ := hrel
    replace hgk := hidden hgk
    obtain rfl := hI.out.2
    by_cases hlt : j < L.length
    · obtain ⟨b, off, rfl, hb, hk⟩ := hcs.out (by rintro rfl; simp at hlt)
      obtain ⟨r, hr⟩ : ∃ r, L[j]? = some r := ⟨_, List.getElem?_eq_getElem hlt⟩
      obtain ⟨c0, c1⟩ := hk j r hr
      have hq := mk_beq r.s y
      replace hr := hidden hr
      clear hk c1
      by_cases e : r.s = y
      · rw [decide_eq_true e] at hq
        replace e := hidden e
        go_wp2
        go_ret
        exact ⟨_, rfl, Or.inl ⟨j, r, rfl, hr.out, e.out⟩, rfl⟩
      · rw [decide_eq_false e] at hq
        replace e := hidden e
        go_wp2
        go_roundg (L.length + 1 - (j + 1))
        case measure => rw [hgk.out]; omega
        case rel =>
          refine ⟨j + 1, hlt, rfl, by go_num, hidden ⟨fun i q hi hq => ?_, rfl⟩⟩
          by_cases e1 : i = j
          · subst e1; rw [hr.out] at hq; cases hq; exact e.out
          · exact hI.out.1 i q (by omega) hq
    · obtain rfl : j = L.length := by omega
      go_wp2
      go_ret
      refine ⟨_, rfl, Or.inr ⟨rfl, fun r hr => ?_⟩, rfl⟩
      obtain ⟨i, hi⟩ := List.getElem?_of_mem hr
      exact hI.out.1 i r (List.getElem?_eq_some_iff.1 hi).1 hi
end Go.Proofs.YtlphgkaojfpepaaGreatDoor
/- Layer 10's own listing: names laid in where they belong are names sorted; append of texts. -/
namespace Go.Proofs.YtlphgkaojfpepaaGreatDoor
open Go.RowKit Go.Extern.Stop Go.Stop Go.Extern Go.Maps Go.Sort Go.Shelf
set_option maxRecDepth 100000

def insS (x : List UInt8) (l : List (List UInt8)) : List (List UInt8) := l.takeWhile (fun y => decide (y < x)) ++ x :: l.dropWhile (fun y => decide (y < x))
def listS (l : List (List UInt8)) : List (List UInt8) := l.foldl (fun a x => insS x a) []
theorem listS_snoc (l : List (List UInt8)) (x : List UInt8) : listS (l ++ [x]) = insS x (listS l) := by simp [listS]
theorem insS_perm (x : List UInt8) (l : List (List UInt8)) : (insS x l).Perm (x :: l) := by
  unfold insS
  refine List.perm_middle.trans ?_
  rw [List.takeWhile_append_dropWhile]
theorem listS_perm (l : List (List UInt8)) : (listS l).Perm l := by
  unfold listS
  have key : ∀ (l a : List (List UInt8)), (l.foldl (fun a x => insS x a) a).Perm (a ++ l) := by
    intro l
    induction l with
    | nil => intro a; simp
    | cons x r ih =>
      intro a
      refine (ih (insS x a)).trans ?_
      refine (List.Perm.append_right r (insS_perm x a)).trans ?_
      exact (List.perm_middle (l₁ := a) (l₂ := r) (a := x)).symm
  simpa using key l []
theorem le_tot (a b : List UInt8) : a ≤ b ∨ b ≤ a := List.le_total a b
theorem le_tr {a b c : List UInt8} (h : a ≤ b) (h' : b ≤ c) : a ≤ c := List.le_trans h h'
theorem le_an {a b : List UInt8} (h : a ≤ b) (h' : b ≤ a) : a = b := List.le_antisymm h h'
theorem lt_le {a b : List UInt8} (h : a < b) : a ≤ b := List.le_of_lt h
theorem nlt_le {a b : List UInt8} (h : ¬ a < b) : b ≤ a := List.not_lt.1 h
theorem insS_up (x : List UInt8) : ∀ (l : List (List UInt8)), l.Pairwise (· ≤ ·) → (insS x l).Pairwise (· ≤ ·)
  | [], _ => by simp [insS]
  | y :: r, h => by
    obtain ⟨h1, h2⟩ := List.pairwise_cons.1 h
    by_cases hy : y < x
    · have e : insS x (y :: r) = y :: insS x r := by simp [insS, hy]
      rw [e]
      refine List.pairwise_cons.2 ⟨fun z hz => ?_, insS_up x r h2⟩
      rcases List.mem_cons.1 ((insS_perm x r).mem_iff.1 hz) with rfl | hz
      · exact lt_le hy
      · exact h1 z hz
    · have e : insS x (y :: r) = x :: y :: r := by simp [insS, hy]
      rw [e]
      refine List.pairwise_cons.2 ⟨fun z hz => ?_, h⟩
      rcases List.mem_cons.1 hz with rfl | hz
      · exact nlt_le hy
      · exact le_tr (nlt_le hy) (h1 z hz)
theorem listS_up (l : List (List UInt8)) : (listS l).Pairwise (· ≤ ·) := by
  unfold listS
  have key : ∀ (l a : List (List UInt8)), a.Pairwise (· ≤ ·) → (l.foldl (fun a x => insS x a) a).Pairwise (· ≤ ·) := by
    intro l
    induction l with
    | nil => intro a h; exact h
    | cons x r ih => intro a h; exact ih _ (insS_up x a h)
  exact key l [] List.Pairwise.nil
theorem sortS_up (l : List (List UInt8)) : (sortS l).Pairwise (· ≤ ·) := by
  have := List.pairwise_mergeSort (le := fun x y : List UInt8 => decide (x ≤ y)) (fun a b c h1 h2 => by simp at *; exact le_tr h1 h2) (fun a b => by simp; exact le_tot a b) l
  exact this.imp (fun h => by simpa using h)
theorem sortS_perm (l : List (List UInt8)) : (sortS l).Perm l := List.mergeSort_perm _ _
theorem listS_sort (l : List (List UInt8)) : listS l = sortS l :=
  List.Perm.eq_of_pairwise (le := (· ≤ ·)) (fun _ _ _ _ h1 h2 => le_an h1 h2) (listS_up l) (sortS_up l) ((listS_perm l).trans (sortS_perm l).symm)
theorem listS_len (l : List (List UInt8)) : (listS l).length = l.length := (listS_perm l).length_eq
theorem ins_at (x : List UInt8) : ∀ (l : List (List UInt8)) (k : Nat), k ≤ l.length → (∀ j y, j < k → l[j]? = some y → y < x) → (∀ y, l[k]? = some y → ¬ y < x) → insS x l = l.take k ++ x :: l.drop k
  | [], k, h, _, _ => by
    obtain rfl : k = 0 := by simpa using h
    simp [insS]
  | y :: r, 0, _, _, h2 => by
    have hy := h2 y rfl
    simp [insS, hy]
  | y :: r, k + 1, h, h1, h2 => by
    have hy : y < x := h1 0 y (by omega) rfl
    have ih := ins_at x r k (by simpa using h) (fun j z hj hz => h1 (j + 1) z (by omega) (by simpa using hz)) (fun z hz => h2 z (by simpa using hz))
    have e : insS x (y :: r) = y :: insS x r := by simp [insS, hy]
    rw [e, ih]
    simp
theorem wp_last {P : Program} {c : Code} {Q : Exit → Act → World → Prop} {a : Act} {w : World} (h : Code.wp P c (Exit.then (fun a w => Q .normal a w) Q) a w) : Code.wp P c Q a w := wp_mono h (fun e a w h => by cases e <;> exact h)
theorem keptT_new {base : Nat} (w : World) (n : Nat) (hn : w.heap.size = n) (hb : base ≤ w.heap.size) : KeptT base (w.alloc (.cells #[] 9)) (.slice (some ⟨n, 0, none⟩) 0 0) [] := by
  subst hn
  exact ⟨⟨by simp, Or.inr ⟨_, 0, #[], rfl, hb, heap_alloc_new _ _, Nat.le_refl _, by simp, by simp, by simp⟩⟩⟩
theorem one_text (w : World) (x : Value) (n : Nat) (hn : w.heap.size = n) : (w.alloc (.cells #[x] 9)).cell? ⟨n, 0, none⟩ = some x := by subst hn; simp
theorem keptT_appends {base : Nat} {w : World} {v : Value} {l : List (List UInt8)} (h : KeptT base w v l) (a : Addr) (m c : Nat) (ys : List (List UInt8)) (hm : ys.length = m) (hc : ∀ j y, ys[j]? = some y → w.cell? (a.add j) = some (.string (mkB y))) (hn : l.length + m ≤ 1000) (hbase : base ≤ w.heap.size) (ty : TypeId) :
    ∃ v' w', (Builtin.append_ #[43, 43] ty #[v, .slice (some a) m c]).run Tryz.prog w = .ok v' w' ∧ KeptT base w' v' (l ++ ys) ∧ Below base w w' ∧ ∀ b, b < w.heap.size → some b ≠ v.ownBlock → w'.heap[b]? = w.heap[b]? := by
  obtain ⟨i0, hi, hz0, hz1, hz2⟩ := info_parts3 Tryz.infoStr
  obtain ⟨v', w', hrun, hown, hgrow, -⟩ := run_append_own (P := Tryz.prog) w base 43 ty 9 i0 (.string ⟨#[]⟩) 1 16 Tryz.underlying43 hi hz0 hz1 hz2 (by simp [Value.cells]) (by decide)
    v l.length _ h.row a m c (ys.map encT) (by simp [hm]) (fun j u hu => by
      rw [List.getElem?_map] at hu
      cases hy : ys[j]? with
      | none => rw [hy] at hu; cases hu
      | some y => rw [hy] at hu; cases hu; exact hc j y hy) (by intro u hu; obtain ⟨y, -, rfl⟩ := List.mem_map.1 hu; rfl) (by unfold maxLen; omega) (by omega) hbase
  refine ⟨v', w', hrun, ⟨?_⟩, (Below.refl base w).grown hgrow hbase (fun k hk => (h.row.lt k hk).1), fun b hb hne => hgrow.block b hb hne⟩
  rw [List.length_append, List.map_append, hm]
  exact hown
theorem keptT_append_none {base : Nat} {w : World} {v : Value} {l : List (List UInt8)} (h : KeptT base w v l) (ty : TypeId) : (Builtin.append_ #[43, 43] ty #[v, .slice none 0 0]).run Tryz.prog w = .ok v w := by
  obtain ⟨i0, hi, hz0, hz1, hz2⟩ := info_parts3 Tryz.infoStr
  exact run_append_owned_none (P := Tryz.prog) (w := w) base 43 ty 9 i0 1 Tryz.underlying43 hi v l.length _ h.row
end Go.Proofs.YtlphgkaojfpepaaGreatDoor
/- listed: a name laid in. -/
namespace Go.Proofs.YtlphgkaojfpepaaGreatDoor
open Go.RowKit Go.Extern.Stop Go.Stop Go.Extern Go.Maps Go.Sort Go.Shelf
set_option maxRecDepth 1000000

set_option maxHeartbeats 8000000 in
theorem ls_insert (rb off LL lc i k : Nat) (nms : List UInt8) (a : Option Addr) (cap base : Nat) (ks : List (List UInt8)) (w5 : World) (hV : Hid (KeptT base w5 (.slice a ks.length cap) ks)) (hks : ks.length ≤ 900) (hk : k ≤ ks.length) (hbs : base ≤ w5.heap.size) (hi : (i : Int) < (LL : Int)) (hc : Hid (w5.cell? ⟨rb, off + i * 2, none⟩ = some (.string (mkB nms))))
    (x1 x2 x6 x7 x8 x9 x10 x11 x12 x13 x14 x15 x16 x17 x18 x19 x20 x21 x22 x23 x24 x25 x26 x27 x28 x29 x30 x31 x32 x33 x34 x35 x36 x37 x38 x39 x40 x41 x42 x43 x44 x45 x46 : Value) (KK : Act → World → Prop) (Q : Exit → Act → World → Prop)
    (hKK : Hid (∀ (v30 v31 v32 v33 v34 v35 v36 v37 v38 v39 v40 v41 v42 v43 v44 v45 : Value) (v' : Value) (w' : World), KeptT base w' v' (ks.take k ++ nms :: ks.drop k) ∧ Below w5.heap.size w5 w' → KK ⟨#[.slice (some ⟨rb, off, none⟩) LL lc, x1, x2, v', .int .i64 (i : Int), .int .i64 (k : Int), x6, x7, x8, x9, x10, x11, x12, x13, x14, x15, x16, x17, x18, x19, x20, x21, x22, x23, x24, x25, x26, x27, x28, x29, v30, v31, v32, v33, v34, v35, v36, v37, v38, v39, v40, v41, v42, v43, v44, v45, x46], []⟩ w'))
    (hQp : Hid (∀ x a a' w, Q (.panic x) a w → a.defers = a'.defers → Q (.panic x) a' w)) :
    Code.wp Tryz.prog (((Tryz.f20.body.bind (regionAt 8)).getD .skip)) (Exit.then KK Q) ⟨#[.slice (some ⟨rb, off, none⟩) LL lc, x1, x2, .slice a ks.length cap, .int .i64 (i : Int), .int .i64 (k : Int), x6, x7, x8, x9, x10, x11, x12, x13, x14, x15, x16, x17, x18, x19, x20, x21, x22, x23, x24, x25, x26, x27, x28, x29, x30, x31, x32, x33, x34, x35, x36, x37, x38, x39, x40, x41, x42, x43, x44, x45, x46], []⟩ w5 := by
  have hu := hQp
  clear hu
  conv => arg 2; whnf
  try dsimp only
  have hu2 := And.intro hks (And.intro hk hbs)
  clear hu2
  have hS0 : Below w5.heap.size w5 w5.drew := (Below.refl _ _).drew
  have k1 := hidden (fun wx (hx : Below w5.heap.size w5 wx) => (hx.cell (p := ⟨rb, off + i * 2, none⟩) (lt_of_cell hc.out)).trans hc.out)
  obtain ⟨nm, hnm⟩ : ∃ nm, mkB nms = nm := ⟨_, rfl⟩
  rw [hnm] at k1
  replace hnm := hidden hnm
  rcases hV.out.row.2 with ⟨hv, h0⟩ | ⟨gb, cap', cur, hv, h1, hh, h2, h3, h4, h5⟩
  · obtain ⟨rfl, -, rfl⟩ := Value.slice.inj hv
    have hk0 : ks = [] := List.length_eq_zero_iff.1 h0
    subst hk0
    obtain rfl : k = 0 := by simpa using hk
    clear hV hv h0 hc
    refine wp_region_held_drew (S := fun w' => Below w5.heap.size w5 w') (by kernel_rfl) hS0 ?_
    intro _
    refine wpAnyH_take (i := 1) (v := ?_) rfl (by kernel_rfl) (by kernel_rfl) (by kernel_rfl) (fun _ _ _ h => hQp.out _ _ _ _ h rfl) (Or.inl ⟨by rfl, ?_⟩) hS0 ?_
    rotate_left
    · intro w hw; clear hw; go_simp; try (with_reducible rfl)
    refine wpAnyH_take (i := 2) (v := ?_) rfl (by kernel_rfl) (by kernel_rfl) (by kernel_rfl) (fun _ _ _ h => hQp.out _ _ _ _ h rfl) (Or.inl ⟨by rfl, ?_⟩) hS0 ?_
    rotate_left
    · intro w hw; clear hw; go_simp; try (with_reducible rfl)
    refine wpAnyH_take (i := 3) (v := ?_) rfl (by kernel_rfl) (by kernel_rfl) (by kernel_rfl) (fun _ _ _ h => hQp.out _ _ _ _ h rfl) (Or.inl ⟨by rfl, ?_⟩) hS0 ?_
    rotate_left
    · intro w hw; clear hw; go_simp; try (with_reducible rfl)
    refine wpAnyH_take (i := 5) (v := ?_) rfl (by kernel_rfl) (by kernel_rfl) (by kernel_rfl) (fun _ _ _ h => hQp.out _ _ _ _ h rfl) (Or.inl ⟨by rfl, ?_⟩) hS0 ?_
    rotate_left
    · intro w hw; clear hw; go_simp; try (with_reducible rfl)
    refine wpAnyH_take (i := 6) (v := ?_) rfl (by kernel_rfl) (by kernel_rfl) (by kernel_rfl) (fun _ _ _ h => hQp.out _ _ _ _ h rfl) (Or.inl ⟨by rfl, ?_⟩) hS0 ?_
    rotate_left
    · intro w hw; clear hw; go_simp; try (with_reducible rfl)
    refine wpAnyH_take (i := 7) (v := ?_) rfl (by kernel_rfl) (by kernel_rfl) (by kernel_rfl) (fun _ _ _ h => hQp.out _ _ _ _ h rfl) (Or.inl ⟨by rfl, ?_⟩) hS0 ?_
    rotate_left
    · intro w hw; clear hw; go_simp; try (with_reducible rfl)
    refine wpAnyH_take (i := 8) (v := ?_) rfl (by kernel_rfl) (by kernel_rfl) (by kernel_rfl) (fun _ _ _ h => hQp.out _ _ _ _ h rfl) (Or.inl ⟨by rfl, ?_⟩) hS0 ?_
    rotate_left
    · intro w hw; clear hw; go_simp; try (with_reducible rfl)
    refine wpAnyH_take (i := 9) (v := ?_) rfl (by kernel_rfl) (by kernel_rfl) (by kernel_rfl) (fun _ _ _ h => hQp.out _ _ _ _ h rfl) (Or.inl ⟨by rfl, ?_⟩) hS0 ?_
    rotate_left
    · intro w hw; have c1 := k1.out _ hw; clear hw; go_simp; try (with_reducible rfl)
    refine wpAnyH_take (i := 12) (v := ?_) rfl (by kernel_rfl) (by kernel_rfl) (by kernel_rfl) (fun _ _ _ h => hQp.out _ _ _ _ h rfl) (Or.inl ⟨by rfl, ?_⟩) hS0 ?_
    rotate_left
    · intro w hw; clear hw; go_simp; try (with_reducible rfl)
    refine wpAnyH_take (i := 13) (v := ?_) rfl (by kernel_rfl) (by kernel_rfl) (by kernel_rfl) (fun _ _ _ h => hQp.out _ _ _ _ h rfl) (Or.inl ⟨by rfl, ?_⟩) hS0 ?_
    rotate_left
    · intro w hw; clear hw; go_simp; try (with_reducible rfl)
    refine wpAnyH_take (i := 14) (v := ?_) rfl (by kernel_rfl) (by kernel_rfl) (by kernel_rfl) (fun _ _ _ h => hQp.out _ _ _ _ h rfl) (Or.inl ⟨by rfl, ?_⟩) hS0 ?_
    rotate_left
    · intro w hw; clear hw; go_simp; try (with_reducible rfl)
    refine wpAnyH_ready (rs := [0, 10]) (by kernel_rfl) (by simp) ?_
    refine AllReadyH.cons rfl (fun K hK => ?_) ?_
    · go_simp
      refine hK.out _ _ ((hS0).alloc (hS0).size _) (fun hSn1 => ?_)
      have hq0 := hidden (keptT_new (base := w5.heap.size) w5.drew (w5.heap.size) (by simp) (hS0).size)
      try (replace hz7 := hidden (((show Below (w5.drew).heap.size w5.drew ((w5.drew).alloc (.cells #[] 9)) from (Below.refl _ _).alloc (Nat.le_refl _) _).cell (p := ⟨_, 0, none⟩) (lt_of_cell (a := ⟨_, 0, none⟩) hz7.out)).trans hz7.out))
      clear hK K
      go_simp
      refine wpAnyH_ready (rs := [4, 10]) (by kernel_rfl) (by simp) ?_
      refine AllReadyH.cons rfl (fun K hK => ?_) ?_
      · have hr1 := keptT_append_none hq0.out 43
        refine any_append rfl rfl _ _ _ _ rfl rfl hr1 ?_
        refine hK.out _ _ (hSn1) (fun hSn2 => ?_)
        have hq1 := hidden hq0.out
        clear hK K
        refine wpAnyH_ready (rs := [10]) (by kernel_rfl) (by simp) ?_
        refine AllReadyH.cons rfl (fun K hK => ?_) AllReadyH.nil
        go_simp
        refine hK.out _ _ ((hSn2).alloc (hSn2).size _) (fun hSn3 => ?_)
        have hz7 := hidden (one_text ((w5.drew).alloc (.cells #[] 9)) (.string nm) (w5.heap.size + 1) (by simp))
        try (replace hq0 := hidden (hq0.out.below (w' := ((((w5.drew).alloc (.cells #[] 9))).alloc (.cells #[.string nm] 9))) ((Below.refl _ _).alloc (Nat.le_refl _) _)))
        try (replace hq1 := hidden (hq1.out.below (w' := ((((w5.drew).alloc (.cells #[] 9))).alloc (.cells #[.string nm] 9))) ((Below.refl _ _).alloc (Nat.le_refl _) _)))
        clear hK K
        go_simp
        refine wpAnyH_ready (rs := [11]) (by kernel_rfl) (by simp) ?_
        refine AllReadyH.cons rfl (fun K hK => ?_) AllReadyH.nil
        have hz8 : ∀ j y, [nms][j]? = some y → (((((w5.drew).alloc (.cells #[] 9))).alloc (.cells #[.string nm] 9))).cell? (Addr.add ⟨_, 0, none⟩ j) = some (.string (mkB y)) := fun j y hj => by
          match j, hj with
          | 0, hj => cases hj; rw [hnm.out]; exact hz7.out
          | n + 1, hj => cases hj
        obtain ⟨v2, w2, hr2, hq2, hb2, hkp2⟩ := keptT_appends hq1.out _ 1 1 [nms] rfl hz8 (by (try simp) <;> omega) (hSn3).size 43
        refine any_append rfl rfl _ _ _ _ rfl rfl hr2 ?_
        refine hK.out _ _ ((hSn3).trans hb2) (fun hSn4 => ?_)
        replace hq2 := hidden hq2
        clear hq1 hz7 hz8
        clear hK K
        go_simp
        refine wpAnyH_ready (rs := [15]) (by kernel_rfl) (by simp) ?_
        refine AllReadyH.cons rfl (fun K hK => ?_) AllReadyH.nil
        have hr3 := keptT_append_none hq2.out 43
        refine any_append rfl rfl _ _ _ _ rfl rfl hr3 ?_
        refine hK.out _ _ (hSn4) (fun hSn5 => ?_)
        have hq3 := hidden hq2.out
        clear hK K
        refine wpAnyH_ready (rs := [16]) (by kernel_rfl) (by simp) ?_
        refine AllReadyH.cons rfl (fun K hK => ?_) AllReadyH.nil
        go_simp
        refine hK.out _ _ hSn5 (fun _ => ?_)
        clear hK K
        refine wpAnyH_done (by kernel_rfl) ?_ _
        go_wp2_with fail
        exact hKK.out _ _ _ _ _ _ _ _ _ _ _ _ _ _ _ _ _ _ ⟨by have := hq3.out.mono hbs; simpa using this, hSn5⟩
      refine AllReadyH.cons rfl (fun K hK => ?_) ?_
      · go_simp
        refine hK.out _ _ ((hSn1).alloc (hSn1).size _) (fun hSn6 => ?_)
        have hz7 := hidden (one_text ((w5.drew).alloc (.cells #[] 9)) (.string nm) (w5.heap.size + 1) (by simp))
        try (replace hq0 := hidden (hq0.out.below (w' := ((((w5.drew).alloc (.cells #[] 9))).alloc (.cells #[.string nm] 9))) ((Below.refl _ _).alloc (Nat.le_refl _) _)))
        try (replace hq1 := hidden (hq1.out.below (w' := ((((w5.drew).alloc (.cells #[] 9))).alloc (.cells #[.string nm] 9))) ((Below.refl _ _).alloc (Nat.le_refl _) _)))
        clear hK K
        go_simp
        refine wpAnyH_ready (rs := [4]) (by kernel_rfl) (by simp) ?_
        refine AllReadyH.cons rfl (fun K hK => ?_) AllReadyH.nil
        have hr1 := keptT_append_none hq0.out 43
        refine any_append rfl rfl _ _ _ _ rfl rfl hr1 ?_
        refine hK.out _ _ (hSn6) (fun hSn7 => ?_)
        have hq1 := hidden hq0.out
        clear hK K
        go_simp
        refine wpAnyH_ready (rs := [11]) (by kernel_rfl) (by simp) ?_
        refine AllReadyH.cons rfl (fun K hK => ?_) AllReadyH.nil
        have hz8 : ∀ j y, [nms][j]? = some y → (((((w5.drew).alloc (.cells #[] 9))).alloc (.cells #[.string nm] 9))).cell? (Addr.add ⟨_, 0, none⟩ j) = some (.string (mkB y)) := fun j y hj => by
          match j, hj with
          | 0, hj => cases hj; rw [hnm.out]; exact hz7.out
          | n + 1, hj => cases hj
        obtain ⟨v2, w2, hr2, hq2, hb2, hkp2⟩ := keptT_appends hq1.out _ 1 1 [nms] rfl hz8 (by (try simp) <;> omega) (hSn7).size 43
        refine any_append rfl rfl _ _ _ _ rfl rfl hr2 ?_
        refine hK.out _ _ ((hSn7).trans hb2) (fun hSn8 => ?_)
        replace hq2 := hidden hq2
        clear hq1 hz7 hz8
        clear hK K
        go_simp
        refine wpAnyH_ready (rs := [15]) (by kernel_rfl) (by simp) ?_
        refine AllReadyH.cons rfl (fun K hK => ?_) AllReadyH.nil
        have hr3 := keptT_append_none hq2.out 43
        refine any_append rfl rfl _ _ _ _ rfl rfl hr3 ?_
        refine hK.out _ _ (hSn8) (fun hSn9 => ?_)
        have hq3 := hidden hq2.out
        clear hK K
        refine wpAnyH_ready (rs := [16]) (by kernel_rfl) (by simp) ?_
        refine AllReadyH.cons rfl (fun K hK => ?_) AllReadyH.nil
        go_simp
        refine hK.out _ _ hSn9 (fun _ => ?_)
        clear hK K
        refine wpAnyH_done (by kernel_rfl) ?_ _
        go_wp2_with fail
        exact hKK.out _ _ _ _ _ _ _ _ _ _ _ _ _ _ _ _ _ _ ⟨by have := hq3.out.mono hbs; simpa using this, hSn9⟩
      exact AllReadyH.nil
    refine AllReadyH.cons rfl (fun K hK => ?_) ?_
    · go_simp
      refine hK.out _ _ ((hS0).alloc (hS0).size _) (fun hSn10 => ?_)
      have hz7 := hidden (one_text w5.drew (.string nm) (w5.heap.size) (by simp))
      try (replace hq0 := hidden (hq0.out.below (w' := ((w5.drew).alloc (.cells #[.string nm] 9))) ((Below.refl _ _).alloc (Nat.le_refl _) _)))
      try (replace hq1 := hidden (hq1.out.below (w' := ((w5.drew).alloc (.cells #[.string nm] 9))) ((Below.refl _ _).alloc (Nat.le_refl _) _)))
      clear hK K
      refine wpAnyH_ready (rs := [0]) (by kernel_rfl) (by simp) ?_
      refine AllReadyH.cons rfl (fun K hK => ?_) AllReadyH.nil
      go_simp
      refine hK.out _ _ ((hSn10).alloc (hSn10).size _) (fun hSn11 => ?_)
      have hq0 := hidden (keptT_new (base := w5.heap.size) ((w5.drew).alloc (.cells #[.string nm] 9)) (w5.heap.size + 1) (by simp) (hSn10).size)
      try (replace hz7 := hidden (((show Below (((w5.drew).alloc (.cells #[.string nm] 9))).heap.size ((w5.drew).alloc (.cells #[.string nm] 9)) ((((w5.drew).alloc (.cells #[.string nm] 9))).alloc (.cells #[] 9)) from (Below.refl _ _).alloc (Nat.le_refl _) _).cell (p := ⟨_, 0, none⟩) (lt_of_cell (a := ⟨_, 0, none⟩) hz7.out)).trans hz7.out))
      clear hK K
      go_simp
      refine wpAnyH_ready (rs := [4]) (by kernel_rfl) (by simp) ?_
      refine AllReadyH.cons rfl (fun K hK => ?_) AllReadyH.nil
      have hr1 := keptT_append_none hq0.out 43
      refine any_append rfl rfl _ _ _ _ rfl rfl hr1 ?_
      refine hK.out _ _ (hSn11) (fun hSn12 => ?_)
      have hq1 := hidden hq0.out
      clear hK K
      go_simp
      refine wpAnyH_ready (rs := [11]) (by kernel_rfl) (by simp) ?_
      refine AllReadyH.cons rfl (fun K hK => ?_) AllReadyH.nil
      have hz8 : ∀ j y, [nms][j]? = some y → (((((w5.drew).alloc (.cells #[.string nm] 9))).alloc (.cells #[] 9))).cell? (Addr.add ⟨_, 0, none⟩ j) = some (.string (mkB y)) := fun j y hj => by
        match j, hj with
        | 0, hj => cases hj; rw [hnm.out]; exact hz7.out
        | n + 1, hj => cases hj
      obtain ⟨v2, w2, hr2, hq2, hb2, hkp2⟩ := keptT_appends hq1.out _ 1 1 [nms] rfl hz8 (by (try simp) <;> omega) (hSn12).size 43
      refine any_append rfl rfl _ _ _ _ rfl rfl hr2 ?_
      refine hK.out _ _ ((hSn12).trans hb2) (fun hSn13 => ?_)
      replace hq2 := hidden hq2
      clear hq1 hz7 hz8
      clear hK K
      go_simp
      refine wpAnyH_ready (rs := [15]) (by kernel_rfl) (by simp) ?_
      refine AllReadyH.cons rfl (fun K hK => ?_) AllReadyH.nil
      have hr3 := keptT_append_none hq2.out 43
      refine any_append rfl rfl _ _ _ _ rfl rfl hr3 ?_
      refine hK.out _ _ (hSn13) (fun hSn14 => ?_)
      have hq3 := hidden hq2.out
      clear hK K
      refine wpAnyH_ready (rs := [16]) (by kernel_rfl) (by simp) ?_
      refine AllReadyH.cons rfl (fun K hK => ?_) AllReadyH.nil
      go_simp
      refine hK.out _ _ hSn14 (fun _ => ?_)
      clear hK K
      refine wpAnyH_done (by kernel_rfl) ?_ _
      go_wp2_with fail
      exact hKK.out _ _ _ _ _ _ _ _ _ _ _ _ _ _ _ _ _ _ ⟨by have := hq3.out.mono hbs; simpa using this, hSn14⟩
    exact AllReadyH.nil
  · obtain ⟨rfl, -, rfl⟩ := Value.slice.inj hv
    have hncap : ks.length ≤ cap := h2
    have kC := hidden (fun wx (hx : Below w5.heap.size w5 wx) (j : Nat) (y : List UInt8) (hj : ks[j]? = some y) => show wx.cell? ⟨gb, j, none⟩ = some (.string (mkB y)) by
      obtain ⟨a2, cap2, e2, -, hf2⟩ := (hV.out.below hx).at
      obtain ⟨rfl, -, -⟩ := Value.slice.inj e2
      obtain ⟨b2, off2, e3, -, hcl2⟩ := hf2 (by rintro rfl; simp at hj)
      obtain ⟨rfl, rfl, -⟩ := Addr.mk.inj (Option.some.inj e3)
      have := hcl2 j y hj
      rwa [Nat.zero_add] at this)
    have hk1 : (k : Int) ≤ (cap : Int) := by omega
    have hk2 : (k : Int) ≤ (ks.length : Int) := by omega
    clear hV hv h1 hh h3 h4 h5 hc
    by_cases hck : cap = k
    · obtain rfl : k = ks.length := by omega
      have e1 : cap - ks.length = 0 := by omega
      refine wp_region_held_drew (S := fun w' => Below w5.heap.size w5 w') (by kernel_rfl) hS0 ?_
      intro _
      refine wpAnyH_take (i := 1) (v := ?_) rfl (by kernel_rfl) (by kernel_rfl) (by kernel_rfl) (fun _ _ _ h => hQp.out _ _ _ _ h rfl) (Or.inl ⟨by rfl, ?_⟩) hS0 ?_
      rotate_left
      · intro w hw; clear hw; go_simp; try (with_reducible rfl)
      refine wpAnyH_take (i := 2) (v := ?_) rfl (by kernel_rfl) (by kernel_rfl) (by kernel_rfl) (fun _ _ _ h => hQp.out _ _ _ _ h rfl) (Or.inl ⟨by rfl, ?_⟩) hS0 ?_
      rotate_left
      · intro w hw; clear hw; go_simp; try (with_reducible rfl)
      refine wpAnyH_take (i := 3) (v := ?_) rfl (by kernel_rfl) (by kernel_rfl) (by kernel_rfl) (fun _ _ _ h => hQp.out _ _ _ _ h rfl) (Or.inl ⟨by rfl, ?_⟩) hS0 ?_
      rotate_left
      · intro w hw; clear hw; go_simp; try (with_reducible rfl)
      refine wpAnyH_take (i := 5) (v := ?_) rfl (by kernel_rfl) (by kernel_rfl) (by kernel_rfl) (fun _ _ _ h => hQp.out _ _ _ _ h rfl) (Or.inl ⟨by rfl, ?_⟩) hS0 ?_
      rotate_left
      · intro w hw; clear hw; go_simp; try (with_reducible rfl)
      refine wpAnyH_take (i := 6) (v := ?_) rfl (by kernel_rfl) (by kernel_rfl) (by kernel_rfl) (fun _ _ _ h => hQp.out _ _ _ _ h rfl) (Or.inl ⟨by rfl, ?_⟩) hS0 ?_
      rotate_left
      · intro w hw; clear hw; go_simp; try (with_reducible rfl)
      refine wpAnyH_take (i := 7) (v := ?_) rfl (by kernel_rfl) (by kernel_rfl) (by kernel_rfl) (fun _ _ _ h => hQp.out _ _ _ _ h rfl) (Or.inl ⟨by rfl, ?_⟩) hS0 ?_
      rotate_left
      · intro w hw; clear hw; go_simp; try (with_reducible rfl)
      refine wpAnyH_take (i := 8) (v := ?_) rfl (by kernel_rfl) (by kernel_rfl) (by kernel_rfl) (fun _ _ _ h => hQp.out _ _ _ _ h rfl) (Or.inl ⟨by rfl, ?_⟩) hS0 ?_
      rotate_left
      · intro w hw; clear hw; go_simp; try (with_reducible rfl)
      refine wpAnyH_take (i := 9) (v := ?_) rfl (by kernel_rfl) (by kernel_rfl) (by kernel_rfl) (fun _ _ _ h => hQp.out _ _ _ _ h rfl) (Or.inl ⟨by rfl, ?_⟩) hS0 ?_
      rotate_left
      · intro w hw; have c1 := k1.out _ hw; clear hw; go_simp; try (with_reducible rfl)
      refine wpAnyH_take (i := 12) (v := ?_) rfl (by kernel_rfl) (by kernel_rfl) (by kernel_rfl) (fun _ _ _ h => hQp.out _ _ _ _ h rfl) (Or.inl ⟨by rfl, ?_⟩) hS0 ?_
      rotate_left
      · intro w hw; clear hw; go_simp; try (with_reducible rfl)
      refine wpAnyH_take (i := 13) (v := ?_) rfl (by kernel_rfl) (by kernel_rfl) (by kernel_rfl) (fun _ _ _ h => hQp.out _ _ _ _ h rfl) (Or.inl ⟨by rfl, ?_⟩) hS0 ?_
      rotate_left
      · intro w hw; clear hw; go_simp; try (with_reducible rfl)
      refine wpAnyH_take (i := 14) (v := ?_) rfl (by kernel_rfl) (by kernel_rfl) (by kernel_rfl) (fun _ _ _ h => hQp.out _ _ _ _ h rfl) (Or.inl ⟨by rfl, ?_⟩) hS0 ?_
      rotate_left
      · intro w hw; clear hw; go_simp; try (with_reducible rfl)
      refine wpAnyH_ready (rs := [0, 10]) (by kernel_rfl) (by simp) ?_
      refine AllReadyH.cons rfl (fun K hK => ?_) ?_
      · go_simp
        refine hK.out _ _ ((hS0).alloc (hS0).size _) (fun hSn1 => ?_)
        have hq0 := hidden (keptT_new (base := w5.heap.size) w5.drew (w5.heap.size) (by simp) (hS0).size)
        try (replace hz7 := hidden (((show Below (w5.drew).heap.size w5.drew ((w5.drew).alloc (.cells #[] 9)) from (Below.refl _ _).alloc (Nat.le_refl _) _).cell (p := ⟨_, 0, none⟩) (lt_of_cell (a := ⟨_, 0, none⟩) hz7.out)).trans hz7.out))
        clear hK K
        go_simp
        refine wpAnyH_ready (rs := [4, 10]) (by kernel_rfl) (by simp) ?_
        refine AllReadyH.cons rfl (fun K hK => ?_) ?_
        · obtain ⟨v1, w1, hr1, hq1, hb1, hkp1⟩ := keptT_appends hq0.out ⟨gb, 0, none⟩ ks.length cap (ks.take ks.length) (by simp) (fun j y hj => by rw [Go.WideShapes.add_plain, Nat.zero_add]; exact kC.out _ hSn1 j y (by rw [List.getElem?_take] at hj; split at hj; exact hj; cases hj)) (by (try simp) <;> omega) (hSn1).size 43
          refine any_append rfl rfl _ _ _ _ rfl rfl hr1 ?_
          refine hK.out _ _ ((hSn1).trans hb1) (fun hSn2 => ?_)
          replace hq1 := hidden hq1
          try (replace hz7 := hidden ((World.cell?_of_block (hkp1 _ (lt_of_cell (a := ⟨_, 0, none⟩) hz7.out) (by simp [Value.ownBlock]))).trans hz7.out))
          clear hK K
          refine wpAnyH_ready (rs := [10]) (by kernel_rfl) (by simp) ?_
          refine AllReadyH.cons rfl (fun K hK => ?_) AllReadyH.nil
          go_simp
          refine hK.out _ _ ((hSn2).alloc (hSn2).size _) (fun hSn3 => ?_)
          have hz7 := hidden (one_text w1 (.string nm) (w1.heap.size) (by simp))
          try (replace hq0 := hidden (hq0.out.below (w' := ((w1).alloc (.cells #[.string nm] 9))) ((Below.refl _ _).alloc (Nat.le_refl _) _)))
          try (replace hq1 := hidden (hq1.out.below (w' := ((w1).alloc (.cells #[.string nm] 9))) ((Below.refl _ _).alloc (Nat.le_refl _) _)))
          clear hK K
          go_simp
          refine wpAnyH_ready (rs := [11]) (by kernel_rfl) (by simp) ?_
          refine AllReadyH.cons rfl (fun K hK => ?_) AllReadyH.nil
          have hz8 : ∀ j y, [nms][j]? = some y → (((w1).alloc (.cells #[.string nm] 9))).cell? (Addr.add ⟨_, 0, none⟩ j) = some (.string (mkB y)) := fun j y hj => by
            match j, hj with
            | 0, hj => cases hj; rw [hnm.out]; exact hz7.out
            | n + 1, hj => cases hj
          obtain ⟨v2, w2, hr2, hq2, hb2, hkp2⟩ := keptT_appends hq1.out _ 1 1 [nms] rfl hz8 (by (try simp) <;> omega) (hSn3).size 43
          refine any_append rfl rfl _ _ _ _ rfl rfl hr2 ?_
          refine hK.out _ _ ((hSn3).trans hb2) (fun hSn4 => ?_)
          replace hq2 := hidden hq2
          clear hK K
          go_simp
          refine wpAnyH_ready (rs := [15]) (by kernel_rfl) (by simp) ?_
          refine AllReadyH.cons rfl (fun K hK => ?_) AllReadyH.nil
          obtain ⟨v3, w3, hr3, hq3, hb3, -⟩ := keptT_appends hq2.out ⟨gb, 0, none⟩ 0 0 [] (rfl) (fun j y hj => by cases hj) (by (try simp) <;> omega) (hSn4).size 43
          refine any_append rfl rfl _ _ _ _ rfl rfl hr3 ?_
          refine hK.out _ _ ((hSn4).trans hb3) (fun hSn5 => ?_)
          replace hq3 := hidden hq3
          clear hK K
          refine wpAnyH_ready (rs := [16]) (by kernel_rfl) (by simp) ?_
          refine AllReadyH.cons rfl (fun K hK => ?_) AllReadyH.nil
          go_simp
          refine hK.out _ _ hSn5 (fun _ => ?_)
          clear hK K
          refine wpAnyH_done (by kernel_rfl) ?_ _
          go_wp2_with fail
          exact hKK.out _ _ _ _ _ _ _ _ _ _ _ _ _ _ _ _ _ _ ⟨by have := hq3.out.mono hbs; simpa using this, hSn5⟩
        refine AllReadyH.cons rfl (fun K hK => ?_) ?_
        · go_simp
          refine hK.out _ _ ((hSn1).alloc (hSn1).size _) (fun hSn6 => ?_)
          have hz7 := hidden (one_text ((w5.drew).alloc (.cells #[] 9)) (.string nm) (w5.heap.size + 1) (by simp))
          try (replace hq0 := hidden (hq0.out.below (w' := ((((w5.drew).alloc (.cells #[] 9))).alloc (.cells #[.string nm] 9))) ((Below.refl _ _).alloc (Nat.le_refl _) _)))
          try (replace hq1 := hidden (hq1.out.below (w' := ((((w5.drew).alloc (.cells #[] 9))).alloc (.cells #[.string nm] 9))) ((Below.refl _ _).alloc (Nat.le_refl _) _)))
          clear hK K
          go_simp
          refine wpAnyH_ready (rs := [4]) (by kernel_rfl) (by simp) ?_
          refine AllReadyH.cons rfl (fun K hK => ?_) AllReadyH.nil
          obtain ⟨v1, w1, hr1, hq1, hb1, hkp1⟩ := keptT_appends hq0.out ⟨gb, 0, none⟩ ks.length cap (ks.take ks.length) (by simp) (fun j y hj => by rw [Go.WideShapes.add_plain, Nat.zero_add]; exact kC.out _ hSn6 j y (by rw [List.getElem?_take] at hj; split at hj; exact hj; cases hj)) (by (try simp) <;> omega) (hSn6).size 43
          refine any_append rfl rfl _ _ _ _ rfl rfl hr1 ?_
          refine hK.out _ _ ((hSn6).trans hb1) (fun hSn7 => ?_)
          replace hq1 := hidden hq1
          try (replace hz7 := hidden ((World.cell?_of_block (hkp1 _ (lt_of_cell (a := ⟨_, 0, none⟩) hz7.out) (by simp [Value.ownBlock]))).trans hz7.out))
          clear hK K
          go_simp
          refine wpAnyH_ready (rs := [11]) (by kernel_rfl) (by simp) ?_
          refine AllReadyH.cons rfl (fun K hK => ?_) AllReadyH.nil
          have hz8 : ∀ j y, [nms][j]? = some y → (w1).cell? (Addr.add ⟨_, 0, none⟩ j) = some (.string (mkB y)) := fun j y hj => by
            match j, hj with
            | 0, hj => cases hj; rw [hnm.out]; exact hz7.out
            | n + 1, hj => cases hj
          obtain ⟨v2, w2, hr2, hq2, hb2, hkp2⟩ := keptT_appends hq1.out _ 1 1 [nms] rfl hz8 (by (try simp) <;> omega) (hSn7).size 43
          refine any_append rfl rfl _ _ _ _ rfl rfl hr2 ?_
          refine hK.out _ _ ((hSn7).trans hb2) (fun hSn8 => ?_)
          replace hq2 := hidden hq2
          clear hK K
          go_simp
          refine wpAnyH_ready (rs := [15]) (by kernel_rfl) (by simp) ?_
          refine AllReadyH.cons rfl (fun K hK => ?_) AllReadyH.nil
          obtain ⟨v3, w3, hr3, hq3, hb3, -⟩ := keptT_appends hq2.out ⟨gb, 0, none⟩ 0 0 [] (rfl) (fun j y hj => by cases hj) (by (try simp) <;> omega) (hSn8).size 43
          refine any_append rfl rfl _ _ _ _ rfl rfl hr3 ?_
          refine hK.out _ _ ((hSn8).trans hb3) (fun hSn9 => ?_)
          replace hq3 := hidden hq3
          clear hK K
          refine wpAnyH_ready (rs := [16]) (by kernel_rfl) (by simp) ?_
          refine AllReadyH.cons rfl (fun K hK => ?_) AllReadyH.nil
          go_simp
          refine hK.out _ _ hSn9 (fun _ => ?_)
          clear hK K
          refine wpAnyH_done (by kernel_rfl) ?_ _
          go_wp2_with fail
          exact hKK.out _ _ _ _ _ _ _ _ _ _ _ _ _ _ _ _ _ _ ⟨by have := hq3.out.mono hbs; simpa using this, hSn9⟩
        exact AllReadyH.nil
      refine AllReadyH.cons rfl (fun K hK => ?_) ?_
      · go_simp
        refine hK.out _ _ ((hS0).alloc (hS0).size _) (fun hSn10 => ?_)
        have hz7 := hidden (one_text w5.drew (.string nm) (w5.heap.size) (by simp))
        try (replace hq0 := hidden (hq0.out.below (w' := ((w5.drew).alloc (.cells #[.string nm] 9))) ((Below.refl _ _).alloc (Nat.le_refl _) _)))
        try (replace hq1 := hidden (hq1.out.below (w' := ((w5.drew).alloc (.cells #[.string nm] 9))) ((Below.refl _ _).alloc (Nat.le_refl _) _)))
        clear hK K
        refine wpAnyH_ready (rs := [0]) (by kernel_rfl) (by simp) ?_
        refine AllReadyH.cons rfl (fun K hK => ?_) AllReadyH.nil
        go_simp
        refine hK.out _ _ ((hSn10).alloc (hSn10).size _) (fun hSn11 => ?_)
        have hq0 := hidden (keptT_new (base := w5.heap.size) ((w5.drew).alloc (.cells #[.string nm] 9)) (w5.heap.size + 1) (by simp) (hSn10).size)
        try (replace hz7 := hidden (((show Below (((w5.drew).alloc (.cells #[.string nm] 9))).heap.size ((w5.drew).alloc (.cells #[.string nm] 9)) ((((w5.drew).alloc (.cells #[.string nm] 9))).alloc (.cells #[] 9)) from (Below.refl _ _).alloc (Nat.le_refl _) _).cell (p := ⟨_, 0, none⟩) (lt_of_cell (a := ⟨_, 0, none⟩) hz7.out)).trans hz7.out))
        clear hK K
        go_simp
        refine wpAnyH_ready (rs := [4]) (by kernel_rfl) (by simp) ?_
        refine AllReadyH.cons rfl (fun K hK => ?_) AllReadyH.nil
        obtain ⟨v1, w1, hr1, hq1, hb1, hkp1⟩ := keptT_appends hq0.out ⟨gb, 0, none⟩ ks.length cap (ks.take ks.length) (by simp) (fun j y hj => by rw [Go.WideShapes.add_plain, Nat.zero_add]; exact kC.out _ hSn11 j y (by rw [List.getElem?_take] at hj; split at hj; exact hj; cases hj)) (by (try simp) <;> omega) (hSn11).size 43
        refine any_append rfl rfl _ _ _ _ rfl rfl hr1 ?_
        refine hK.out _ _ ((hSn11).trans hb1) (fun hSn12 => ?_)
        replace hq1 := hidden hq1
        try (replace hz7 := hidden ((World.cell?_of_block (hkp1 _ (lt_of_cell (a := ⟨_, 0, none⟩) hz7.out) (by simp [Value.ownBlock]))).trans hz7.out))
        clear hK K
        go_simp
        refine wpAnyH_ready (rs := [11]) (by kernel_rfl) (by simp) ?_
        refine AllReadyH.cons rfl (fun K hK => ?_) AllReadyH.nil
        have hz8 : ∀ j y, [nms][j]? = some y → (w1).cell? (Addr.add ⟨_, 0, none⟩ j) = some (.string (mkB y)) := fun j y hj => by
          match j, hj with
          | 0, hj => cases hj; rw [hnm.out]; exact hz7.out
          | n + 1, hj => cases hj
        obtain ⟨v2, w2, hr2, hq2, hb2, hkp2⟩ := keptT_appends hq1.out _ 1 1 [nms] rfl hz8 (by (try simp) <;> omega) (hSn12).size 43
        refine any_append rfl rfl _ _ _ _ rfl rfl hr2 ?_
        refine hK.out _ _ ((hSn12).trans hb2) (fun hSn13 => ?_)
        replace hq2 := hidden hq2
        clear hK K
        go_simp
        refine wpAnyH_ready (rs := [15]) (by kernel_rfl) (by simp) ?_
        refine AllReadyH.cons rfl (fun K hK => ?_) AllReadyH.nil
        obtain ⟨v3, w3, hr3, hq3, hb3, -⟩ := keptT_appends hq2.out ⟨gb, 0, none⟩ 0 0 [] (rfl) (fun j y hj => by cases hj) (by (try simp) <;> omega) (hSn13).size 43
        refine any_append rfl rfl _ _ _ _ rfl rfl hr3 ?_
        refine hK.out _ _ ((hSn13).trans hb3) (fun hSn14 => ?_)
        replace hq3 := hidden hq3
        clear hK K
        refine wpAnyH_ready (rs := [16]) (by kernel_rfl) (by simp) ?_
        refine AllReadyH.cons rfl (fun K hK => ?_) AllReadyH.nil
        go_simp
        refine hK.out _ _ hSn14 (fun _ => ?_)
        clear hK K
        refine wpAnyH_done (by kernel_rfl) ?_ _
        go_wp2_with fail
        exact hKK.out _ _ _ _ _ _ _ _ _ _ _ _ _ _ _ _ _ _ ⟨by have := hq3.out.mono hbs; simpa using this, hSn14⟩
      exact AllReadyH.nil
    · skip
      refine wp_region_held_drew (S := fun w' => Below w5.heap.size w5 w') (by kernel_rfl) hS0 ?_
      intro _
      refine wpAnyH_take (i := 1) (v := ?_) rfl (by kernel_rfl) (by kernel_rfl) (by kernel_rfl) (fun _ _ _ h => hQp.out _ _ _ _ h rfl) (Or.inl ⟨by rfl, ?_⟩) hS0 ?_
      rotate_left
      · intro w hw; clear hw; go_simp; try (with_reducible rfl)
      refine wpAnyH_take (i := 2) (v := ?_) rfl (by kernel_rfl) (by kernel_rfl) (by kernel_rfl) (fun _ _ _ h => hQp.out _ _ _ _ h rfl) (Or.inl ⟨by rfl, ?_⟩) hS0 ?_
      rotate_left
      · intro w hw; clear hw; go_simp; try (with_reducible rfl)
      refine wpAnyH_take (i := 3) (v := ?_) rfl (by kernel_rfl) (by kernel_rfl) (by kernel_rfl) (fun _ _ _ h => hQp.out _ _ _ _ h rfl) (Or.inl ⟨by rfl, ?_⟩) hS0 ?_
      rotate_left
      · intro w hw; clear hw; go_simp; try (with_reducible rfl)
      refine wpAnyH_take (i := 5) (v := ?_) rfl (by kernel_rfl) (by kernel_rfl) (by kernel_rfl) (fun _ _ _ h => hQp.out _ _ _ _ h rfl) (Or.inl ⟨by rfl, ?_⟩) hS0 ?_
      rotate_left
      · intro w hw; clear hw; go_simp; try (with_reducible rfl)
      refine wpAnyH_take (i := 6) (v := ?_) rfl (by kernel_rfl) (by kernel_rfl) (by kernel_rfl) (fun _ _ _ h => hQp.out _ _ _ _ h rfl) (Or.inl ⟨by rfl, ?_⟩) hS0 ?_
      rotate_left
      · intro w hw; clear hw; go_simp; try (with_reducible rfl)
      refine wpAnyH_take (i := 7) (v := ?_) rfl (by kernel_rfl) (by kernel_rfl) (by kernel_rfl) (fun _ _ _ h => hQp.out _ _ _ _ h rfl) (Or.inl ⟨by rfl, ?_⟩) hS0 ?_
      rotate_left
      · intro w hw; clear hw; go_simp; try (with_reducible rfl)
      refine wpAnyH_take (i := 8) (v := ?_) rfl (by kernel_rfl) (by kernel_rfl) (by kernel_rfl) (fun _ _ _ h => hQp.out _ _ _ _ h rfl) (Or.inl ⟨by rfl, ?_⟩) hS0 ?_
      rotate_left
      · intro w hw; clear hw; go_simp; try (with_reducible rfl)
      refine wpAnyH_take (i := 9) (v := ?_) rfl (by kernel_rfl) (by kernel_rfl) (by kernel_rfl) (fun _ _ _ h => hQp.out _ _ _ _ h rfl) (Or.inl ⟨by rfl, ?_⟩) hS0 ?_
      rotate_left
      · intro w hw; have c1 := k1.out _ hw; clear hw; go_simp; try (with_reducible rfl)
      refine wpAnyH_take (i := 12) (v := ?_) rfl (by kernel_rfl) (by kernel_rfl) (by kernel_rfl) (fun _ _ _ h => hQp.out _ _ _ _ h rfl) (Or.inl ⟨by rfl, ?_⟩) hS0 ?_
      rotate_left
      · intro w hw; clear hw; go_simp; try (with_reducible rfl)
      refine wpAnyH_take (i := 13) (v := ?_) rfl (by kernel_rfl) (by kernel_rfl) (by kernel_rfl) (fun _ _ _ h => hQp.out _ _ _ _ h rfl) (Or.inl ⟨by rfl, ?_⟩) hS0 ?_
      rotate_left
      · intro w hw; clear hw; go_simp; try (with_reducible rfl)
      refine wpAnyH_take (i := 14) (v := ?_) rfl (by kernel_rfl) (by kernel_rfl) (by kernel_rfl) (fun _ _ _ h => hQp.out _ _ _ _ h rfl) (Or.inl ⟨by rfl, ?_⟩) hS0 ?_
      rotate_left
      · intro w hw; clear hw; go_simp; try (with_reducible rfl)
      refine wpAnyH_ready (rs := [0, 10]) (by kernel_rfl) (by simp) ?_
      refine AllReadyH.cons rfl (fun K hK => ?_) ?_
      · go_simp
        refine hK.out _ _ ((hS0).alloc (hS0).size _) (fun hSn1 => ?_)
        have hq0 := hidden (keptT_new (base := w5.heap.size) w5.drew (w5.heap.size) (by simp) (hS0).size)
        try (replace hz7 := hidden (((show Below (w5.drew).heap.size w5.drew ((w5.drew).alloc (.cells #[] 9)) from (Below.refl _ _).alloc (Nat.le_refl _) _).cell (p := ⟨_, 0, none⟩) (lt_of_cell (a := ⟨_, 0, none⟩) hz7.out)).trans hz7.out))
        clear hK K
        go_simp
        refine wpAnyH_ready (rs := [4, 10]) (by kernel_rfl) (by simp) ?_
        refine AllReadyH.cons rfl (fun K hK => ?_) ?_
        · obtain ⟨v1, w1, hr1, hq1, hb1, hkp1⟩ := keptT_appends hq0.out ⟨gb, 0, none⟩ k cap (ks.take k) (by simp; omega) (fun j y hj => by rw [Go.WideShapes.add_plain, Nat.zero_add]; exact kC.out _ hSn1 j y (by rw [List.getElem?_take] at hj; split at hj; exact hj; cases hj)) (by (try simp) <;> omega) (hSn1).size 43
          refine any_append rfl rfl _ _ _ _ rfl rfl hr1 ?_
          refine hK.out _ _ ((hSn1).trans hb1) (fun hSn2 => ?_)
          replace hq1 := hidden hq1
          try (replace hz7 := hidden ((World.cell?_of_block (hkp1 _ (lt_of_cell (a := ⟨_, 0, none⟩) hz7.out) (by simp [Value.ownBlock]))).trans hz7.out))
          clear hK K
          refine wpAnyH_ready (rs := [10]) (by kernel_rfl) (by simp) ?_
          refine AllReadyH.cons rfl (fun K hK => ?_) AllReadyH.nil
          go_simp
          refine hK.out _ _ ((hSn2).alloc (hSn2).size _) (fun hSn3 => ?_)
          have hz7 := hidden (one_text w1 (.string nm) (w1.heap.size) (by simp))
          try (replace hq0 := hidden (hq0.out.below (w' := ((w1).alloc (.cells #[.string nm] 9))) ((Below.refl _ _).alloc (Nat.le_refl _) _)))
          try (replace hq1 := hidden (hq1.out.below (w' := ((w1).alloc (.cells #[.string nm] 9))) ((Below.refl _ _).alloc (Nat.le_refl _) _)))
          clear hK K
          go_simp
          refine wpAnyH_ready (rs := [11]) (by kernel_rfl) (by simp) ?_
          refine AllReadyH.cons rfl (fun K hK => ?_) AllReadyH.nil
          have hz8 : ∀ j y, [nms][j]? = some y → (((w1).alloc (.cells #[.string nm] 9))).cell? (Addr.add ⟨_, 0, none⟩ j) = some (.string (mkB y)) := fun j y hj => by
            match j, hj with
            | 0, hj => cases hj; rw [hnm.out]; exact hz7.out
            | n + 1, hj => cases hj
          obtain ⟨v2, w2, hr2, hq2, hb2, hkp2⟩ := keptT_appends hq1.out _ 1 1 [nms] rfl hz8 (by (try simp) <;> omega) (hSn3).size 43
          refine any_append rfl rfl _ _ _ _ rfl rfl hr2 ?_
          refine hK.out _ _ ((hSn3).trans hb2) (fun hSn4 => ?_)
          replace hq2 := hidden hq2
          clear hK K
          go_simp
          refine wpAnyH_ready (rs := [15]) (by kernel_rfl) (by simp) ?_
          refine AllReadyH.cons rfl (fun K hK => ?_) AllReadyH.nil
          obtain ⟨v3, w3, hr3, hq3, hb3, -⟩ := keptT_appends hq2.out ⟨gb, k, none⟩ (ks.length - k) (cap - k) (ks.drop k) (by simp) (fun j y hj => by rw [Go.WideShapes.add_plain]; exact kC.out _ hSn4 (k + j) y (by rw [List.getElem?_drop] at hj; exact hj)) (by (try simp) <;> omega) (hSn4).size 43
          refine any_append rfl rfl _ _ _ _ rfl rfl hr3 ?_
          refine hK.out _ _ ((hSn4).trans hb3) (fun hSn5 => ?_)
          replace hq3 := hidden hq3
          clear hK K
          refine wpAnyH_ready (rs := [16]) (by kernel_rfl) (by simp) ?_
          refine AllReadyH.cons rfl (fun K hK => ?_) AllReadyH.nil
          go_simp
          refine hK.out _ _ hSn5 (fun _ => ?_)
          clear hK K
          refine wpAnyH_done (by kernel_rfl) ?_ _
          go_wp2_with fail
          exact hKK.out _ _ _ _ _ _ _ _ _ _ _ _ _ _ _ _ _ _ ⟨by have := hq3.out.mono hbs; simpa using this, hSn5⟩
        refine AllReadyH.cons rfl (fun K hK => ?_) ?_
        · go_simp
          refine hK.out _ _ ((hSn1).alloc (hSn1).size _) (fun hSn6 => ?_)
          have hz7 := hidden (one_text ((w5.drew).alloc (.cells #[] 9)) (.string nm) (w5.heap.size + 1) (by simp))
          try (replace hq0 := hidden (hq0.out.below (w' := ((((w5.drew).alloc (.cells #[] 9))).alloc (.cells #[.string nm] 9))) ((Below.refl _ _).alloc (Nat.le_refl _) _)))
          try (replace hq1 := hidden (hq1.out.below (w' := ((((w5.drew).alloc (.cells #[] 9))).alloc (.cells #[.string nm] 9))) ((Below.refl _ _).alloc (Nat.le_refl _) _)))
          clear hK K
          go_simp
          refine wpAnyH_ready (rs := [4]) (by kernel_rfl) (by simp) ?_
          refine AllReadyH.cons rfl (fun K hK => ?_) AllReadyH.nil
          obtain ⟨v1, w1, hr1, hq1, hb1, hkp1⟩ := keptT_appends hq0.out ⟨gb, 0, none⟩ k cap (ks.take k) (by simp; omega) (fun j y hj => by rw [Go.WideShapes.add_plain, Nat.zero_add]; exact kC.out _ hSn6 j y (by rw [List.getElem?_take] at hj; split at hj; exact hj; cases hj)) (by (try simp) <;> omega) (hSn6).size 43
          refine any_append rfl rfl _ _ _ _ rfl rfl hr1 ?_
          refine hK.out _ _ ((hSn6).trans hb1) (fun hSn7 => ?_)
          replace hq1 := hidden hq1
          try (replace hz7 := hidden ((World.cell?_of_block (hkp1 _ (lt_of_cell (a := ⟨_, 0, none⟩) hz7.out) (by simp [Value.ownBlock]))).trans hz7.out))
          clear hK K
          go_simp
          refine wpAnyH_ready (rs := [11]) (by kernel_rfl) (by simp) ?_
          refine AllReadyH.cons rfl (fun K hK => ?_) AllReadyH.nil
          have hz8 : ∀ j y, [nms][j]? = some y → (w1).cell? (Addr.add ⟨_, 0, none⟩ j) = some (.string (mkB y)) := fun j y hj => by
            match j, hj with
            | 0, hj => cases hj; rw [hnm.out]; exact hz7.out
            | n + 1, hj => cases hj
          obtain ⟨v2, w2, hr2, hq2, hb2, hkp2⟩ := keptT_appends hq1.out _ 1 1 [nms] rfl hz8 (by (try simp) <;> omega) (hSn7).size 43
          refine any_append rfl rfl _ _ _ _ rfl rfl hr2 ?_
          refine hK.out _ _ ((hSn7).trans hb2) (fun hSn8 => ?_)
          replace hq2 := hidden hq2
          clear hK K
          go_simp
          refine wpAnyH_ready (rs := [15]) (by kernel_rfl) (by simp) ?_
          refine AllReadyH.cons rfl (fun K hK => ?_) AllReadyH.nil
          obtain ⟨v3, w3, hr3, hq3, hb3, -⟩ := keptT_appends hq2.out ⟨gb, k, none⟩ (ks.length - k) (cap - k) (ks.drop k) (by simp) (fun j y hj => by rw [Go.WideShapes.add_plain]; exact kC.out _ hSn8 (k + j) y (by rw [List.getElem?_drop] at hj; exact hj)) (by (try simp) <;> omega) (hSn8).size 43
          refine any_append rfl rfl _ _ _ _ rfl rfl hr3 ?_
          refine hK.out _ _ ((hSn8).trans hb3) (fun hSn9 => ?_)
          replace hq3 := hidden hq3
          clear hK K
          refine wpAnyH_ready (rs := [16]) (by kernel_rfl) (by simp) ?_
          refine AllReadyH.cons rfl (fun K hK => ?_) AllReadyH.nil
          go_simp
          refine hK.out _ _ hSn9 (fun _ => ?_)
          clear hK K
          refine wpAnyH_done (by kernel_rfl) ?_ _
          go_wp2_with fail
          exact hKK.out _ _ _ _ _ _ _ _ _ _ _ _ _ _ _ _ _ _ ⟨by have := hq3.out.mono hbs; simpa using this, hSn9⟩
        exact AllReadyH.nil
      refine AllReadyH.cons rfl (fun K hK => ?_) ?_
      · go_simp
        refine hK.out _ _ ((hS0).alloc (hS0).size _) (fun hSn10 => ?_)
        have hz7 := hidden (one_text w5.drew (.string nm) (w5.heap.size) (by simp))
        try (replace hq0 := hidden (hq0.out.below (w' := ((w5.drew).alloc (.cells #[.string nm] 9))) ((Below.refl _ _).alloc (Nat.le_refl _) _)))
        try (replace hq1 := hidden (hq1.out.below (w' := ((w5.drew).alloc (.cells #[.string nm] 9))) ((Below.refl _ _).alloc (Nat.le_refl _) _)))
        clear hK K
        refine wpAnyH_ready (rs := [0]) (by kernel_rfl) (by simp) ?_
        refine AllReadyH.cons rfl (fun K hK => ?_) AllReadyH.nil
        go_simp
        refine hK.out _ _ ((hSn10).alloc (hSn10).size _) (fun hSn11 => ?_)
        have hq0 := hidden (keptT_new (base := w5.heap.size) ((w5.drew).alloc (.cells #[.string nm] 9)) (w5.heap.size + 1) (by simp) (hSn10).size)
        try (replace hz7 := hidden (((show Below (((w5.drew).alloc (.cells #[.string nm] 9))).heap.size ((w5.drew).alloc (.cells #[.string nm] 9)) ((((w5.drew).alloc (.cells #[.string nm] 9))).alloc (.cells #[] 9)) from (Below.refl _ _).alloc (Nat.le_refl _) _).cell (p := ⟨_, 0, none⟩) (lt_of_cell (a := ⟨_, 0, none⟩) hz7.out)).trans hz7.out))
        clear hK K
        go_simp
        refine wpAnyH_ready (rs := [4]) (by kernel_rfl) (by simp) ?_
        refine AllReadyH.cons rfl (fun K hK => ?_) AllReadyH.nil
        obtain ⟨v1, w1, hr1, hq1, hb1, hkp1⟩ := keptT_appends hq0.out ⟨gb, 0, none⟩ k cap (ks.take k) (by simp; omega) (fun j y hj => by rw [Go.WideShapes.add_plain, Nat.zero_add]; exact kC.out _ hSn11 j y (by rw [List.getElem?_take] at hj; split at hj; exact hj; cases hj)) (by (try simp) <;> omega) (hSn11).size 43
        refine any_append rfl rfl _ _ _ _ rfl rfl hr1 ?_
        refine hK.out _ _ ((hSn11).trans hb1) (fun hSn12 => ?_)
        replace hq1 := hidden hq1
        try (replace hz7 := hidden ((World.cell?_of_block (hkp1 _ (lt_of_cell (a := ⟨_, 0, none⟩) hz7.out) (by simp [Value.ownBlock]))).trans hz7.out))
        clear hK K
        go_simp
        refine wpAnyH_ready (rs := [11]) (by kernel_rfl) (by simp) ?_
        refine AllReadyH.cons rfl (fun K hK => ?_) AllReadyH.nil
        have hz8 : ∀ j y, [nms][j]? = some y → (w1).cell? (Addr.add ⟨_, 0, none⟩ j) = some (.string (mkB y)) := fun j y hj => by
          match j, hj with
          | 0, hj => cases hj; rw [hnm.out]; exact hz7.out
          | n + 1, hj => cases hj
        obtain ⟨v2, w2, hr2, hq2, hb2, hkp2⟩ := keptT_appends hq1.out _ 1 1 [nms] rfl hz8 (by (try simp) <;> omega) (hSn12).size 43
        refine any_append rfl rfl _ _ _ _ rfl rfl hr2 ?_
        refine hK.out _ _ ((hSn12).trans hb2) (fun hSn13 => ?_)
        replace hq2 := hidden hq2
        clear hK K
        go_simp
        refine wpAnyH_ready (rs := [15]) (by kernel_rfl) (by simp) ?_
        refine AllReadyH.cons rfl (fun K hK => ?_) AllReadyH.nil
        obtain ⟨v3, w3, hr3, hq3, hb3, -⟩ := keptT_appends hq2.out ⟨gb, k, none⟩ (ks.length - k) (cap - k) (ks.drop k) (by simp) (fun j y hj => by rw [Go.WideShapes.add_plain]; exact kC.out _ hSn13 (k + j) y (by rw [List.getElem?_drop] at hj; exact hj)) (by (try simp) <;> omega) (hSn13).size 43
        refine any_append rfl rfl _ _ _ _ rfl rfl hr3 ?_
        refine hK.out _ _ ((hSn13).trans hb3) (fun hSn14 => ?_)
        replace hq3 := hidden hq3
        clear hK K
        refine wpAnyH_ready (rs := [16]) (by kernel_rfl) (by simp) ?_
        refine AllReadyH.cons rfl (fun K hK => ?_) AllReadyH.nil
        go_simp
        refine hK.out _ _ hSn14 (fun _ => ?_)
        clear hK K
        refine wpAnyH_done (by kernel_rfl) ?_ _
        go_wp2_with fail
        exact hKK.out _ _ _ _ _ _ _ _ _ _ _ _ _ _ _ _ _ _ ⟨by have := hq3.out.mono hbs; simpa using this, hSn14⟩
      exact AllReadyH.nil
end Go.Proofs.YtlphgkaojfpepaaGreatDoor
/- Layer 10's own listing. -/
namespace Go.Proofs.YtlphgkaojfpepaaGreatDoor
open Go.RowKit Go.Extern.Stop Go.Stop Go.Extern Go.Maps Go.Sort Go.Shelf
set_option maxRecDepth 100000

theorem bdN (B : Nat) (w : World) (n : Nat) : Below B w (w.drewN n) := ⟨rfl, rfl, rfl, Nat.le_refl _, fun _ _ => rfl⟩
set_option maxHeartbeats 4000000 in
theorem listed_calls {w : World} {v : Value} {L : List Rec} (h : RecsAt w v L) (hl : L.length ≤ 125) :
    Calls Tryz.prog 20 #[v] w fun e w' => ∃ u, e = .returned u ∧ KeptT w.heap.size w' u (sortS (L.map Rec.s)) ∧ Below w.heap.size w w' := by
  obtain ⟨a, cap, rfl, hcs⟩ := h
  replace hcs := hidden hcs
  go_enter Tryz.func20, Tryz.ntmps20
  go_wp2_with fail
  go_loopg [3, 4] (L.length + 1) (fun gk l q wr => ∃ i : Nat, i ≤ L.length ∧ gk = L.length + 1 - i ∧ q = .int .i64 i ∧ Hid (KeptT w.heap.size wr l (listS ((L.map Rec.s).take i)) ∧ Below w.heap.size w wr))
  case atStart => exact ⟨0, by omega, rfl, rfl, hidden ⟨KeptT.nil _ _, Below.refl _ _⟩⟩
  case round =>
    obtain ⟨i, hi, hgk, rfl, hI⟩ := hrel
    replace hgk := hidden hgk
    obtain ⟨i1, i2⟩ := hI.out
    clear hI
    by_cases hlt : i < L.length
    · obtain ⟨rb, off, rfl, hrb, hcell⟩ := hcs.out (by rintro rfl; simp at hlt)
      obtain ⟨r, hr⟩ : ∃ r, L[i]? = some r := ⟨_, List.getElem?_eq_getElem hlt⟩
      obtain ⟨c0, -⟩ := hcell i r hr
      replace c0 := (i2.cell (p := ⟨rb, off + i * 2, none⟩) hrb).trans c0
      have hstep : listS ((L.map Rec.s).take (i + 1)) = insS r.s (listS ((L.map Rec.s).take i)) := by
        rw [List.take_add_one, List.getElem?_map, hr]
        exact listS_snoc _ _
      have hlk : (listS ((L.map Rec.s).take i)).length = i := by rw [listS_len, List.length_take, List.length_map]; omega
      obtain ⟨ks, hks⟩ : ∃ ks, listS ((L.map Rec.s).take i) = ks := ⟨_, rfl⟩
      rw [hks] at hstep hlk i1
      obtain ⟨na, nc, hv⟩ := i1.form
      subst hv
      have hT := hidden i1.at
      have hV := hidden i1
      have hiL : (i : Int) < (L.length : Int) := by omega
      replace hstep := hidden hstep
      replace hks := hidden hks
      have hb2 := hidden i2
      have hsz := i2.size
      clear i1 i2 hcell hr
      obtain ⟨LK, hLK⟩ : ∃ LK, ks.length = LK := ⟨_, rfl⟩
      rw [hLK] at hlk
      have hLKb : LK ≤ 125 := by omega
      replace hlk := hidden hlk
      rw [hLK]
      go_upto_block 2 with fail
      go_cut [5] (fun q wx => ∃ k : Nat, q = .int .i64 k ∧ k ≤ ks.length ∧ Hid (insS r.s ks = ks.take k ++ r.s :: ks.drop k) ∧ Below wr.heap.size wr wx)
      case first =>
        go_wp2_with fail
        go_loopg [5] (LK + 1) (fun gk q wx => ∃ k : Nat, k ≤ LK ∧ gk = LK + 1 - k ∧ q = .int .i64 k ∧ Hid ((∀ j y, j < k → ks[j]? = some y → y < r.s) ∧ Below wr.heap.size wr wx))
        case atStart => exact ⟨0, by omega, rfl, rfl, hidden ⟨fun j y hj => by omega, Below.refl _ _⟩⟩
        case round =>
          obtain ⟨k, hk, hgk2, rfl, hJ⟩ := hrel
          replace hgk2 := hidden hgk2
          rename World => wx
          by_cases hkl : k < LK
          · obtain ⟨y, hy⟩ : ∃ y, ks[k]? = some y := ⟨_, List.getElem?_eq_getElem (by omega)⟩
            obtain ⟨ta, tc, te, -, hf⟩ := hT.out
            obtain ⟨rfl, -, -⟩ := Value.slice.inj te
            obtain ⟨tb, toff, rfl, htb, htc⟩ := hf (by rintro rfl; simp at hy)
            have d0 := (hJ.out.2.cell (p := ⟨tb, toff + k, none⟩) htb).trans (htc k y hy)
            have d1 := (hJ.out.2.cell (p := ⟨rb, off + i * 2, none⟩) (lt_of_cell c0)).trans c0
            have hq : Op.bytesLess (mkB y).toList (mkB r.s).toList = decide (y < r.s) := by rw [mk_toList, mk_toList, bytesLess_eq]
            have hkl2 : (k : Int) < (LK : Int) := by omega
            clear te hf htc
            by_cases hyx : y < r.s
            · rw [decide_eq_true hyx] at hq
              have hE := hidden (And.intro hyx hJ.out)
              clear hyx hJ
              replace hy := hidden hy
              go_upto_region 6 with fail
              go_quiet (fail)
              go_wp2
              go_roundg (LK + 1 - (k + 1))
              case measure => rw [hgk2.out]; omega
              case rel =>
                refine ⟨k + 1, by omega, rfl, by go_num, hidden ⟨fun j z hj hz => ?_, hE.out.2.2.trans (bdN _ wx _)⟩⟩
                by_cases e1 : j = k
                · subst e1; rw [hy.out] at hz; cases hz; exact hE.out.1
                · exact hE.out.2.1 j z (by omega) hz
            · rw [decide_eq_false hyx] at hq
              have hE := hidden (And.intro hyx hJ.out)
              clear hyx hJ
              replace hy := hidden hy
              go_upto_region 6 with fail
              go_quiet (fail)
              go_wp2
              go_meet
              case rel =>
                refine ⟨k, rfl, by omega, hidden (ins_at r.s ks k (by omega) hE.out.2.1 (fun z hz => ?_)), hE.out.2.2.trans (bdN _ wx _)⟩
                rw [hy.out] at hz; cases hz; exact hE.out.1
          · obtain rfl : k = LK := by omega
            have hkd : decide ((k : Int) < (k : Int)) = false := by simp
            go_upto_region 6 with fail
            go_quiet (fail)
            go_wp2
            go_meet
            case rel => exact ⟨k, rfl, by omega, hidden (ins_at r.s ks k (by omega) hJ.out.1 (fun z hz => by rw [List.getElem?_eq_none (by omega)] at hz; cases hz)), hJ.out.2.trans (bdN _ wx _)⟩
      case rest =>
        rename World => wx
        obtain ⟨k, rfl, hk, hins, hBx⟩ := hcut
        have hV2 := hidden (hV.out.below hBx)
        have hc2 := hidden ((hBx.cell (p := ⟨rb, off + i * 2, none⟩) (lt_of_cell c0)).trans c0)
        have hb3 := hidden (hb2.out.trans (hBx.mono hsz))
        clear hBx hV hb2
        go_upto_region 8 with fail
        subst hLK
        refine wp_last (ls_insert rb off L.length cap i k r.s na nc w.heap.size ks wx hV2 (by omega) hk hb3.out.size hiL hc2 _ _ _ _ _ _ _ _ _ _ _ _ _ _ _ _ _ _ _ _ _ _ _ _ _ _ _ _ _ _ _ _ _ _ _ _ _ _ _ _ _ _ _ _ _ (hidden ?kk) (hidden ?qp))
        case qp =>
          intro _ a a' _ h e
          cases a
          cases a'
          cases e
          exact h
        case kk =>
          intro v30 v31 v32 v33 v34 v35 v36 v37 v38 v39 v40 v41 v42 v43 v44 v45 v' w6 hE6
          rw [← hins.out, ← hstep.out] at hE6
          have hE := hidden (And.intro hE6.1 (hb3.out.trans (hE6.2.mono hb3.out.size)))
          clear hE6
          dsimp only
          go_wp2
          go_roundg (L.length + 1 - (i + 1))
          case measure => rw [hgk.out]; omega
          case rel => exact ⟨i + 1, hlt, rfl, by go_num, hidden hE.out⟩
    · obtain rfl : i = L.length := by omega
      rw [List.take_of_length_le (by rw [List.length_map]; omega), listS_sort] at i1
      have hE := hidden (And.intro i1 i2)
      clear i1 i2
      go_wp2
      go_ret
      exact ⟨_, rfl, hE.out⟩
end Go.Proofs.YtlphgkaojfpepaaGreatDoor
