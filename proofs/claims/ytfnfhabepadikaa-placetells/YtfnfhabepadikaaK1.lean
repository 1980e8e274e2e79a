/- Lists of ranges in memory, and such of one's own; lists of numbers of one's own. -/
import Derived.Test.YtfnfhabepadikaaK0
import Derived.Test.YtfnfhabepadikaaAp
import Derived.Laws.ResultCell
import Derived.Laws.AppendOwn
import Derived.Laws.AppendOwnNone
import Derived.Deep.Heap
import Derived.Deep.RegionHeld
import Derived.Deep.Cut
import Derived.Deep.CutBlock
import Derived.Deep.CutRange
import Derived.BigCall
import Derived.OwnWalk
import Derived.BigQuiet
import Derived.BigRegion
import Derived.Lib.SlKeysI
namespace Go.Proofs.Ytfnfhabepadikaa
open Go Go.RowKit Go.Sort
set_option maxRecDepth 100000

theorem lt_of_cell {w : World} {a : Addr} {v : Value} (h : w.cell? a = some v) : a.block < w.heap.size := by
  rcases Nat.lt_or_ge a.block w.heap.size with h1 | h1
  · exact h1
  · simp [World.cell?, Array.getElem?_eq_none h1] at h
theorem bdN (w : World) (n : Nat) : Below w.heap.size w (w.drewN n) := ⟨rfl, rfl, rfl, Nat.le_refl _, fun _ _ => rfl⟩
theorem info_parts3 {P : Program} {t : TypeId} {z : Option Value} {a b : Nat} (h : (P.info? t).map (fun i => (i.zero, i.size, i.bytes)) = some (z, a, b)) : ∃ i, P.info? t = some i ∧ i.zero = z ∧ i.size = a ∧ i.bytes = b := by
  obtain ⟨i, hi, he⟩ := Option.map_eq_some_iff.1 h
  simp only [Prod.mk.injEq] at he
  exact ⟨i, hi, he.1, he.2.1, he.2.2⟩
/-- An append inside a region that draws. -/
theorem any_append {P : Program} {ops : Array Oper} {o : Oper} {a : Act} {w : World} {K : Act → World → Prop} {Q : Exit → Act → World → Prop} {s x : Operand} {t : TypeId} (hg : Region.wanted o (yielded ops a.tmps) = true)
    (ho : o.op = .call { callee := .builtin .append, args := #[s, x], argTypes := #[t, t] }) (v xv v' : Value) (w' : World) (hs : a.eval s = v) (hx : a.eval x = xv)
    (hr : (Builtin.append_ #[t, t] o.type #[v, xv]).run P w = .ok v' w') (h : K (a.put o.dst v') w') : if Region.wanted o (yielded ops a.tmps) = true then Oper.wp P o a w K Q else K (a.put o.dst undef) w := by
  rw [if_pos hg]
  unfold Oper.wp execOp
  simp only [ho, resolve, invoke, builtin, Sem.run_bind, Sem.run_pure, Result.andThen_ok, List.map_toArray, List.map_cons, List.map_nil, hs, hx, hr]
  exact h
/-- .. and one outside. -/
theorem wpList_append_eq {P : Program} {ops : Array Oper} {rest : List Oper} {o : Oper} {a : Act} {w : World} {Q : Exit → Act → World → Prop} (s x : Operand) (t : TypeId)
    (ho : o.op = .call { callee := .builtin .append, args := #[s, x], argTypes := #[t, t] }) (v xv v' : Value) (w' : World) (hs : a.eval s = v) (hx : a.eval x = xv)
    (hr : (Builtin.append_ #[t, t] o.type #[v, xv]).run P w = .ok v' w') (hg : Region.wanted o (yielded ops a.tmps) = true) (h : wpList P ops Q rest (a.put o.dst v') w') : wpList P ops Q (o :: rest) a w :=
  wpList_step fun K hK => by
    rw [if_pos hg]
    unfold Oper.wp execOp
    simp only [ho, resolve, invoke, builtin, Sem.run_bind, Sem.run_pure, Result.andThen_ok, List.map_toArray, List.map_cons, List.map_nil, hs, hx, hr]
    exact hK _ _ h
def RgAt (w : World) (v : Value) (l : List Rg) : Prop := ∃ a cap, v = .slice a l.length cap ∧ l.length ≤ cap ∧ (l ≠ [] → ∃ b off, a = some ⟨b, off, none⟩ ∧ b < w.heap.size ∧ ∀ k x, l[k]? = some x → w.cell? ⟨b, off + k * 2, none⟩ = some (.int .i64 x.1) ∧ w.cell? ⟨b, off + k * 2 + 1, none⟩ = some (.int .i64 x.2))
theorem RgAt.nil (w : World) (a : Option Addr) (cap : Nat) : RgAt w (.slice a 0 cap) [] := ⟨a, cap, rfl, Nat.zero_le _, fun h => absurd rfl h⟩
theorem RgAt.below {w w' : World} {v : Value} {l : List Rg} (h : RgAt w v l) (hb : Below w.heap.size w w') : RgAt w' v l := by
  obtain ⟨a, cap, hv, hl, hc⟩ := h
  refine ⟨a, cap, hv, hl, fun hn => ?_⟩
  obtain ⟨b, off, ha, hlt, hx⟩ := hc hn
  exact ⟨b, off, ha, Nat.lt_of_lt_of_le hlt hb.size, fun k x hk => ⟨(hb.cell (p := ⟨b, off + k * 2, none⟩) hlt).trans (hx k x hk).1, (hb.cell (p := ⟨b, off + k * 2 + 1, none⟩) hlt).trans (hx k x hk).2⟩⟩
theorem RgAt.form {w : World} {v : Value} {l : List Rg} (h : RgAt w v l) : ∃ a cap, v = .slice a l.length cap ∧ l.length ≤ cap := by
  obtain ⟨a, cap, hv, hl, -⟩ := h
  exact ⟨a, cap, hv, hl⟩
theorem RgAt.get {w : World} {v : Value} {l : List Rg} (h : RgAt w v l) (hn : l ≠ []) : ∃ b off cap, v = .slice (some ⟨b, off, none⟩) l.length cap ∧ l.length ≤ cap ∧ b < w.heap.size ∧ ∀ k x, l[k]? = some x → w.cell? ⟨b, off + k * 2, none⟩ = some (.int .i64 x.1) ∧ w.cell? ⟨b, off + k * 2 + 1, none⟩ = some (.int .i64 x.2) := by
  obtain ⟨a, cap, hv, hl, hc⟩ := h
  obtain ⟨b, off, rfl, hlt, hx⟩ := hc hn
  exact ⟨b, off, cap, hv, hl, hlt, hx⟩
def rgC : List Rg → List Value
  | [] => []
  | b :: l => .int .i64 b.1 :: .int .i64 b.2 :: rgC l
theorem rgC_len : ∀ L, (rgC L).length = L.length * 2
  | [] => rfl
  | _ :: r => by simp [rgC, rgC_len r]; omega
theorem rgC_append : ∀ a b, rgC (a ++ b) = rgC a ++ rgC b
  | [], _ => rfl
  | p :: r, b => by simp [rgC, rgC_append r b]
theorem rgC_get : ∀ (L : List Rg) (k : Nat) (r : Rg), L[k]? = some r → (rgC L)[k * 2]? = some (.int .i64 r.1) ∧ (rgC L)[k * 2 + 1]? = some (.int .i64 r.2)
  | [], k, p, h => by simp at h
  | q :: r, 0, p, h => by simp at h; subst h; exact ⟨rfl, rfl⟩
  | q :: r, k + 1, p, h => by
    have := rgC_get r k p (by simpa using h)
    rw [show (k + 1) * 2 = k * 2 + 2 by omega]
    simpa [rgC] using this
theorem rgC_one : ∀ (L : List Rg), ∀ u ∈ rgC L, u.oneCell' = true
  | [], u, hu => by cases hu
  | q :: r, u, hu => by
    rcases List.mem_cons.1 hu with rfl | hu
    · rfl
    · rcases List.mem_cons.1 hu with rfl | hu
      · rfl
      · exact rgC_one r u hu
theorem rgC_at (M : List Rg) (j : Nat) (u : Value) (hu : (rgC M)[j]? = some u) : ∃ k r, M[k]? = some r ∧ (j = k * 2 ∧ u = .int .i64 r.1 ∨ j = k * 2 + 1 ∧ u = .int .i64 r.2) := by
  have hj : j < M.length * 2 := by
    rw [← rgC_len]
    exact (List.getElem?_eq_some_iff.1 hu).1
  obtain ⟨r, hr⟩ : ∃ r, M[j / 2]? = some r := ⟨_, List.getElem?_eq_getElem (by omega)⟩
  obtain ⟨h0, h1⟩ := rgC_get M (j / 2) r hr
  refine ⟨j / 2, r, hr, ?_⟩
  rcases Nat.mod_two_eq_zero_or_one j with h | h
  · have e : j = j / 2 * 2 := by omega
    rw [← e, hu] at h0
    exact Or.inl ⟨e, by simpa using h0⟩
  · have e : j = j / 2 * 2 + 1 := by omega
    rw [← e, hu] at h1
    exact Or.inr ⟨e, by simpa using h1⟩
theorem rgC_set : ∀ (L : List Rg) (i : Nat) (r : Rg), i < L.length → ((rgC L).set (i * 2) (.int .i64 r.1)).set (i * 2 + 1) (.int .i64 r.2) = rgC (L.set i r)
  | [], _, _, h => by simp at h
  | x :: l, 0, r, _ => by simp [rgC]
  | x :: l, i + 1, r, h => by
    have ih := rgC_set l i r (by simpa using h)
    have e1 : (i + 1) * 2 = i * 2 + 1 + 1 := by omega
    simp only [rgC, List.set_cons_succ, e1]
    rw [← ih]
theorem rgC_set2 (L : List Rg) (i : Nat) (r : Rg) (b : Int) (hr : L[i]? = some r) : (rgC L).set (i * 2 + 1) (.int .i64 b) = rgC (L.set i (r.1, b)) := by
  have h := rgC_set L i (r.1, b) (List.getElem?_eq_some_iff.1 hr).1
  rw [← h]
  congr 1
  obtain ⟨h0, -⟩ := rgC_get L i r hr
  obtain ⟨hl, he⟩ := List.getElem?_eq_some_iff.1 h0
  rw [← he, List.set_getElem_self]
theorem infoRg : (Try.prog.info? 25).map (fun i => (i.zero, i.size, i.bytes)) = some (some (.agg #[.int .i64 0, .int .i64 0]), 2, 16) := by kernel_rfl
/-- A list of ranges of one's own. -/
structure RgOwn (base : Nat) (w : World) (v : Value) (L : List Rg) : Prop where
  row : w.ownsRow base 25 2 v L.length (rgC L)
section
variable {base : Nat} {w w' : World} {v : Value} {L : List Rg}
theorem RgOwn.nil (base : Nat) (w : World) : RgOwn base w (.slice none 0 0) [] := ⟨World.ownsRow_nil w base _ _⟩
theorem RgOwn.keep {bs : List Nat} (h : RgOwn base w v L) (ha : Apart bs w w') (hb : ∀ k ∈ bs, k < base) : RgOwn base w' v L := by
  refine ⟨⟨h.row.1, ?_⟩⟩
  rcases h.row.2 with h2 | ⟨g', cap', cur, rfl, h1, hh, rest⟩
  · exact .inl h2
  · exact .inr ⟨g', cap', cur, rfl, h1, (ha.block g' (by rcases Nat.lt_or_ge g' w.heap.size with h | h; exact h; rw [Array.getElem?_eq_none h] at hh; cases hh) (fun hm => by have := hb _ hm; omega)).trans hh, rest⟩
theorem RgOwn.below (h : RgOwn base w v L) (hb : Below w.heap.size w w') : RgOwn base w' v L := h.keep (Apart.of_below (bs := []) hb) (by simp)
theorem RgOwn.lt (h : RgOwn base w v L) (hn : L ≠ []) : ∃ g cap, v = .slice (some ⟨g, 0, none⟩) L.length cap ∧ L.length ≤ cap ∧ base ≤ g ∧ g < w.heap.size ∧ (∀ j, w.frozen? ⟨g, j, none⟩ = false) ∧ ∀ k x, L[k]? = some x → w.cell? ⟨g, k * 2, none⟩ = some (.int .i64 x.1) ∧ w.cell? ⟨g, k * 2 + 1, none⟩ = some (.int .i64 x.2) := by
  rcases h.row.2 with ⟨rfl, h0⟩ | ⟨g', cap', cur, rfl, h1, hh, h2, h3, h4, h5⟩
  · exact absurd (List.length_eq_zero_iff.1 h0) hn
  · refine ⟨g', cap', rfl, h2, h1, ?_, fun j => ?_, fun k r hr => ?_⟩
    · rcases Nat.lt_or_ge g' w.heap.size with h | h
      · exact h
      · rw [Array.getElem?_eq_none h] at hh; cases hh
    · simp [World.frozen?, hh]
    · obtain ⟨c0, c1⟩ := rgC_get L k r hr
      have hk : k < L.length := (List.getElem?_eq_some_iff.1 hr).1
      have hc : ∀ j, j < L.length * 2 → w.cell? ⟨g', j, none⟩ = (rgC L)[j]? := fun j hj => h.row.cellAt j hj
      exact ⟨by rw [hc _ (by omega)]; exact c0, by rw [hc _ (by omega)]; exact c1⟩
theorem RgOwn.at (h : RgOwn base w v L) : RgAt w v L := by
  by_cases hn : L = []
  · subst hn
    rcases h.row.2 with ⟨rfl, h0⟩ | ⟨g', cap', cur, rfl, h1, hh, h2, h3, h4, h5⟩
    · exact RgAt.nil _ _ _
    · exact RgAt.nil _ _ _
  · obtain ⟨g, cap, rfl, h1, _, h2, _, h3⟩ := h.lt hn
    exact ⟨_, cap, rfl, h1, fun _ => ⟨g, 0, rfl, h2, fun k x hk => by simpa using h3 k x hk⟩⟩
theorem RgOwn.form (h : RgOwn base w v L) : ∃ a cap, v = .slice a L.length cap := by
  obtain ⟨a, cap, hv, -, -⟩ := h.at
  exact ⟨a, cap, hv⟩
theorem RgOwn.appends (h : RgOwn base w v L) (a : Addr) (m c : Nat) (M : List Rg) (hm : M.length = m) (hc : ∀ k r, M[k]? = some r → w.cell? (a.add (k * 2)) = some (.int .i64 r.1) ∧ w.cell? (a.add (k * 2 + 1)) = some (.int .i64 r.2)) (hn : L.length + m ≤ 1000000) (hbase : base ≤ w.heap.size) (ty : TypeId) :
    ∃ v' w', (Builtin.append_ #[22, 22] ty #[v, .slice (some a) m c]).run Try.prog w = .ok v' w' ∧ RgOwn base w' v' (L ++ M) ∧ Below base w w' ∧ ∀ b, b < w.heap.size → some b ≠ v.ownBlock → w'.heap[b]? = w.heap[b]? := by
  obtain ⟨i0, hi, hz0, hz1, hz2⟩ := info_parts3 infoRg
  obtain ⟨v', w', hrun, hown, hgrow, -⟩ := run_append_own (P := Try.prog) w base 22 ty 25 i0 (.agg #[.int .i64 0, .int .i64 0]) 2 16 Try.underlying22 hi hz0 hz1 hz2 (by simp [Value.cells]) (by decide)
    v L.length _ h.row a m c (rgC M) (by rw [rgC_len, hm]) (fun j u hu => by
      obtain ⟨k, r, hr, (⟨rfl, rfl⟩ | ⟨rfl, rfl⟩)⟩ := rgC_at M j u hu
      · exact (hc k r hr).1
      · exact (hc k r hr).2) (rgC_one M) (by unfold maxLen; omega) (by omega) hbase
  refine ⟨v', w', hrun, ⟨?_⟩, (Below.refl base w).grown hgrow hbase (fun k hk => (h.row.lt k hk).1), fun b hb hne => hgrow.block b hb hne⟩
  rw [List.length_append, rgC_append, hm]
  exact hown
theorem RgOwn.append_none (h : RgOwn base w v L) (ty : TypeId) : (Builtin.append_ #[22, 22] ty #[v, .slice none 0 0]).run Try.prog w = .ok v w := by
  obtain ⟨i0, hi, hz0, hz1, hz2⟩ := info_parts3 infoRg
  exact run_append_owned_none (P := Try.prog) (w := w) base 22 ty 25 i0 2 Try.underlying22 hi v L.length _ h.row
/-- One range more. -/
theorem RgOwn.push (h : RgOwn base w v L) (r : Rg) (a : Addr) (c : Nat) (hc0 : w.cell? a = some (.int .i64 r.1)) (hc1 : w.cell? (a.add 1) = some (.int .i64 r.2)) (hn : L.length < 1000000) (hbase : base ≤ w.heap.size) (ty : TypeId) :
    ∃ v' w', (Builtin.append_ #[22, 22] ty #[v, .slice (some a) 1 c]).run Try.prog w = .ok v' w' ∧ RgOwn base w' v' (L ++ [r]) ∧ Below base w w' ∧ ∀ b, b < w.heap.size → some b ≠ v.ownBlock → w'.heap[b]? = w.heap[b]? :=
  h.appends a 1 c [r] rfl (fun k x hk => by
    match k with
    | 0 =>
      simp at hk; subst hk
      have : a.add (0 * 2) = a := by simp [Addr.add]
      rw [this]; exact ⟨hc0, by simpa using hc1⟩
    | k + 1 => simp at hk) (by omega) hbase ty
theorem RgOwn.own_lt (h : RgOwn base w v L) {g : Nat} (hg : v.ownBlock = some g) : g < w.heap.size := (h.row.lt g hg).2
theorem RgOwn.mono {base' : Nat} (h : RgOwn base w v L) (hb : base' ≤ base) : RgOwn base' w v L := ⟨⟨h.row.1, by
  rcases h.row.2 with h2 | ⟨g', cap', cur, hv, h1, rest⟩
  · exact .inl h2
  · exact .inr ⟨g', cap', cur, hv, Nat.le_trans hb h1, rest⟩⟩⟩
theorem rgOwn_new (W : World) (n : Nat) (hn : W.heap.size = n) (hb : base ≤ W.heap.size) : RgOwn base (W.alloc (.cells #[] 25)) (.slice (some ⟨n, 0, none⟩) 0 0) [] := by
  subst hn
  exact ⟨⟨by simp [rgC], Or.inr ⟨_, 0, #[], rfl, hb, heap_alloc_new _ _, Nat.le_refl _, by simp, by simp, by simp [rgC]⟩⟩⟩
/-- The end of a range of one's own is stored. -/
theorem RgOwn.setTo {g n cap i : Nat} (h : RgOwn base w (.slice (some ⟨g, 0, none⟩) n cap) L) (hn : n = L.length) {r : Rg} (hr : L[i]? = some r) (b : Int) :
    RgOwn base (w.setCell ⟨g, i * 2 + 1, none⟩ (.int .i64 b)) (.slice (some ⟨g, 0, none⟩) n cap) (L.set i (r.1, b)) := by
  subst hn
  have h1 := (h.row.stored (i * 2 + 1) (.int .i64 b)).1
  rw [rgC_set2 L i r b hr] at h1
  exact ⟨by rw [List.length_set]; exact h1⟩
end
theorem cell_heap {w w' : World} {g : Nat} (h : w'.heap[g]? = w.heap[g]?) (j : Nat) : w'.cell? ⟨g, j, none⟩ = w.cell? ⟨g, j, none⟩ := by simp only [World.cell?, h]
theorem frozen_heap {w w' : World} {g : Nat} (h : w'.heap[g]? = w.heap[g]?) (j : Nat) : w'.frozen? ⟨g, j, none⟩ = w.frozen? ⟨g, j, none⟩ := by simp only [World.frozen?, h]
/-- A range in a box of its own. -/
structure Box (w : World) (b : Nat) (x y : Int) : Prop where
  c0 : w.cell? ⟨b, 0, none⟩ = some (.int .i64 x)
  c1 : w.cell? ⟨b, 1, none⟩ = some (.int .i64 y)
  fz : ∀ j, w.frozen? ⟨b, j, none⟩ = false
theorem Box.below {w w' : World} {b : Nat} {x y : Int} (h : Box w b x y) (hb : Below w.heap.size w w') : Box w' b x y :=
  have hl : b < w.heap.size := lt_of_cell (a := ⟨b, 0, none⟩) h.c0
  ⟨(hb.cell (p := ⟨b, 0, none⟩) hl).trans h.c0, (hb.cell (p := ⟨b, 1, none⟩) hl).trans h.c1, fun j => (World.frozen?_of_block (w := w) (hb.block b hl)).trans (h.fz j)⟩
theorem Box.lt {w : World} {b : Nat} {x y : Int} (h : Box w b x y) : b < w.heap.size := lt_of_cell (a := ⟨b, 0, none⟩) h.c0
theorem box_at (w : World) (x y : Int) : Box (w.alloc (Obj.cells #[Value.int .i64 x, Value.int .i64 y] 25)) w.heap.size x y := ⟨by simp, by simp, by simp⟩
theorem box_new (w : World) (o : Obj) : Below w.heap.size w (w.alloc o) := (Below.refl _ _).alloc (Nat.le_refl _) _
/-- A list of numbers of the statement's own. -/
structure Kept (base : Nat) (w : World) (v : Value) (ks : List Int) : Prop where
  row : w.ownsRow base 3 1 v ks.length (ks.map encZ)
theorem Kept.nil (base : Nat) (w : World) : Kept base w (.slice none 0 0) [] := ⟨World.ownsRow_nil w base _ _⟩
theorem Kept.keep {base : Nat} {w w' : World} {v : Value} {ks : List Int} {bs : List Nat} (h : Kept base w v ks) (ha : Apart bs w w') (hb : ∀ k ∈ bs, k < base) : Kept base w' v ks := by
  refine ⟨h.row.1, ?_⟩
  rcases h.row.2 with h0 | ⟨g, cap, cur, hv, h1, hh, rest⟩
  · exact Or.inl h0
  · have hlt : g < w.heap.size := by
      rcases Nat.lt_or_ge g w.heap.size with h | h
      · exact h
      · rw [Array.getElem?_eq_none h] at hh; cases hh
    exact Or.inr ⟨g, cap, cur, hv, h1, (ha.block g hlt (fun hm => absurd (hb g hm) (by omega))).trans hh, rest⟩
theorem Kept.below {base : Nat} {w w' : World} {v : Value} {ks : List Int} (h : Kept base w v ks) (hb : Below w.heap.size w w') : Kept base w' v ks := h.keep (Apart.of_below (bs := []) hb) (by simp)
/-- It as it lies. -/
theorem Kept.form {base : Nat} {w : World} {v : Value} {ks : List Int} (h : Kept base w v ks) : ∃ a cap, v = .slice a ks.length cap ∧ (ks ≠ [] → ∃ b, a = some ⟨b, 0, none⟩ ∧ base ≤ b ∧ b < w.heap.size ∧ ∀ k, k < ks.length → w.cell? ⟨b, k, none⟩ = some (.int .i64 (ks.getD k 0))) := by
  rcases h.row.2 with ⟨rfl, h0⟩ | ⟨g', cap', cur, rfl, h1, hh, h2, h3, h4, h5⟩
  · exact ⟨none, 0, by rw [h0], fun e => absurd (List.length_eq_zero_iff.1 h0) e⟩
  · refine ⟨_, cap', rfl, fun _ => ⟨g', rfl, h1, ?_, fun k hk => ?_⟩⟩
    · rcases Nat.lt_or_ge g' w.heap.size with h | h
      · exact h
      · rw [Array.getElem?_eq_none h] at hh; cases hh
    · have hc := h.row.cellAt k (by omega)
      rw [hc]
      simp [List.getD, hk, encZ]
theorem Try.infoInt : (Try.prog.info? 3).map (fun i => (i.zero, i.size, i.bytes)) = some (some (.int .i64 0), 1, 8) := by kernel_rfl
theorem Kept.mono {base base' : Nat} {w : World} {v : Value} {ks : List Int} (h : Kept base w v ks) (hb : base' ≤ base) : Kept base' w v ks := ⟨⟨h.row.1, by
  rcases h.row.2 with h2 | ⟨g', cap', cur, hv, h1, rest⟩
  · exact .inl h2
  · exact .inr ⟨g', cap', cur, hv, Nat.le_trans hb h1, rest⟩⟩⟩
theorem one_cell (w : World) (x : Value) (n : Nat) (hn : w.heap.size = n) : (w.alloc (.cells #[x] 3)).cell? ⟨n, 0, none⟩ = some x := by subst hn; simp
theorem kept_append {base : Nat} {w : World} {v : Value} {ks : List Int} (h : Kept base w v ks) (a : Addr) (m c : Nat) (ys : List Int) (hm : ys.length = m) (hc : ∀ j, j < m → w.cell? (a.add j) = some (.int .i64 (ys.getD j 0))) (hn : ks.length + m ≤ 1000000) (hbase : base ≤ w.heap.size) (ty : TypeId) :
    ∃ v' w', (Builtin.append_ #[30, 30] ty #[v, .slice (some a) m c]).run Try.prog w = .ok v' w' ∧ Kept base w' v' (ks ++ ys) ∧ Below base w w' ∧ ∀ b, b < w.heap.size → some b ≠ v.ownBlock → w'.heap[b]? = w.heap[b]? := by
  obtain ⟨i0, hi, hz0, hz1, hz2⟩ := info_parts3 Try.infoInt
  obtain ⟨v', w', hrun, hown, hgrow, -⟩ := run_append_own (P := Try.prog) w base 30 ty 3 i0 (.int .i64 0) 1 8 Try.underlying30 hi hz0 hz1 hz2 (by simp [Value.cells]) (by decide)
    v ks.length _ h.row a m c (ys.map encZ) (by simp [hm]) (fun j u hu => by
      have hj : j < m := by
        rcases Nat.lt_or_ge j m with h | h
        · exact h
        · rw [List.getElem?_eq_none (by simp [hm]; omega)] at hu; cases hu
      rw [hc j hj, ← hu]
      simp [List.getD, hm, hj, encZ]) (by intro u hu; obtain ⟨z, _, rfl⟩ := List.mem_map.1 hu; rfl) (by unfold maxLen; omega) (by omega) hbase
  refine ⟨v', w', hrun, ⟨?_⟩, (Below.refl base w).grown hgrow hbase (fun k hk => (h.row.lt k hk).1), hgrow.block⟩
  rw [List.length_append, List.map_append, hm]
  exact hown
end Go.Proofs.Ytfnfhabepadikaa
