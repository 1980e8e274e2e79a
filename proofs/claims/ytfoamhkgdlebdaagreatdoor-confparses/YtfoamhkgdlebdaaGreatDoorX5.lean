/- Lists of blobs of one's own; an entry in memory; what a line says. -/
import Derived.Test.YtfoamhkgdlebdaaGreatDoorX3
import Derived.Laws.ResultCell
import Derived.Laws.AppendOwn
import Derived.Laws.AppendOwnNone
import Derived.Deep.Heap
namespace Go.Proofs.YtfoamhkgdlebdaaGreatDoor
open Go.RowKit Go.Extern.Stop Go.Stop Go.Extern
set_option maxRecDepth 100000

theorem wpList_append_eq {P : Program} {ops : Array Oper} {rest : List Oper} {o : Oper} {a : Act} {w : World} {Q : Exit → Act → World → Prop} (s x : Operand) (t : TypeId)
    (ho : o.op = .call { callee := .builtin .append, args := #[s, x], argTypes := #[t, t] }) (v xv v' : Value) (w' : World) (hs : a.eval s = v) (hx : a.eval x = xv)
    (hr : (Builtin.append_ #[t, t] o.type #[v, xv]).run P w = .ok v' w') (hg : Region.wanted o (yielded ops a.tmps) = true) (h : wpList P ops Q rest (a.put o.dst v') w') : wpList P ops Q (o :: rest) a w :=
  wpList_step fun K hK => by
    rw [if_pos hg]
    unfold Oper.wp execOp
    simp only [ho, resolve, invoke, builtin, Sem.run_bind, Sem.run_pure, Result.andThen_ok, List.map_toArray, List.map_cons, List.map_nil, hs, hx, hr]
    exact hK _ _ h
def blC : List Bl → List Value
  | [] => []
  | b :: l => .string (mkB b.1) :: .string (mkB b.2) :: blC l
theorem blC_len : ∀ L, (blC L).length = L.length * 2
  | [] => rfl
  | _ :: r => by simp [blC, blC_len r]; omega
theorem blC_append : ∀ a b, blC (a ++ b) = blC a ++ blC b
  | [], _ => rfl
  | p :: r, b => by simp [blC, blC_append r b]
theorem blC_get : ∀ (L : List Bl) (k : Nat) (r : Bl), L[k]? = some r → (blC L)[k * 2]? = some (.string (mkB r.1)) ∧ (blC L)[k * 2 + 1]? = some (.string (mkB r.2))
  | [], k, p, h => by simp at h
  | q :: r, 0, p, h => by simp at h; subst h; exact ⟨rfl, rfl⟩
  | q :: r, k + 1, p, h => by
    have := blC_get r k p (by simpa using h)
    rw [show (k + 1) * 2 = k * 2 + 2 by omega]
    simpa [blC] using this
theorem blC_one : ∀ (L : List Bl), ∀ u ∈ blC L, u.oneCell' = true
  | [], u, hu => by cases hu
  | q :: r, u, hu => by
    rcases List.mem_cons.1 hu with rfl | hu
    · rfl
    · rcases List.mem_cons.1 hu with rfl | hu
      · rfl
      · exact blC_one r u hu
/-- A list of records of one's own. -/
structure BlOwn (base : Nat) (w : World) (v : Value) (L : List Bl) : Prop where
  row : w.ownsRow base 26 2 v L.length (blC L)
section
variable {base : Nat} {w w' : World} {v : Value} {L : List Bl}
theorem BlOwn.nil (base : Nat) (w : World) : BlOwn base w (.slice none 0 0) [] := ⟨World.ownsRow_nil w base _ _⟩
theorem BlOwn.keep {bs : List Nat} (h : BlOwn base w v L) (ha : Apart bs w w') (hb : ∀ k ∈ bs, k < base) : BlOwn base w' v L := by
  refine ⟨⟨h.row.1, ?_⟩⟩
  rcases h.row.2 with h2 | ⟨g', cap', cur, rfl, h1, hh, rest⟩
  · exact .inl h2
  · exact .inr ⟨g', cap', cur, rfl, h1, (ha.block g' (by rcases Nat.lt_or_ge g' w.heap.size with h | h; exact h; rw [Array.getElem?_eq_none h] at hh; cases hh) (fun hm => by have := hb _ hm; omega)).trans hh, rest⟩
theorem BlOwn.below (h : BlOwn base w v L) (hb : Below w.heap.size w w') : BlOwn base w' v L := h.keep (Apart.of_below (bs := []) hb) (by simp)
theorem BlOwn.at (h : BlOwn base w v L) : BlobsAt w v L := by
  rcases h.row.2 with ⟨rfl, h0⟩ | ⟨g', cap', cur, rfl, h1, hh, h2, h3, h4, h5⟩
  · exact ⟨none, 0, by rw [h0], by omega, fun hne => absurd (List.length_eq_zero_iff.1 h0) hne⟩
  · refine ⟨_, cap', rfl, h2, fun hne => ⟨g', 0, rfl, ?_, fun k r hr => ?_⟩⟩
    · rcases Nat.lt_or_ge g' w.heap.size with h | h
      · exact h
      · rw [Array.getElem?_eq_none h] at hh; cases hh
    · obtain ⟨c0, c1⟩ := blC_get L k r hr
      have hk : k < L.length := (List.getElem?_eq_some_iff.1 hr).1
      have hc : ∀ j, j < L.length * 2 → w.cell? ⟨g', j, none⟩ = (blC L)[j]? := fun j hj => h.row.cellAt j hj
      exact ⟨by rw [Nat.zero_add, hc _ (by omega)]; exact c0, by rw [Nat.zero_add, hc _ (by omega)]; exact c1⟩
theorem BlOwn.form (h : BlOwn base w v L) : ∃ a cap, v = .slice a L.length cap := by
  obtain ⟨a, cap, hv, -, -⟩ := h.at
  exact ⟨a, cap, hv⟩
/-- One record more: what append answers. -/
theorem BlOwn.push {ST : TypeId} (h : BlOwn base w v L) (hu : Tryz.prog.underlying ST = some (.slice 26)) (hi0 : (Tryz.prog.info? 26).map (fun i => (i.zero, i.size, i.bytes)) = some (some (.agg #[.string ⟨#[]⟩, .string ⟨#[]⟩]), 2, 32)) (r : Bl) (a : Addr) (c : Nat) (hc0 : w.cell? a = some (.string (mkB r.1))) (hc1 : w.cell? (a.add 1) = some (.string (mkB r.2))) (hn : L.length ≤ 1000) (hbase : base ≤ w.heap.size) (ty : TypeId) :
    ∃ v' w', (Builtin.append_ #[ST, ST] ty #[v, .slice (some a) 1 c]).run Tryz.prog w = .ok v' w' ∧ BlOwn base w' v' (L ++ [r]) ∧ Below base w w' := by
  obtain ⟨i0, hi, hz0, hz1, hz2⟩ := info_parts3 hi0
  obtain ⟨v', w', hrun, hown, hgrow, -⟩ := run_append_own (P := Tryz.prog) w base ST ty 26 i0 (.agg #[.string ⟨#[]⟩, .string ⟨#[]⟩]) 2 32 hu hi hz0 hz1 hz2 (by simp [Value.cells]) (by decide)
    v L.length _ h.row a 1 c (blC [r]) rfl (fun j u hu => by
      match j with
      | 0 =>
        have : a.add 0 = a := by simp [Addr.add]
        rw [this, hc0]; simpa [blC] using hu
      | 1 => rw [hc1]; simpa [blC] using hu
      | j + 2 => simp [blC] at hu) (blC_one [r]) (by unfold maxLen; omega) (by omega) hbase
  refine ⟨v', w', hrun, ⟨by rw [List.length_append, blC_append]; exact hown⟩, (Below.refl base w).grown hgrow hbase (fun k hk => (h.row.lt k hk).1)⟩
theorem BlOwn.mono {base' : Nat} (h : BlOwn base w v L) (hb : base' ≤ base) : BlOwn base' w v L := ⟨⟨h.row.1, by
  rcases h.row.2 with h2 | ⟨g', cap', cur, hv, h1, rest⟩
  · exact .inl h2
  · exact .inr ⟨g', cap', cur, hv, Nat.le_trans hb h1, rest⟩⟩⟩
/-- It stays where its own block does. -/
theorem BlOwn.stay (h : BlOwn base w v L) (hb : ∀ g, v.ownBlock = some g → w'.heap[g]? = w.heap[g]?) : BlOwn base w' v L := by
  refine ⟨⟨h.row.1, ?_⟩⟩
  rcases h.row.2 with h2 | ⟨g', cap', cur, rfl, h1, hh, rest⟩
  · exact .inl h2
  · exact .inr ⟨g', cap', cur, rfl, h1, (hb g' rfl).trans hh, rest⟩
theorem blC_at (M : List Bl) (j : Nat) (u : Value) (hu : (blC M)[j]? = some u) : ∃ k r, M[k]? = some r ∧ (j = k * 2 ∧ u = .string (mkB r.1) ∨ j = k * 2 + 1 ∧ u = .string (mkB r.2)) := by
  have hj : j < M.length * 2 := by
    rw [← blC_len]
    exact (List.getElem?_eq_some_iff.1 hu).1
  obtain ⟨r, hr⟩ : ∃ r, M[j / 2]? = some r := ⟨_, List.getElem?_eq_getElem (by omega)⟩
  obtain ⟨h0, h1⟩ := blC_get M (j / 2) r hr
  refine ⟨j / 2, r, hr, ?_⟩
  rcases Nat.mod_two_eq_zero_or_one j with h | h
  · have e : j = j / 2 * 2 := by omega
    rw [← e, hu] at h0
    exact Or.inl ⟨e, by simpa using h0⟩
  · have e : j = j / 2 * 2 + 1 := by omega
    rw [← e, hu] at h1
    exact Or.inr ⟨e, by simpa using h1⟩
theorem BlOwn.appends {ST : TypeId} (h : BlOwn base w v L) (hu : Tryz.prog.underlying ST = some (.slice 26)) (hi0 : (Tryz.prog.info? 26).map (fun i => (i.zero, i.size, i.bytes)) = some (some (.agg #[.string ⟨#[]⟩, .string ⟨#[]⟩]), 2, 32)) (a : Addr) (m c : Nat) (M : List Bl) (hm : M.length = m) (hc : ∀ k r, M[k]? = some r → w.cell? (a.add (k * 2)) = some (.string (mkB r.1)) ∧ w.cell? (a.add (k * 2 + 1)) = some (.string (mkB r.2))) (hn : L.length + m ≤ 1000) (hbase : base ≤ w.heap.size) (ty : TypeId) :
    ∃ v' w', (Builtin.append_ #[ST, ST] ty #[v, .slice (some a) m c]).run Tryz.prog w = .ok v' w' ∧ BlOwn base w' v' (L ++ M) ∧ Below base w w' ∧ ∀ b, b < w.heap.size → some b ≠ v.ownBlock → w'.heap[b]? = w.heap[b]? := by
  obtain ⟨i0, hi, hz0, hz1, hz2⟩ := info_parts3 hi0
  obtain ⟨v', w', hrun, hown, hgrow, -⟩ := run_append_own (P := Tryz.prog) w base ST ty 26 i0 (.agg #[.string ⟨#[]⟩, .string ⟨#[]⟩]) 2 32 hu hi hz0 hz1 hz2 (by simp [Value.cells]) (by decide)
    v L.length _ h.row a m c (blC M) (by rw [blC_len, hm]) (fun j u hu => by
      obtain ⟨k, r, hr, (⟨rfl, rfl⟩ | ⟨rfl, rfl⟩)⟩ := blC_at M j u hu
      · exact (hc k r hr).1
      · exact (hc k r hr).2) (blC_one M) (by unfold maxLen; omega) (by omega) hbase
  refine ⟨v', w', hrun, ⟨?_⟩, (Below.refl base w).grown hgrow hbase (fun k hk => (h.row.lt k hk).1), fun b hb hne => hgrow.block b hb hne⟩
  rw [List.length_append, blC_append, hm]
  exact hown
theorem BlOwn.append_none {ST : TypeId} (h : BlOwn base w v L) (hu : Tryz.prog.underlying ST = some (.slice 26)) (hi0 : (Tryz.prog.info? 26).map (fun i => (i.zero, i.size, i.bytes)) = some (some (.agg #[.string ⟨#[]⟩, .string ⟨#[]⟩]), 2, 32)) (ty : TypeId) : (Builtin.append_ #[ST, ST] ty #[v, .slice none 0 0]).run Tryz.prog w = .ok v w := by
  obtain ⟨i0, hi, hz0, hz1, hz2⟩ := info_parts3 hi0
  exact run_append_owned_none (P := Tryz.prog) (w := w) base ST ty 26 i0 2 hu hi v L.length _ h.row
theorem recOwn_new (W : World) (n : Nat) (hn : W.heap.size = n) (hb : base ≤ W.heap.size) : BlOwn base (W.alloc (.cells #[] 26)) (.slice (some ⟨n, 0, none⟩) 0 0) [] := by
  subst hn
  exact ⟨⟨by simp [blC], Or.inr ⟨_, 0, #[], rfl, hb, heap_alloc_new _ _, Nat.le_refl _, by simp, by simp, by simp [blC]⟩⟩⟩
theorem blC_set : ∀ (L : List Bl) (i : Nat) (r : Bl), i < L.length → ((blC L).set (i * 2) (.string (mkB r.1))).set (i * 2 + 1) (.string (mkB r.2)) = blC (L.set i r)
  | [], _, _, h => by simp at h
  | x :: l, 0, r, _ => by simp [blC]
  | x :: l, i + 1, r, h => by
    have ih := blC_set l i r (by simpa using h)
    have e1 : (i + 1) * 2 = i * 2 + 1 + 1 := by omega
    simp only [blC, List.set_cons_succ, e1]
    rw [← ih]
theorem BlOwn.setAt {g n cap i : Nat} (h : BlOwn base w (.slice (some ⟨g, 0, none⟩) n cap) L) (hn : n = L.length) (hi : i < L.length) (r : Bl) :
    BlOwn base ((w.setCell ⟨g, i * 2, none⟩ (.string (mkB r.1))).setCell ⟨g, i * 2 + 1, none⟩ (.string (mkB r.2))) (.slice (some ⟨g, 0, none⟩) n cap) (L.set i r) := by
  subst hn
  have h1 := (h.row.stored (i * 2) (.string (mkB r.1))).1
  have h2 := (h1.stored (i * 2 + 1) (.string (mkB r.2))).1
  rw [blC_set L i r hi] at h2
  exact ⟨by rw [List.length_set]; exact h2⟩
theorem BlOwn.form2 (h : BlOwn base w v L) : (v = .slice none 0 0 ∧ L = []) ∨ ∃ g cap, v = .slice (some ⟨g, 0, none⟩) L.length cap ∧ base ≤ g ∧ g < w.heap.size ∧ ∀ j, w.frozen? ⟨g, j, none⟩ = false := by
  rcases h.row.2 with ⟨rfl, h0⟩ | ⟨g', cap', cur, rfl, h1, hh, h2, h3, h4, h5⟩
  · exact Or.inl ⟨rfl, List.length_eq_zero_iff.1 h0⟩
  · refine Or.inr ⟨g', cap', rfl, h1, ?_, fun j => ?_⟩
    · rcases Nat.lt_or_ge g' w.heap.size with h | h
      · exact h
      · rw [Array.getElem?_eq_none h] at hh; cases hh
    · simp [World.frozen?, hh]
end
theorem cell_heap {w w' : World} {g : Nat} (h : w'.heap[g]? = w.heap[g]?) (j : Nat) : w'.cell? ⟨g, j, none⟩ = w.cell? ⟨g, j, none⟩ := by simp only [World.cell?, h]
theorem frozen_heap {w w' : World} {g : Nat} (h : w'.heap[g]? = w.heap[g]?) (j : Nat) : w'.frozen? ⟨g, j, none⟩ = w.frozen? ⟨g, j, none⟩ := by simp only [World.frozen?, h]
theorem set_heap {w w' : World} {g : Nat} (h : w'.heap[g]? = w.heap[g]?) (j : Nat) (v : Value) : (w'.setCell ⟨g, j, none⟩ v).heap[g]? = (w.setCell ⟨g, j, none⟩ v).heap[g]? := by
  simp only [World.setCell, Array.getElem?_modify, h]

/-! an entry in memory -/
structure EnAt (w : World) (b : Nat) (x : En) (v : Value) : Prop where
  c0 : w.cell? ⟨b, 0, none⟩ = some (.string (mkB x.ver))
  c1 : w.cell? ⟨b, 1, none⟩ = some (.string (mkB x.kn))
  c2 : w.cell? ⟨b, 2, none⟩ = some (.string (mkB x.ks))
  c3 : w.cell? ⟨b, 3, none⟩ = some v
  c4 : w.cell? ⟨b, 4, none⟩ = some (.string (mkB x.op))
theorem EnAt.lt {w : World} {b : Nat} {x : En} {v : Value} (h : EnAt w b x v) : b < w.heap.size := lt_of_cell (a := ⟨b, 0, none⟩) h.c0
theorem EnAt.keep {w w' : World} {b : Nat} {x : En} {v : Value} {bs : List Nat} (h : EnAt w b x v) (ha : Apart bs w w') (hn : b ∉ bs) : EnAt w' b x v :=
  ⟨(ha.cell (p := ⟨b, 0, none⟩) h.lt hn).trans h.c0, (ha.cell (p := ⟨b, 1, none⟩) h.lt hn).trans h.c1, (ha.cell (p := ⟨b, 2, none⟩) h.lt hn).trans h.c2, (ha.cell (p := ⟨b, 3, none⟩) h.lt hn).trans h.c3, (ha.cell (p := ⟨b, 4, none⟩) h.lt hn).trans h.c4⟩
theorem EnAt.below {w w' : World} {b : Nat} {x : En} {v : Value} (h : EnAt w b x v) (hb : Below w.heap.size w w') : EnAt w' b x v := h.keep (Apart.of_below (bs := []) hb) (by simp)
def e0 : En := ⟨[], [], [], [], []⟩
theorem enV0 (v : Value) : enV e0 v = .agg #[.string ⟨#[]⟩, .string ⟨#[]⟩, .string ⟨#[]⟩, v, .string ⟨#[]⟩] := rfl
theorem load_en {w : World} {b : Nat} {x : En} {v : Value} (h : EnAt w b x v) : (loadVar 29 ⟨b, 0, none⟩).run Tryz.prog w = .ok (enV x v) w := by
  have c0 := h.c0
  have c1 := h.c1
  have c2 := h.c2
  have c3 := h.c3
  have c4 := h.c4
  clear h
  unfold enV
  go_simp
theorem ret_en {fn : Func} {p u : Tmp} (h : fn.results = #[.cell p 29, .tmp u]) {tmps : Array Value} {w : World} {b : Nat} {x : En} {v : Value} (hp : tmps.getD p undef = .pointer (some ⟨b, 0, none⟩)) (hn : EnAt w b x v) :
    (results fn tmps).run Tryz.prog w = .ok (.tuple #[enV x v, tmps.getD u undef]) w := by
  rw [results_cell_tmp h, hp]
  simp [asAddr, Result.andThen, load_en hn]

/-! what a line says -/
def kwV : List UInt8 := [118, 101, 114, 115, 105, 111, 110]
def kwK : List UInt8 := [107, 101, 114, 110, 101, 108]
def kwE : List UInt8 := [101, 120, 116, 114, 97]
def kwO : List UInt8 := [111, 112, 116, 105, 111, 110, 115]
def nE (x : List UInt8) : Bool := !x.isEmpty
/-- A text laid where another stands. -/
def putT (old t : List UInt8) : Bool := old.isEmpty && nE t
def setB (b : Bl) (t : List UInt8) : Option Bl :=
  if putT b.1 (cutSp t).1 && putT b.2 (cutSp t).2 && blobB (cutSp t).1 (cutSp t).2 then some ((cutSp t).1, (cutSp t).2) else none
def takeW (e : En) (n s : List UInt8) : Option En :=
  if n == kwE && decide (e.ex.length < 8) then (setB ([], []) s).map fun b => ⟨e.ver, e.kn, e.ks, e.ex ++ [b], e.op⟩
  else if n == kwK then (setB (e.kn, e.ks) s).map fun b => ⟨e.ver, b.1, b.2, e.ex, e.op⟩
  else if n == kwV then if putT e.ver s && verB s then some ⟨s, e.kn, e.ks, e.ex, e.op⟩ else none
  else if n == kwO then if putT e.op s && optB s then some ⟨e.ver, e.kn, e.ks, e.ex, s⟩ else none
  else none
def takeL (e : En) : List UInt8 → Option En
  | [] => some e
  | c :: l => if c == 35 then some e else takeW e (cutSp (c :: l)).1 (cutSp (c :: l)).2
end Go.Proofs.YtfoamhkgdlebdaaGreatDoor
