/- Lists of tokens, and such of one's own. -/
import Derived.Test.YtnlcaabkbnppkaaDoorV4
namespace Go.Proofs.YtnlcaabkbnppkaaDoor
open Go Go.RowKit
set_option maxRecDepth 100000

theorem info_parts3 {P : Program} {t : TypeId} {z : Option Value} {a b : Nat} (h : (P.info? t).map (fun i => (i.zero, i.size, i.bytes)) = some (z, a, b)) : ∃ i, P.info? t = some i ∧ i.zero = z ∧ i.size = a ∧ i.bytes = b := by
  obtain ⟨i, hi, he⟩ := Option.map_eq_some_iff.1 h
  simp only [Prod.mk.injEq] at he
  exact ⟨i, hi, he.1, he.2.1, he.2.2⟩
theorem wpList_append_eq {P : Program} {ops : Array Oper} {rest : List Oper} {o : Oper} {a : Act} {w : World} {Q : Exit → Act → World → Prop} (s x : Operand) (t : TypeId)
    (ho : o.op = .call { callee := .builtin .append, args := #[s, x], argTypes := #[t, t] }) (v xv v' : Value) (w' : World) (hs : a.eval s = v) (hx : a.eval x = xv)
    (hr : (Builtin.append_ #[t, t] o.type #[v, xv]).run P w = .ok v' w') (hg : Region.wanted o (yielded ops a.tmps) = true) (h : wpList P ops Q rest (a.put o.dst v') w') : wpList P ops Q (o :: rest) a w :=
  wpList_step fun K hK => by
    rw [if_pos hg]
    unfold Oper.wp execOp
    simp only [ho, resolve, invoke, builtin, Sem.run_bind, Sem.run_pure, Result.andThen_ok, List.map_toArray, List.map_cons, List.map_nil, hs, hx, hr]
    exact hK _ _ h
/-- An append inside a region that draws. -/
theorem any_append {P : Program} {ops : Array Oper} {o : Oper} {a : Act} {w : World} {K : Act → World → Prop} {Q : Exit → Act → World → Prop} {s x : Operand} {t : TypeId} (hg : Region.wanted o (yielded ops a.tmps) = true)
    (ho : o.op = .call { callee := .builtin .append, args := #[s, x], argTypes := #[t, t] }) (v xv v' : Value) (w' : World) (hs : a.eval s = v) (hx : a.eval x = xv)
    (hr : (Builtin.append_ #[t, t] o.type #[v, xv]).run P w = .ok v' w') (h : K (a.put o.dst v') w') : if Region.wanted o (yielded ops a.tmps) = true then Oper.wp P o a w K Q else K (a.put o.dst undef) w := by
  rw [if_pos hg]
  unfold Oper.wp execOp
  simp only [ho, resolve, invoke, builtin, Sem.run_bind, Sem.run_pure, Result.andThen_ok, List.map_toArray, List.map_cons, List.map_nil, hs, hx, hr]
  exact h
def TksAt (w : World) (v : Value) (l : List Tok) : Prop := ∃ a cap, v = .slice a l.length cap ∧ l.length ≤ cap ∧ (l ≠ [] → ∃ b off, a = some ⟨b, off, none⟩ ∧ b < w.heap.size ∧ ∀ k x, l[k]? = some x → w.cell? ⟨b, off + k * 2, none⟩ = some (.int .i64 (x.1 : Int)) ∧ w.cell? ⟨b, off + k * 2 + 1, none⟩ = some (.string (mkB x.2)))
theorem TksAt.nil (w : World) (a : Option Addr) (cap : Nat) : TksAt w (.slice a 0 cap) [] := ⟨a, cap, rfl, Nat.zero_le _, fun h => absurd rfl h⟩
theorem TksAt.below {w w' : World} {v : Value} {l : List Tok} (h : TksAt w v l) (hb : Below w.heap.size w w') : TksAt w' v l := by
  obtain ⟨a, cap, hv, hl, hc⟩ := h
  refine ⟨a, cap, hv, hl, fun hn => ?_⟩
  obtain ⟨b, off, ha, hlt, hx⟩ := hc hn
  exact ⟨b, off, ha, Nat.lt_of_lt_of_le hlt hb.size, fun k x hk => ⟨(hb.cell (p := ⟨b, off + k * 2, none⟩) hlt).trans (hx k x hk).1, (hb.cell (p := ⟨b, off + k * 2 + 1, none⟩) hlt).trans (hx k x hk).2⟩⟩
def tkC : List Tok → List Value
  | [] => []
  | b :: l => .int .i64 (b.1 : Int) :: .string (mkB b.2) :: tkC l
theorem tkC_len : ∀ L, (tkC L).length = L.length * 2
  | [] => rfl
  | _ :: r => by simp [tkC, tkC_len r]; omega
theorem tkC_append : ∀ a b, tkC (a ++ b) = tkC a ++ tkC b
  | [], _ => rfl
  | p :: r, b => by simp [tkC, tkC_append r b]
theorem tkC_get : ∀ (L : List Tok) (k : Nat) (r : Tok), L[k]? = some r → (tkC L)[k * 2]? = some (.int .i64 (r.1 : Int)) ∧ (tkC L)[k * 2 + 1]? = some (.string (mkB r.2))
  | [], k, p, h => by simp at h
  | q :: r, 0, p, h => by simp at h; subst h; exact ⟨rfl, rfl⟩
  | q :: r, k + 1, p, h => by
    have := tkC_get r k p (by simpa using h)
    rw [show (k + 1) * 2 = k * 2 + 2 by omega]
    simpa [tkC] using this
theorem tkC_one : ∀ (L : List Tok), ∀ u ∈ tkC L, u.oneCell' = true
  | [], u, hu => by cases hu
  | q :: r, u, hu => by
    rcases List.mem_cons.1 hu with rfl | hu
    · rfl
    · rcases List.mem_cons.1 hu with rfl | hu
      · rfl
      · exact tkC_one r u hu
/-- A list of records of one's own. -/
structure TkOwn (base : Nat) (w : World) (v : Value) (L : List Tok) : Prop where
  row : w.ownsRow base 32 2 v L.length (tkC L)
section
variable {base : Nat} {w w' : World} {v : Value} {L : List Tok}
theorem TkOwn.nil (base : Nat) (w : World) : TkOwn base w (.slice none 0 0) [] := ⟨World.ownsRow_nil w base _ _⟩
theorem TkOwn.keep {bs : List Nat} (h : TkOwn base w v L) (ha : Apart bs w w') (hb : ∀ k ∈ bs, k < base) : TkOwn base w' v L := by
  refine ⟨⟨h.row.1, ?_⟩⟩
  rcases h.row.2 with h2 | ⟨g', cap', cur, rfl, h1, hh, rest⟩
  · exact .inl h2
  · exact .inr ⟨g', cap', cur, rfl, h1, (ha.block g' (by rcases Nat.lt_or_ge g' w.heap.size with h | h; exact h; rw [Array.getElem?_eq_none h] at hh; cases hh) (fun hm => by have := hb _ hm; omega)).trans hh, rest⟩
theorem TkOwn.below (h : TkOwn base w v L) (hb : Below w.heap.size w w') : TkOwn base w' v L := h.keep (Apart.of_below (bs := []) hb) (by simp)
theorem TkOwn.at (h : TkOwn base w v L) : TksAt w v L := by
  rcases h.row.2 with ⟨rfl, h0⟩ | ⟨g', cap', cur, rfl, h1, hh, h2, h3, h4, h5⟩
  · exact ⟨none, 0, by rw [h0], by omega, fun hne => absurd (List.length_eq_zero_iff.1 h0) hne⟩
  · refine ⟨_, cap', rfl, h2, fun hne => ⟨g', 0, rfl, ?_, fun k r hr => ?_⟩⟩
    · rcases Nat.lt_or_ge g' w.heap.size with h | h
      · exact h
      · rw [Array.getElem?_eq_none h] at hh; cases hh
    · obtain ⟨c0, c1⟩ := tkC_get L k r hr
      have hk : k < L.length := (List.getElem?_eq_some_iff.1 hr).1
      have hc : ∀ j, j < L.length * 2 → w.cell? ⟨g', j, none⟩ = (tkC L)[j]? := fun j hj => h.row.cellAt j hj
      exact ⟨by rw [Nat.zero_add, hc _ (by omega)]; exact c0, by rw [Nat.zero_add, hc _ (by omega)]; exact c1⟩
theorem TkOwn.form (h : TkOwn base w v L) : ∃ a cap, v = .slice a L.length cap := by
  obtain ⟨a, cap, hv, -, -⟩ := h.at
  exact ⟨a, cap, hv⟩
/-- One record more: what append answers. -/
theorem TkOwn.push {ST : TypeId} (h : TkOwn base w v L) (hu : Tryd.prog.underlying ST = some (.slice 32)) (hi0 : (Tryd.prog.info? 32).map (fun i => (i.zero, i.size, i.bytes)) = some (some (.agg #[.int .i64 0, .string ⟨#[]⟩]), 2, 24)) (r : Tok) (a : Addr) (c : Nat) (hc0 : w.cell? a = some (.int .i64 (r.1 : Int))) (hc1 : w.cell? (a.add 1) = some (.string (mkB r.2))) (hn : L.length ≤ 1000) (hbase : base ≤ w.heap.size) (ty : TypeId) :
    ∃ v' w', (Builtin.append_ #[ST, ST] ty #[v, .slice (some a) 1 c]).run Tryd.prog w = .ok v' w' ∧ TkOwn base w' v' (L ++ [r]) ∧ Below base w w' ∧ ∀ b, b < w.heap.size → some b ≠ v.ownBlock → w'.heap[b]? = w.heap[b]? := by
  obtain ⟨i0, hi, hz0, hz1, hz2⟩ := info_parts3 hi0
  obtain ⟨v', w', hrun, hown, hgrow, -⟩ := run_append_own (P := Tryd.prog) w base ST ty 32 i0 (.agg #[.int .i64 0, .string ⟨#[]⟩]) 2 24 hu hi hz0 hz1 hz2 (by simp [Value.cells]) (by decide)
    v L.length _ h.row a 1 c (tkC [r]) rfl (fun j u hu => by
      match j with
      | 0 =>
        have : a.add 0 = a := by simp [Addr.add]
        rw [this, hc0]; simpa [tkC] using hu
      | 1 => rw [hc1]; simpa [tkC] using hu
      | j + 2 => simp [tkC] at hu) (tkC_one [r]) (by unfold maxLen; omega) (by omega) hbase
  refine ⟨v', w', hrun, ⟨by rw [List.length_append, tkC_append]; exact hown⟩, (Below.refl base w).grown hgrow hbase (fun k hk => (h.row.lt k hk).1), fun b hb hne => hgrow.block b hb hne⟩
theorem TkOwn.own_lt (h : TkOwn base w v L) {g : Nat} (hg : v.ownBlock = some g) : g < w.heap.size := (h.row.lt g hg).2
theorem TkOwn.mono {base' : Nat} (h : TkOwn base w v L) (hb : base' ≤ base) : TkOwn base' w v L := ⟨⟨h.row.1, by
  rcases h.row.2 with h2 | ⟨g', cap', cur, hv, h1, rest⟩
  · exact .inl h2
  · exact .inr ⟨g', cap', cur, hv, Nat.le_trans hb h1, rest⟩⟩⟩
end
theorem cell_heap {w w' : World} {g : Nat} (h : w'.heap[g]? = w.heap[g]?) (j : Nat) : w'.cell? ⟨g, j, none⟩ = w.cell? ⟨g, j, none⟩ := by simp only [World.cell?, h]
theorem frozen_heap {w w' : World} {g : Nat} (h : w'.heap[g]? = w.heap[g]?) (j : Nat) : w'.frozen? ⟨g, j, none⟩ = w.frozen? ⟨g, j, none⟩ := by simp only [World.frozen?, h]
theorem TkBox.heap {w w' : World} {b : Nat} {t : Tok} (h : TkBox w b t) (hh : w'.heap[b]? = w.heap[b]?) : TkBox w' b t :=
  ⟨⟨(cell_heap hh 0).trans h.tk.c0, (cell_heap hh 1).trans h.tk.c1⟩, fun j => (frozen_heap hh j).trans (h.fz j)⟩
theorem infoTk : (Tryd.prog.info? 32).map (fun i => (i.zero, i.size, i.bytes)) = some (some (.agg #[.int .i64 0, .string ⟨#[]⟩]), 2, 24) := by kernel_rfl
end Go.Proofs.YtnlcaabkbnppkaaDoor
