/- A list of texts of one's own; one text put in between. -/
import Derived.Test.YtnlcaabkbnppkaaDoorS12
namespace Go.Proofs.YtnlcaabkbnppkaaDoor
open Go Go.RowKit
set_option maxRecDepth 100000

structure XOwn (base : Nat) (w : World) (v : Value) (L : List (List UInt8)) : Prop where
  row : w.ownsRow base 9 1 v L.length (L.map encT)
section
variable {base : Nat} {w w' : World} {v : Value} {L : List (List UInt8)}
theorem XOwn.nil (base : Nat) (w : World) : XOwn base w (.slice none 0 0) [] := ⟨World.ownsRow_nil w base _ _⟩
theorem XOwn.below (h : XOwn base w v L) (hb : Below w.heap.size w w') : XOwn base w' v L := by
  refine ⟨⟨h.row.1, ?_⟩⟩
  rcases h.row.2 with h2 | ⟨g', cap', cur, rfl, h1, hh, rest⟩
  · exact .inl h2
  · exact .inr ⟨g', cap', cur, rfl, h1, (hb.block g' (by rcases Nat.lt_or_ge g' w.heap.size with h | h; exact h; rw [Array.getElem?_eq_none h] at hh; cases hh)).trans hh, rest⟩
theorem XOwn.mono {base' : Nat} (h : XOwn base w v L) (hb : base' ≤ base) : XOwn base' w v L := ⟨⟨h.row.1, by
  rcases h.row.2 with h2 | ⟨g', cap', cur, hv, h1, rest⟩
  · exact .inl h2
  · exact .inr ⟨g', cap', cur, hv, Nat.le_trans hb h1, rest⟩⟩⟩
theorem XOwn.part (h : XOwn base w v L) : (v = .slice none 0 0 ∧ L = []) ∨ ∃ g cap, v = .slice (some ⟨g, 0, none⟩) L.length cap ∧ base ≤ g ∧ g < w.heap.size ∧ L.length ≤ cap ∧ cap ≤ maxLen ∧ ∀ k x, L[k]? = some x → w.cell? ⟨g, k, none⟩ = some (.string (mkB x)) := by
  rcases h.row.2 with ⟨rfl, h0⟩ | ⟨g', cap', cur, rfl, h1, hh, h2, h3, h4, h5⟩
  · exact Or.inl ⟨rfl, List.length_eq_zero_iff.1 h0⟩
  · refine Or.inr ⟨g', cap', rfl, h1, ?_, h2, h3, fun k x hk => ?_⟩
    · rcases Nat.lt_or_ge g' w.heap.size with h | h
      · exact h
      · rw [Array.getElem?_eq_none h] at hh; cases hh
    · have hl : k < L.length := (List.getElem?_eq_some_iff.1 hk).1
      have hc : w.cell? ⟨g', k, none⟩ = (L.map encT)[k]? := h.row.cellAt k (by omega)
      rw [hc, List.getElem?_map, hk]; rfl
theorem XOwn.at (h : XOwn base w v L) : TxtsAt w v L := by
  rcases h.part with ⟨rfl, rfl⟩ | ⟨g, cap, rfl, -, h1, h2, -, h3⟩
  · exact TxtsAt.nil _ _ _
  · exact ⟨_, cap, rfl, h2, fun _ => ⟨g, 0, rfl, h1, fun k x hk => by rw [Nat.zero_add]; exact h3 k x hk⟩⟩
end
theorem x_new {base : Nat} (w : World) (n : Nat) (hn : w.heap.size = n) (hb : base ≤ w.heap.size) : XOwn base (w.alloc (.cells #[] 9)) (.slice (some ⟨n, 0, none⟩) 0 0) [] := by
  subst hn
  exact ⟨⟨by simp, Or.inr ⟨_, 0, #[], rfl, hb, row_new _ _, Nat.le_refl _, by simp, by simp, by simp⟩⟩⟩
theorem x_append {base : Nat} {w : World} {v : Value} {L : List (List UInt8)} (h : XOwn base w v L) (a : Addr) (m c : Nat) (R : List (List UInt8)) (hm : R.length = m) (hc : ∀ j x, R[j]? = some x → w.cell? (a.add j) = some (.string (mkB x))) (hn : L.length + m ≤ 1000) (hbase : base ≤ w.heap.size) (ty : TypeId) :
    ∃ v' w', (Builtin.append_ #[22, 22] ty #[v, .slice (some a) m c]).run Tryd.prog w = .ok v' w' ∧ XOwn base w' v' (L ++ R) ∧ Below base w w' ∧ ∀ b, b < w.heap.size → some b ≠ v.ownBlock → w'.heap[b]? = w.heap[b]? := by
  obtain ⟨i0, hi, hz0, hz1, hz2⟩ := info_parts3 Tryd.infoText
  obtain ⟨v', w', hrun, hown, hgrow, -⟩ := run_append_own (P := Tryd.prog) w base 22 ty 9 i0 (.string ⟨#[]⟩) 1 16 Tryd.underlying22 hi hz0 hz1 hz2 (by simp [Value.cells]) (by decide)
    v L.length _ h.row a m c (R.map encT) (by simp [hm]) (fun j u hu => by
      rw [List.getElem?_map] at hu
      obtain ⟨x, hx, rfl⟩ := Option.map_eq_some_iff.1 hu
      exact hc j x hx) (by intro u hu; obtain ⟨z, _, rfl⟩ := List.mem_map.1 hu; rfl) (by unfold maxLen; omega) (by omega) hbase
  refine ⟨v', w', hrun, ⟨?_⟩, (Below.refl base w).grown hgrow hbase (fun k hk => (h.row.lt k hk).1), hgrow.block⟩
  rw [List.length_append, List.map_append, hm]
  exact hown
theorem x_append_none {base : Nat} {w : World} {v : Value} {L : List (List UInt8)} (h : XOwn base w v L) (ty : TypeId) : (Builtin.append_ #[22, 22] ty #[v, .slice none 0 0]).run Tryd.prog w = .ok v w := by
  obtain ⟨i0, hi, hz0, hz1, hz2⟩ := info_parts3 Tryd.infoText
  exact run_append_owned_none (P := Tryd.prog) (w := w) base 22 ty 9 i0 1 Tryd.underlying22 hi v L.length _ h.row
/-- What stands behind a text is appended, be there anything or not. -/
theorem x_more {base : Nat} {w : World} {v xv : Value} {L R : List (List UInt8)} (h : XOwn base w v L) (hx : (xv = .slice none 0 0 ∧ R = []) ∨ ∃ g off cap, xv = .slice (some ⟨g, off, none⟩) R.length cap ∧ ∀ k x, R[k]? = some x → w.cell? ⟨g, off + k, none⟩ = some (.string (mkB x))) (hn : L.length + R.length ≤ 1000) (hbase : base ≤ w.heap.size) (ty : TypeId) :
    ∃ v' w', (Builtin.append_ #[22, 22] ty #[v, xv]).run Tryd.prog w = .ok v' w' ∧ XOwn base w' v' (L ++ R) ∧ Below base w w' ∧ ∀ b, b < w.heap.size → some b ≠ v.ownBlock → w'.heap[b]? = w.heap[b]? := by
  rcases hx with ⟨rfl, rfl⟩ | ⟨g, off, cap, rfl, hc⟩
  · exact ⟨v, w, x_append_none h ty, by rw [List.append_nil]; exact h, Below.refl _ _, fun _ _ _ => rfl⟩
  · exact x_append h ⟨g, off, none⟩ _ cap R rfl (fun j x hx => by
      have h1 := hc j x hx
      rcases Nat.eq_zero_or_pos j with h0 | h0
      · subst h0; simpa [Addr.add] using h1
      · simpa [Addr.add, Nat.ne_of_gt h0] using h1) hn hbase ty
theorem any_append_ex {P : Program} {ops : Array Oper} {o : Oper} {a : Act} {w : World} {K : Act → World → Prop} {Q : Exit → Act → World → Prop} {s x : Operand} {t : TypeId} {R : Value → World → Prop} (hg : Region.wanted o (yielded ops a.tmps) = true)
    (ho : o.op = .call { callee := .builtin .append, args := #[s, x], argTypes := #[t, t] }) (v xv : Value) (hs : a.eval s = v) (hx : a.eval x = xv)
    (hr : ∃ v' w', (Builtin.append_ #[t, t] o.type #[v, xv]).run P w = .ok v' w' ∧ R v' w') (h : ∀ v' w', R v' w' → K (a.put o.dst v') w') : if Region.wanted o (yielded ops a.tmps) = true then Oper.wp P o a w K Q else K (a.put o.dst undef) w := by
  obtain ⟨v', w', h1, h2⟩ := hr
  exact any_append hg ho v xv v' w' hs hx h1 (h v' w' h2)
end Go.Proofs.YtnlcaabkbnppkaaDoor
