/- Lists of records of one's own: all of one behind another, a record stored, the last ones left out. -/
import Derived.Test.YtlphgkaojfpepaaGreatDoorGDa
namespace Go.Proofs.YtlphgkaojfpepaaGreatDoor
open Go.RowKit Go.Extern.Stop Go.Stop Go.Extern
set_option maxRecDepth 100000

section
variable {T : TypeId} {base : Nat} {w w' : World} {v : Value} {L : List Rec}
theorem recCells_at (M : List Rec) (j : Nat) (u : Value) (hu : (recCells M)[j]? = some u) : ∃ k r, M[k]? = some r ∧ (j = k * 2 ∧ u = .string (mkB r.s) ∨ j = k * 2 + 1 ∧ u = .int .i64 (r.id : Nat)) := by
  have hj : j < M.length * 2 := by
    rw [← recCells_len]
    exact (List.getElem?_eq_some_iff.1 hu).1
  obtain ⟨r, hr⟩ : ∃ r, M[j / 2]? = some r := ⟨_, List.getElem?_eq_getElem (by omega)⟩
  obtain ⟨h0, h1⟩ := recCells_get M (j / 2) r hr
  refine ⟨j / 2, r, hr, ?_⟩
  rcases Nat.mod_two_eq_zero_or_one j with h | h
  · have e : j = j / 2 * 2 := by omega
    rw [← e, hu] at h0
    exact Or.inl ⟨e, by simpa using h0⟩
  · have e : j = j / 2 * 2 + 1 := by omega
    rw [← e, hu] at h1
    exact Or.inr ⟨e, by simpa using h1⟩
theorem RecOwn.appends {ST : TypeId} (h : RecOwn T base w v L) (hu : Tryz.prog.underlying ST = some (.slice T)) (hi0 : (Tryz.prog.info? T).map (fun i => (i.zero, i.size, i.bytes)) = some (some (.agg #[.string ⟨#[]⟩, .int .i64 0]), 2, 24)) (a : Addr) (m c : Nat) (M : List Rec) (hm : M.length = m) (hc : ∀ k r, M[k]? = some r → w.cell? (a.add (k * 2)) = some (.string (mkB r.s)) ∧ w.cell? (a.add (k * 2 + 1)) = some (.int .i64 (r.id : Nat))) (hn : L.length + m ≤ 1000) (hbase : base ≤ w.heap.size) (ty : TypeId) :
    ∃ v' w', (Builtin.append_ #[ST, ST] ty #[v, .slice (some a) m c]).run Tryz.prog w = .ok v' w' ∧ RecOwn T base w' v' (L ++ M) ∧ Below base w w' ∧ ∀ b, b < w.heap.size → some b ≠ v.ownBlock → w'.heap[b]? = w.heap[b]? := by
  obtain ⟨i0, hi, hz0, hz1, hz2⟩ := info_parts3 hi0
  obtain ⟨v', w', hrun, hown, hgrow, -⟩ := run_append_own (P := Tryz.prog) w base ST ty T i0 (.agg #[.string ⟨#[]⟩, .int .i64 0]) 2 24 hu hi hz0 hz1 hz2 (by simp [Value.cells]) (by decide)
    v L.length _ h.row a m c (recCells M) (by rw [recCells_len, hm]) (fun j u hu => by
      obtain ⟨k, r, hr, (⟨rfl, rfl⟩ | ⟨rfl, rfl⟩)⟩ := recCells_at M j u hu
      · exact (hc k r hr).1
      · exact (hc k r hr).2) (recCells_one M) (by unfold maxLen; omega) (by omega) hbase
  refine ⟨v', w', hrun, ⟨?_⟩, (Below.refl base w).grown hgrow hbase (fun k hk => (h.row.lt k hk).1), fun b hb hne => hgrow.block b hb hne⟩
  rw [List.length_append, recCells_append, hm]
  exact hown
theorem RecOwn.append_none {ST : TypeId} (h : RecOwn T base w v L) (hu : Tryz.prog.underlying ST = some (.slice T)) (hi0 : (Tryz.prog.info? T).map (fun i => (i.zero, i.size, i.bytes)) = some (some (.agg #[.string ⟨#[]⟩, .int .i64 0]), 2, 24)) (ty : TypeId) : (Builtin.append_ #[ST, ST] ty #[v, .slice none 0 0]).run Tryz.prog w = .ok v w := by
  obtain ⟨i0, hi, hz0, hz1, hz2⟩ := info_parts3 hi0
  exact run_append_owned_none (P := Tryz.prog) (w := w) base ST ty T i0 2 hu hi v L.length _ h.row
theorem recOwn_new (W : World) (n : Nat) (hn : W.heap.size = n) (hb : base ≤ W.heap.size) : RecOwn T base (W.alloc (.cells #[] T)) (.slice (some ⟨n, 0, none⟩) 0 0) [] := by
  subst hn
  exact ⟨⟨by simp [recCells], Or.inr ⟨_, 0, #[], rfl, hb, heap_alloc_new _ _, Nat.le_refl _, by simp, by simp, by simp [recCells]⟩⟩⟩
theorem recCells_set : ∀ (L : List Rec) (i : Nat) (r : Rec), i < L.length → ((recCells L).set (i * 2) (.string (mkB r.s))).set (i * 2 + 1) (.int .i64 (r.id : Nat)) = recCells (L.set i r)
  | [], _, _, h => by simp at h
  | x :: l, 0, r, _ => by simp [recCells]
  | x :: l, i + 1, r, h => by
    have ih := recCells_set l i r (by simpa using h)
    have e1 : (i + 1) * 2 = i * 2 + 1 + 1 := by omega
    simp only [recCells, List.set_cons_succ, e1]
    rw [← ih]
theorem RecOwn.setAt {g n cap i : Nat} (h : RecOwn T base w (.slice (some ⟨g, 0, none⟩) n cap) L) (hn : n = L.length) (hi : i < L.length) (r : Rec) :
    RecOwn T base ((w.setCell ⟨g, i * 2, none⟩ (.string (mkB r.s))).setCell ⟨g, i * 2 + 1, none⟩ (.int .i64 (r.id : Nat))) (.slice (some ⟨g, 0, none⟩) n cap) (L.set i r) := by
  subst hn
  have h1 := (h.row.stored (i * 2) (.string (mkB r.s))).1
  have h2 := (h1.stored (i * 2 + 1) (.int .i64 (r.id : Nat))).1
  rw [recCells_set L i r hi] at h2
  exact ⟨by rw [List.length_set]; exact h2⟩
theorem RecOwn.setName {g n cap i : Nat} (h : RecOwn T base w (.slice (some ⟨g, 0, none⟩) n cap) L) (hn : n = L.length) {r : Rec} (hr : L[i]? = some r) (s : List UInt8) :
    RecOwn T base (w.setCell ⟨g, i * 2, none⟩ (.string (mkB s))) (.slice (some ⟨g, 0, none⟩) n cap) (L.set i ⟨s, r.id⟩) := by
  subst hn
  have hi : i < L.length := (List.getElem?_eq_some_iff.1 hr).1
  have h1 := (h.row.stored (i * 2) (.string (mkB s))).1
  have e := recCells_set L i ⟨s, r.id⟩ hi
  have hg : ((recCells L).set (i * 2) (.string (mkB s)))[i * 2 + 1]? = some (.int .i64 (r.id : Nat)) := by
    rw [List.getElem?_set_ne (by omega)]
    exact (recCells_get L i r hr).2
  have hlt := (List.getElem?_eq_some_iff.1 hg).1
  have e2 : ((recCells L).set (i * 2) (.string (mkB s))).set (i * 2 + 1) (.int .i64 (r.id : Nat)) = (recCells L).set (i * 2) (.string (mkB s)) := by
    rw [← (List.getElem?_eq_some_iff.1 hg).2]
    exact List.set_getElem_self hlt
  rw [e2] at e
  rw [e] at h1
  exact ⟨by rw [List.length_set]; exact h1⟩
theorem recCells_take : ∀ (L : List Rec) (k : Nat), (recCells L).take (k * 2) = recCells (L.take k)
  | [], k => by simp [recCells]
  | x :: l, 0 => by simp [recCells]
  | x :: l, k + 1 => by
    have ih := recCells_take l k
    have e1 : (k + 1) * 2 = k * 2 + 1 + 1 := by omega
    simp only [recCells, List.take_succ_cons, e1]
    rw [← ih]
theorem RecOwn.cutAt {g n cap k : Nat} (h : RecOwn T base w (.slice (some ⟨g, 0, none⟩) n cap) L) (hn : n = L.length) (hk : k ≤ L.length) : RecOwn T base w (.slice (some ⟨g, 0, none⟩) k cap) (L.take k) := by
  subst hn
  have hl : (L.take k).length = k := by rw [List.length_take]; omega
  rcases h.row.2 with ⟨hv, h0⟩ | ⟨g', cap', cur, hv, h1, hh, h2, h3, h4, h5⟩
  · cases hv
  · obtain ⟨e, -, rfl⟩ := Value.slice.inj hv
    simp only [Option.some.injEq, Addr.mk.injEq] at e
    obtain ⟨rfl, -⟩ := e
    refine ⟨⟨by rw [recCells_len, hl], Or.inr ⟨g, cap, cur, by rw [hl], h1, hh, by omega, h3, h4, ?_⟩⟩⟩
    rw [hl, ← recCells_take, ← h5, List.take_take]
    congr 1
    omega
end
end Go.Proofs.YtlphgkaojfpepaaGreatDoor
