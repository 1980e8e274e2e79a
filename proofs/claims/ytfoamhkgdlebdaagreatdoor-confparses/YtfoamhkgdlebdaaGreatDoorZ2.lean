/- Lists of texts of one's own (Na2's, for layer 14), and a new one of two. -/
import Derived.Test.YtfoamhkgdlebdaaGreatDoorZ1
import Derived.Laws.AppendOwn
namespace Go.Proofs.YtfoamhkgdlebdaaGreatDoor
open Go.RowKit Go.Extern.Stop Go.Stop Go.Extern
set_option maxRecDepth 100000

/-- A list of texts. -/
def TxtsAt (w : World) (v : Value) (l : List (List UInt8)) : Prop := ∃ a cap, v = .slice a l.length cap ∧ l.length ≤ cap ∧ (l ≠ [] → ∃ b off, a = some ⟨b, off, none⟩ ∧ b < w.heap.size ∧ ∀ k x, l[k]? = some x → w.cell? ⟨b, off + k, none⟩ = some (.string (mkB x)))
theorem TxtsAt.nil (w : World) (a : Option Addr) (cap : Nat) : TxtsAt w (.slice a 0 cap) [] := ⟨a, cap, rfl, Nat.zero_le _, fun h => absurd rfl h⟩
theorem TxtsAt.below {w w' : World} {v : Value} {l : List (List UInt8)} (h : TxtsAt w v l) (hb : Below w.heap.size w w') : TxtsAt w' v l := by
  obtain ⟨a, cap, hv, hl, hc⟩ := h
  refine ⟨a, cap, hv, hl, fun hn => ?_⟩
  obtain ⟨b, off, ha, hlt, hx⟩ := hc hn
  exact ⟨b, off, ha, Nat.lt_of_lt_of_le hlt hb.size, fun k x hk => (hb.cell (p := ⟨b, off + k, none⟩) hlt).trans (hx k x hk)⟩
/-- A list of texts of one's own. -/
structure KeptT (base : Nat) (w : World) (v : Value) (l : List (List UInt8)) : Prop where
  row : w.ownsRow base 9 1 v l.length (l.map encT)
theorem KeptT.nil (base : Nat) (w : World) : KeptT base w (.slice none 0 0) [] := ⟨World.ownsRow_nil w base _ _⟩
theorem KeptT.below {base : Nat} {w w' : World} {v : Value} {l : List (List UInt8)} (h : KeptT base w v l) (hb : Below w.heap.size w w') : KeptT base w' v l := by
  refine ⟨h.row.1, ?_⟩
  rcases h.row.2 with h0 | ⟨g, cap, cur, hv, h1, hh, rest⟩
  · exact Or.inl h0
  · have hlt : g < w.heap.size := by
      rcases Nat.lt_or_ge g w.heap.size with h | h
      · exact h
      · rw [Array.getElem?_eq_none h] at hh; cases hh
    exact Or.inr ⟨g, cap, cur, hv, h1, (hb.block g hlt).trans hh, rest⟩
theorem KeptT.at {base : Nat} {w : World} {v : Value} {l : List (List UInt8)} (h : KeptT base w v l) : TxtsAt w v l := by
  rcases h.row.2 with ⟨rfl, h0⟩ | ⟨g', cap', cur, rfl, h1, hh, h2, h3, h4, h5⟩
  · obtain rfl := List.length_eq_zero_iff.1 h0
    exact TxtsAt.nil _ _ _
  · refine ⟨_, cap', rfl, ?_, fun _ => ⟨g', 0, rfl, ?_, fun k x hk => ?_⟩⟩
    · exact h2
    · rcases Nat.lt_or_ge g' w.heap.size with h | h
      · exact h
      · rw [Array.getElem?_eq_none h] at hh; cases hh
    · obtain ⟨hk', hx⟩ := List.getElem?_eq_some_iff.1 hk
      have hc := h.row.cellAt k (by omega)
      rw [Nat.zero_add, hc]
      simp [hk, encT]
theorem Tryz.infoStr : (Tryz.prog.info? 9).map (fun i => (i.zero, i.size, i.bytes)) = some (some (.string ⟨#[]⟩), 1, 16) := by kernel_rfl
theorem keptT_append {base : Nat} {w : World} {v : Value} {l : List (List UInt8)} (h : KeptT base w v l) (a : Addr) (c : Nat) (x : List UInt8) (hc : w.cell? a = some (.string (mkB x))) (hn : l.length ≤ 1000) (hbase : base ≤ w.heap.size) (ty : TypeId) :
    ∃ v' w', (Builtin.append_ #[23, 23] ty #[v, .slice (some a) 1 c]).run Tryz.prog w = .ok v' w' ∧ KeptT base w' v' (l ++ [x]) ∧ Below base w w' := by
  obtain ⟨i0, hi, hz0, hz1, hz2⟩ := info_parts3 Tryz.infoStr
  obtain ⟨v', w', hrun, hown, hgrow, -⟩ := run_append_own (P := Tryz.prog) w base 23 ty 9 i0 (.string ⟨#[]⟩) 1 16 Tryz.underlying23 hi hz0 hz1 hz2 (by simp [Value.cells]) (by decide)
    v l.length _ h.row a 1 c [encT x] rfl (fun j u hu => by
      cases j with
      | zero => simp at hu; subst hu; have : a.add 0 = a := by simp [Addr.add]
                rw [this]; exact hc
      | succ j => simp at hu) (by intro u hu; simp at hu; subst hu; rfl) (by unfold maxLen; omega) (by omega) hbase
  refine ⟨v', w', hrun, ⟨?_⟩, (Below.refl base w).grown hgrow hbase (fun k hk => (h.row.lt k hk).1)⟩
  rw [List.length_append, List.map_append]
  exact hown
theorem KeptT.new2 (w : World) (p q : List UInt8) : KeptT w.heap.size (w.alloc (.cells #[.string (mkB p), .string (mkB q)] 9)) (.slice (some ⟨w.heap.size, 0, none⟩) 2 2) [p, q] :=
  ⟨by simp, Or.inr ⟨_, 2, _, rfl, Nat.le_refl _, one_new _ _, Nat.le_refl _, by decide, by simp, by simp [encT]⟩⟩
theorem KeptT.mono {b b' : Nat} {w : World} {v : Value} {l : List (List UInt8)} (h : KeptT b w v l) (hb : b' ≤ b) : KeptT b' w v l := by
  refine ⟨h.row.1, ?_⟩
  rcases h.row.2 with h0 | ⟨g, cap, cur, hv, h1, rest⟩
  · exact Or.inl h0
  · exact Or.inr ⟨g, cap, cur, hv, Nat.le_trans hb h1, rest⟩
end Go.Proofs.YtfoamhkgdlebdaaGreatDoor
