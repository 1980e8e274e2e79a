/- Lists as the statements read them again; what Fill's texts tell apart. -/
import Derived.Test.YtbagncolhckhjaaDoorJr1
namespace Go.Proofs.YtbagncolhckhjaaDoor
open Go.RowKit Go.Extern.Stop Go.Stop Go.Extern
set_option maxRecDepth 100000

theorem Lies.keep {base : Nat} {w w' : World} {v : Value} {ps : List Piece} {l : Grp} {bs : List Nat} (h : Lies base w v ps l) (ha : Apart bs w w') (hb : ∀ k ∈ bs, k < base) : Lies base w' v ps l := ⟨h.own.keep ha hb, h.is⟩
/-- A list that is not empty: its row. -/
theorem Lies.form {base : Nat} {w : World} {v : Value} {ps : List Piece} {l : Grp} (h : Lies base w v ps l) (hl : l ≠ []) : ∃ gb cap, v = .slice (some ⟨gb, 0, none⟩) l.length cap := by
  rcases h.own.row.2 with ⟨_, h0⟩ | ⟨g', cap', cur, rfl, _⟩
  · have := h.len
    exact absurd (List.length_eq_zero_iff.1 (by omega)) hl
  · exact ⟨g', cap', by rw [h.len]⟩
theorem Lies.data {base : Nat} {w : World} {gb n cap : Nat} {ps : List Piece} {l : Grp} (h : Lies base w (.slice (some ⟨gb, 0, none⟩) n cap) ps l) (k : Nat) (hk : k < l.length) :
    ∃ blk, w.cell? ⟨gb, k * 2 + 1, none⟩ = some (.slice (some ⟨blk, 0, none⟩) 128 128) ∧ BytesAt w (.slice (some ⟨blk, 0, none⟩) 128 128) (l.getD k (0, [])).2 := by
  have hlen := h.len
  have hpk : k < ps.length := by omega
  obtain ⟨p, hp⟩ : ∃ p, ps[k]? = some p := ⟨_, List.getElem?_eq_getElem hpk⟩
  have hrow := h.own.row
  have hn : n = ps.length := by
    rcases hrow.2 with ⟨h1, _⟩ | ⟨g', cap', cur, h1, _⟩
    · simp at h1
    · simp only [Value.slice.injEq] at h1; exact h1.2.1
  subst hn
  have hc := hrow.cellAt (k * 2 + 1) (by omega)
  have hg := (cellsOf_get ps k p hp).2
  have hd := h.own.data p (List.mem_of_getElem? hp)
  refine ⟨p.blk, hc.trans hg, ?_⟩
  have e : (plain ps)[k]? = (up l)[k]? := by rw [h.is]
  have e1 : (plain ps)[k]? = some (p.no, p.zs) := by simp [plain, hp]
  have e2 : (up l)[k]? = some (((l.getD k (0, [])).1 : Int), (l.getD k (0, [])).2) := by simp [up, List.getD, hk]
  rw [e1, e2] at e
  have e3 := congrArg Prod.snd (Option.some.inj e)
  simp only at e3
  rw [← e3]
  exact hd.bytes
theorem Lies.off {base d g : Nat} {w : World} {v : Value} {ps : List Piece} {l : Grp} (h : Lies base w v ps l) (hl : l.length ≤ 1000) (hd : d < base) (hg : g < base) : GOff d g w v (up l) := by
  rw [← h.is]
  exact h.own.off (by rw [h.len]; exact hl) hd hg
theorem tmod_nat (x : Int) (n : Nat) (hx : 0 ≤ x) : ∃ I : Nat, x.tmod ((n : Int) + 1) = (I : Int) ∧ I ≤ n := by
  refine ⟨_, (Int.toNat_of_nonneg (Int.tmod_nonneg _ hx)).symm, ?_⟩
  have h1 := Int.tmod_lt_of_pos x (b := (n : Int) + 1) (by omega)
  omega
theorem ofBytes_list (ns : List Int) : (ofBytes ns).data.toList = ns.map fun n => UInt8.ofNat n.toNat := by
  have h : ∀ (l : List Int) (s : ByteArray), (l.foldl (fun r n => r.push (UInt8.ofNat n.toNat)) s).data.toList = s.data.toList ++ l.map fun n => UInt8.ofNat n.toNat := by
    intro l
    induction l with
    | nil => intro s; simp
    | cons x l ih => intro s; rw [List.foldl_cons, ih]; simp
  rw [ofBytes, h]
  simp
theorem fill_first (n : Int) (h0 : 0 ≤ n) (h1 : n < 100000) : fillB n 0 = n % 256 := by
  unfold fillB
  have e : wrap64 (((0 : Nat) : Int) * bits .and .i64 (n / 256) 7) = 0 := by simp [wrap64]
  rw [e, Int.add_zero]
  congr 1
  unfold wrap64
  omega
theorem fill_apart (a b : Int) (ha : 0 ≤ a ∧ a < 100000) (hb : 0 ≤ b ∧ b < 100000) (hne : a % 256 ≠ b % 256) : ofBytes (fillL a) ≠ ofBytes (fillL b) := by
  intro e
  have e1 := congrArg (fun s : ByteArray => s.data.toList[0]?) e
  simp only [ofBytes_list] at e1
  have g : ∀ n : Int, (fillL n)[0]? = some (fillB n 0) := fun n => by simp [fillL]
  simp only [List.getElem?_map, g, Option.map_some, Option.some.injEq, fill_first a ha.1 ha.2, fill_first b hb.1 hb.2] at e1
  have e2 := congrArg UInt8.toNat e1
  simp at e2
  omega
end Go.Proofs.YtbagncolhckhjaaDoor
