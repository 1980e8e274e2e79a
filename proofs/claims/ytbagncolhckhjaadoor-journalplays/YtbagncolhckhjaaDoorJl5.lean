/- JournalPlays: the Opens behind a Commit. -/
import Derived.Test.YtbagncolhckhjaaDoorJl4
namespace Go.Proofs.YtbagncolhckhjaaDoor
open Go.RowKit Go.Extern.Stop Go.Stop Go.Extern
set_option maxRecDepth 100000

abbrev nwK (rs : List RawT) (K : Nat) (nw : Nat → Int) : Nat → Int := nowK ((List.range K).map fun j => ((rno rs j).toNat, rn rs j)) nw K
theorem rn_range (rs : List RawT) (j : Nat) : 0 ≤ rn rs j ∧ rn rs j ≤ 2047 := and_low (rs.getD j ⟨0, 0⟩).n 2047 (by decide)
theorem told_after {rs : List RawT} {K : Nat} {nw mem mem' : Nat → Int} (h : Told18 nw mem) (hf : ∀ j, j < K → Fine rs j) (ha : After rs K mem mem') : Told18 (nwK rs K nw) mem' :=
  told_behind h hf (fun j _ => rn_range rs j) ha.inn ha.out
/-- An Open where nothing is under way changes nothing. -/
theorem reopen_idle {w0 : World} {d g : Nat} {mem : Nat → Int} {wr : Int} {w : World} (h : Sys w0 d g 40 mem wr (-1) w) (hw : 0 ≤ wr ∧ wr < 300000000) (hi : Idle 4 mem) (f : Int) :
    Calls Tryd.prog 20 #[ptr d, .int .i64 f] w fun e w' => ∃ jb mem' wr', e = .returned (ptr jb) ∧ Apart [d, g] w w' ∧ Sys w0 d g 40 mem' wr' (-1) w' ∧ wr ≤ wr' ∧ wr' ≤ wr + 1000 ∧ JAt jb d 4 6 w' ∧ w.heap.size ≤ jb ∧ Idle 4 mem' ∧ ∀ x, (x < 4 ∨ 4 + needN 6 ≤ x) → blockL mem' x = blockL mem x := by
  have hr := h.disk.range
  refine (opened_calls h hw (by decide) [(25, blockL mem 25)] (by simp) (by simp) (good_one _ _ _ _ _ (by decide) (blockL_len mem 25) (fun z hz => by
    obtain ⟨j, _, rfl⟩ := List.mem_map.1 hz
    exact hr _) (Or.inr (by decide))) (blockL mem) (.before hi (fun _ _ => rfl)) f).mono ?_
  rintro e w' ⟨hA, jb, mem', wr', rfl, hS, h1, h2, hJ, hjb, hR⟩
  refine ⟨jb, mem', wr', rfl, hA, hS, h1, h2, hJ, hjb, hR.idle, fun x hx => ?_⟩
  rcases hR with ⟨-, h⟩ | ⟨-, h, h3⟩
  · exact h x hx
  · by_cases e : 25 = x
    · have := h3 (25, blockL mem 25) (by simp)
      rw [← e]
      exact this
    · exact h x hx (fun p hp => by obtain rfl := List.mem_singleton.1 hp; exact e)
/-- What the eighteen blocks are behind it all. -/
def Fin (rs : List RawT) (K : Nat) (b : Int) (dead : Bool) (nw mem mem' : Nat → Int) : Prop :=
  Idle 4 mem' ∧
    ((b ≠ 0 ∧ dead = false ∧ Told18 nw mem') ∨ (b = 0 ∧ dead = false ∧ Told18 (nwK rs K nw) mem') ∨
     (b = 0 ∧ dead = true ∧ 1 ≤ K ∧ K ≤ 6 ∧ (Told18 nw mem' ∧ (∀ x, (x < 4 ∨ 4 + needN 6 ≤ x) → blockL mem' x = blockL mem x) ∨ Told18 (nwK rs K nw) mem' ∧ ∀ j, j < K → blockL mem' (rno rs j).toNat = fillL (rn rs j))))
/-- Whether a Commit told a death. -/
def DeadIs (b : Int) (E : Value) (dead : Bool) : Prop := (dead = true ∧ b = 0 ∧ ∃ bb, E = flt bb) ∨ (dead = false ∧ b = 0 ∧ E = .nilIface) ∨ (dead = false ∧ b ≠ 0 ∧ ∃ bb, E = flt bb)
theorem script_opened {w0 : World} {d g : Nat} {mem mem' : Nat → Int} {wr : Int} {w : World} (h : Sys w0 d g 40 mem' wr (-1) w) (hw : 0 ≤ wr ∧ wr < 300000000) (rs : List RawT) (K : Nat) (b : Int) (hb : BadOf rs K b) (nw : Nat → Int) (ht : Told18 nw mem) (hi : Idle 4 mem) (dead : Bool)
    (ho : (b ≠ 0 ∧ dead = false ∧ mem' = mem) ∨ (b = 0 ∧ dead = false ∧ Idle 4 mem' ∧ After rs K mem mem') ∨ (b = 0 ∧ dead = true ∧ 1 ≤ K ∧ K ≤ 6 ∧ Stands 4 (needN 6) (rawN rs K) (blockL mem) mem')) (f : Int) :
    Calls Tryd.prog 20 #[ptr d, .int .i64 f] w fun e w' => ∃ jb mem9 wr', e = .returned (ptr jb) ∧ Apart [d, g] w w' ∧ Sys w0 d g 40 mem9 wr' (-1) w' ∧ wr ≤ wr' ∧ wr' ≤ wr + 1000 ∧ JAt jb d 4 6 w' ∧ w.heap.size ≤ jb ∧ Fin rs K b dead nw mem mem9 := by
  have hf : b = 0 → ∀ j, j < K → Fine rs j := fun e => by
    rcases hb with ⟨-, h, -⟩ | ⟨h, -⟩ | ⟨h, -, -⟩
    · exact h
    · rw [h] at e; cases e
    · rw [h] at e; cases e
  rcases ho with ⟨h0, h1, rfl⟩ | ⟨h0, h1, hi', ha⟩ | ⟨h0, h1, hK1, hK6, hst⟩
  · refine (reopen_idle h hw hi f).mono ?_
    rintro e w' ⟨jb, mem9, wr', rfl, hA, hS, h2, h3, hJ, hjb, hid, hout⟩
    exact ⟨jb, mem9, wr', rfl, hA, hS, h2, h3, hJ, hjb, hid, Or.inl ⟨h0, h1, told_before ht hout⟩⟩
  · refine (reopen_idle h hw hi' f).mono ?_
    rintro e w' ⟨jb, mem9, wr', rfl, hA, hS, h2, h3, hJ, hjb, hid, hout⟩
    exact ⟨jb, mem9, wr', rfl, hA, hS, h2, h3, hJ, hjb, hid, Or.inr (Or.inl ⟨h0, h1, told_before (told_after ht (hf h0) ha) hout⟩)⟩
  · have hlen := rawN_len rs K
    refine (opened_calls h hw (by decide) (rawN rs K) (by omega) (by omega) (rawN_good rs K (by omega) (hf h0)) (blockL mem) hst f).mono ?_
    rintro e w' ⟨hA, jb, mem9, wr', rfl, hS, h2, h3, hJ, hjb, hR⟩
    refine ⟨jb, mem9, wr', rfl, hA, hS, h2, h3, hJ, hjb, hR.idle, Or.inr (Or.inr ⟨h0, h1, hK1, hK6, ?_⟩)⟩
    rcases hR with ⟨-, h⟩ | ⟨-, h, h4⟩
    · exact Or.inl ⟨told_before ht h, h⟩
    · have ha := after_of h h4
      exact Or.inr ⟨told_after ht (hf h0) ha, ha.inn⟩
/-- .. and where the disk goes on. -/
theorem script_goes {mem mem' : Nat → Int} (rs : List RawT) (K : Nat) (b : Int) (hb : BadOf rs K b) (nw : Nat → Int) (ht : Told18 nw mem) (hi : Idle 4 mem) (ho : (b ≠ 0 ∧ mem' = mem) ∨ (b = 0 ∧ Idle 4 mem' ∧ After rs K mem mem')) : Fin rs K b false nw mem mem' := by
  have hf : b = 0 → ∀ j, j < K → Fine rs j := fun e => by
    rcases hb with ⟨-, h, -⟩ | ⟨h, -⟩ | ⟨h, -, -⟩
    · exact h
    · rw [h] at e; cases e
    · rw [h] at e; cases e
  rcases ho with ⟨h0, rfl⟩ | ⟨h0, hi', ha⟩
  · exact ⟨hi, Or.inl ⟨h0, rfl, ht⟩⟩
  · exact ⟨hi', Or.inr (Or.inl ⟨h0, rfl, told_after ht (hf h0) ha⟩)⟩
end Go.Proofs.YtbagncolhckhjaaDoor
