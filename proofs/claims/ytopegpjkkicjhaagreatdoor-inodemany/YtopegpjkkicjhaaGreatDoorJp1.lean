/- Rows of Writes under a Fuse; the journal's settle. -/
import Derived.Test.YtopegpjkkicjhaaGreatDoorJo6
import Derived.Test.YtopegpjkkicjhaaGreatDoorJo7
namespace Go.Proofs.YtopegpjkkicjhaaGreatDoor
open Go.RowKit Go.Extern.Stop Go.Stop Go.Extern
set_option maxRecDepth 100000

abbrev LeftOk (left : Int) : Prop := -1 ≤ left ∧ left ≤ 9223372036854775807
/-- What is behind a row of Writes: all of it, or a beginning and the death. -/
structure Wrote (w0 : World) (d g n : Nat) (ws : Grp) (mem : Nat → Int) (writes left : Int) (r : Value) (w w' : World) : Prop where
  apart : Apart [d, g] w w'
  out : (r = .nilIface ∧ ∃ left', Sys w0 d g n (laid ws mem) (writes + ws.length) left' w' ∧ LeftOk left' ∧ (left = -1 → left' = -1)) ∨
    (∃ (k b : Nat) (i : Int), k < ws.length ∧ r = flt b ∧ Chain w' [(sDisk, itoaB i)] (num 50) (flt b) ∧ w.heap.size ≤ b ∧ Sys w0 d g n (laid (ws.take k) mem) (writes + k) 0 w' ∧ left ≠ -1)
theorem reach_dead (n : Nat) (i : Nat) (hi : i < n) : reachV n 0 i = num 50 := by unfold reachV; rw [if_neg (by omega), if_pos rfl]
theorem burnt_ok {left : Int} (h : LeftOk left) : LeftOk (burnt left) := by unfold burnt LeftOk at *; split <;> omega
theorem write_out {w0 : World} {d g n : Nat} {mem : Nat → Int} {writes left : Int} {w : World} (h : Sys w0 d g n mem writes left w) (i : Nat) (hi : i < n) (v : Value) (zs : List Int) (hv : BytesAt w v zs) (hz : zs.length = 128) (hl : LeftOk left) (hw : 0 ≤ writes ∧ writes < 1000000000) :
    Calls Tryz.prog 132 #[ptr d, .int .i64 i, v] w fun e w' => ∃ r, e = .returned r ∧ Wrote w0 d g n [(i, zs)] mem writes left r w w' := by
  have hfew := h.disk.few
  by_cases hl0 : left = 0
  · subst hl0
    refine (sys_write_bad h i 50 ⟨by omega, by omega⟩ v zs hv (Or.inr ⟨hz, reach_dead n i hi⟩)).mono ?_
    rintro e w' ⟨b, rfl, hc, hb, hS, hB⟩
    exact ⟨_, rfl, Apart.of_below hB, Or.inr ⟨0, b, i, by simp, rfl, hc, hb, by simpa [laid] using hS, by decide⟩⟩
  · refine (sys_write h i hi v zs hv hz hl0 ⟨hl.2, hl.1⟩ hw).mono ?_
    rintro e w' ⟨rfl, hS, hA⟩
    exact ⟨_, rfl, hA, Or.inl ⟨rfl, _, by simpa [laid] using hS, burnt_ok hl, fun e => by subst e; rfl⟩⟩
/-- A group that stays where it is while the disk is written. -/
def GOff (d g : Nat) (w : World) (v : Value) (xs : List (Int × List Int)) : Prop := ∀ w', Apart [d, g] w w' → GAt w' v xs
theorem GOff.at {d g : Nat} {w : World} {v : Value} {xs : List (Int × List Int)} (h : GOff d g w v xs) : GAt w v xs := h w (Apart.refl _ _)
theorem GOff.keep {d g : Nat} {w w' : World} {v : Value} {xs : List (Int × List Int)} (h : GOff d g w v xs) (ha : Apart [d, g] w w') : GOff d g w' v xs := fun w'' h2 => h w'' (ha.trans h2)
theorem GOff.below {d g : Nat} {w w' : World} {v : Value} {xs : List (Int × List Int)} (h : GOff d g w v xs) (hb : Below w.heap.size w w') : GOff d g w' v xs := h.keep (Apart.of_below hb)
theorem take_snoc (l : Grp) (k : Nat) (hk : k < l.length) : l.take (k + 1) = l.take k ++ [(nob l k, dat l k)] := by
  have e : l.getD k (0, []) = l[k] := by simp [List.getD, hk]
  show _ = _ ++ [((l.getD k (0, [])).1, (l.getD k (0, [])).2)]
  rw [e]
  exact List.take_succ_eq_append_getElem hk
/-- What holds ahead of block k of a group that is being written. -/
structure Mid (w0 : World) (d g n : Nat) (ws : Grp) (k : Nat) (mem : Nat → Int) (writes left : Int) (w wr : World) : Prop where
  apart : Apart [d, g] w wr
  out : ∃ left', Sys w0 d g n (laid (ws.take k) mem) (writes + k) left' wr ∧ LeftOk left' ∧ (left = -1 → left' = -1)
/-- One Write more that went wrong. -/
theorem Mid.fail {w0 : World} {d g n : Nat} {ws : Grp} {k : Nat} {mem : Nat → Int} {writes left left' : Int} {w wr w' : World} {r : Value} {i : Nat} {zs : List Int} (hk : k < ws.length) (ha : Apart [d, g] w wr) (hl : left = -1 → left' = -1)
    (h : Wrote w0 d g n [(i, zs)] (laid (ws.take k) mem) (writes + k) left' r wr w') (hr : r ≠ .nilIface) : Wrote w0 d g n ws mem writes left r w w' := by
  refine ⟨ha.trans h.apart, ?_⟩
  rcases h.out with ⟨h1, _⟩ | ⟨k2, b, i2, h1, h2, h3, h4, h5, h6⟩
  · exact absurd h1 hr
  · have : k2 = 0 := by simpa using h1
    subst this
    refine Or.inr ⟨k, b, i2, hk, h2, h3, Nat.le_trans ha.size h4, ?_, fun e => h6 (hl e)⟩
    simpa [laid] using h5
/-- One Write more that went well. -/
theorem Mid.next {w0 : World} {d g n : Nat} {ws : Grp} {k : Nat} {mem : Nat → Int} {writes left left' : Int} {w wr w' : World} {i : Nat} {zs : List Int} (ha : Apart [d, g] w wr) (hl : left = -1 → left' = -1) (ht : ws.take (k + 1) = ws.take k ++ [(i, zs)])
    (h : Wrote w0 d g n [(i, zs)] (laid (ws.take k) mem) (writes + k) left' .nilIface wr w') : Mid w0 d g n ws (k + 1) mem writes left w w' := by
  refine ⟨ha.trans h.apart, ?_⟩
  rcases h.out with ⟨_, l2, h2, h3, h4⟩ | ⟨_, _, _, _, h2, _⟩
  · refine ⟨l2, ?_, h3, fun e => h4 (hl e)⟩
    rw [ht, laid_append]
    have e : writes + ((k + 1 : Nat) : Int) = writes + k + ([(i, zs)] : Grp).length := by simp; omega
    rw [e]
    exact h2
  · cases h2
theorem Mid.last {w0 : World} {d g n : Nat} {ws : Grp} {k : Nat} {mem : Nat → Int} {writes left left' : Int} {w wr w' : World} {r : Value} {i : Nat} {zs : List Int} (ha : Apart [d, g] w wr) (hl : left = -1 → left' = -1) (ht : ws = ws.take k ++ [(i, zs)]) (hk : k < ws.length)
    (h : Wrote w0 d g n [(i, zs)] (laid (ws.take k) mem) (writes + k) left' r wr w') : Wrote w0 d g n ws mem writes left r w w' := by
  rcases h.out with ⟨rfl, l2, h2, h3, h4⟩ | ⟨_, _, _, _, h2, _⟩
  · refine ⟨ha.trans h.apart, Or.inl ⟨rfl, l2, ?_, h3, fun e => h4 (hl e)⟩⟩
    have e1 : laid ws mem = laid [(i, zs)] (laid (ws.take k) mem) := by rw [← laid_append, ← ht]
    have e2 : ws.length = k + 1 := by rw [ht]; simp; omega
    rw [e1, e2]
    have e : writes + ((k + 1 : Nat) : Int) = writes + k + ([(i, zs)] : Grp).length := by simp; omega
    rw [e]
    exact h2
  · exact Mid.fail hk ha hl h (by rw [h2]; intro e; cases e)
end Go.Proofs.YtopegpjkkicjhaaGreatDoor
