/- What the statement JournalAgain keeps: two lists, two rows of texts. -/
import Derived.Test.YtbagncolhckhjaaDoorJr3
namespace Go.Proofs.YtbagncolhckhjaaDoor
open Go.RowKit Go.Extern.Stop Go.Stop Go.Extern
set_option maxRecDepth 100000

abbrev noA : Nat → Nat := fun j => 30 + j
abbrev noB (H : Nat) : Nat → Nat := fun j => 30 + (j + H) % 8
abbrev fGA : Nat → Int := fun j => (j : Int)
abbrev fGB : Nat → Int := fun j => 900 + (j : Int)
theorem need8 : needN 8 = 11 := rfl
theorem goodA (n : Nat) (hn : n ≤ 8) : Good 60 0 (needN 8) (seqG noA fGA n) :=
  seqG_good _ _ _ _ _ _ (by omega) (fun k hk => by show 30 + k < 60; omega) (fun k hk => Or.inr (by show 0 + needN 8 ≤ 30 + k; rw [need8]; omega)) (fun k j _ hj => by show 30 + j ≠ 30 + k; omega)
theorem goodB (H n : Nat) (hn : n ≤ 8) : Good 60 0 (needN 8) (seqG (noB H) fGB n) :=
  seqG_good _ _ _ _ _ _ (by omega) (fun k hk => by show 30 + (k + H) % 8 < 60; omega) (fun k hk => Or.inr (by show 0 + needN 8 ≤ 30 + (k + H) % 8; rw [need8]; omega)) (fun k j hk hj => by show 30 + (j + H) % 8 ≠ 30 + (k + H) % 8; omega)
theorem outA (x : Nat) (h : 30 ≤ x) : x < 0 ∨ 0 + needN 8 ≤ x := Or.inr (by rw [need8]; omega)
/-- A row of ints as it lies in memory. -/
def IntsAt (w : World) (v : Value) (zs : List Int) : Prop :=
  ∃ a cap, v = .slice a zs.length cap ∧ zs.length ≤ maxLen ∧ (zs ≠ [] → ∃ b off, a = some ⟨b, off, none⟩ ∧ b < w.heap.size ∧ ∀ k, k < zs.length → w.cell? ⟨b, off + k, none⟩ = some (.int .i64 (zs.getD k 0)))
theorem Lies.no {base : Nat} {w : World} {gb n cap : Nat} {ps : List Piece} {l : Grp} (h : Lies base w (.slice (some ⟨gb, 0, none⟩) n cap) ps l) (k : Nat) (hk : k < l.length) (hl : l.length ≤ 1000) : w.cell? ⟨gb, k * 2, none⟩ = some (.int .i64 (nob l k : Nat)) := by
  have hg := h.own.at (by rw [h.len]; exact hl)
  rw [h.is] at hg
  have := (hg.cells k (by rw [up_len]; exact hk)).1
  rw [up_get, Nat.zero_add] at this
  exact this
/-- Eight texts. -/
structure TextsAt (tb : Nat) (ts : Nat → ByteArray) (w : World) : Prop where
  cell : ∀ k, k < 8 → w.cell? ⟨tb, k, none⟩ = some (.string (ts k))
  free : ∀ k, k < 8 → w.frozen? ⟨tb, k, none⟩ = false
theorem TextsAt.lt {tb : Nat} {ts : Nat → ByteArray} {w : World} (h : TextsAt tb ts w) : tb < w.heap.size := lt_of_cell (a := ⟨tb, 0, none⟩) (h.cell 0 (by decide))
theorem TextsAt.keep {tb : Nat} {ts : Nat → ByteArray} {w w' : World} {bs : List Nat} (h : TextsAt tb ts w) (ha : Apart bs w w') (hn : tb ∉ bs) : TextsAt tb ts w' :=
  ⟨fun k hk => (ha.cell (p := ⟨tb, k, none⟩) h.lt hn).trans (h.cell k hk), fun k hk => (ha.frozen (p := ⟨tb, k, none⟩) h.lt hn).trans (h.free k hk)⟩
theorem TextsAt.below {tb : Nat} {ts : Nat → ByteArray} {w w' : World} (h : TextsAt tb ts w) (hb : Below w.heap.size w w') : TextsAt tb ts w' := h.keep (Apart.of_below (bs := []) hb) (by simp)
theorem TextsAt.set {tb : Nat} {ts : Nat → ByteArray} {w : World} (h : TextsAt tb ts w) (i : Nat) (hi : i < 8) (x : ByteArray) : TextsAt tb (fun j => if j = i then x else ts j) (w.setCell ⟨tb, i, none⟩ (.string x)) :=
  ⟨fun j hj => by
    by_cases e : j = i
    · subst e
      simp only [if_true]
      exact World.cell?_setCell_same' _ _ _ (by rw [h.cell j hj]; rfl)
    · simp only [if_neg e]
      exact (World.cell?_setCell_other _ _ _ _ (by intro x; exact e (congrArg Addr.off x).symm)).trans (h.cell j hj), fun j hj => by simp [h.free j hj]⟩
theorem TextsAt.congr {tb : Nat} {ts us : Nat → ByteArray} {w : World} (h : TextsAt tb ts w) (he : ∀ k, k < 8 → ts k = us k) : TextsAt tb us w := ⟨fun k hk => by rw [h.cell k hk, he k hk], h.free⟩
abbrev noTexts : Array Value := #[.string ⟨#[]⟩, .string ⟨#[]⟩, .string ⟨#[]⟩, .string ⟨#[]⟩, .string ⟨#[]⟩, .string ⟨#[]⟩, .string ⟨#[]⟩, .string ⟨#[]⟩]
theorem texts_new (w : World) (cs : Array Value) (ts : Nat → ByteArray) (t : TypeId) (hc : ∀ k, k < 8 → cs[k]? = some (.string (ts k))) : TextsAt w.heap.size ts (w.alloc (.cells cs t)) := ⟨fun k hk => by rw [cells_new]; exact hc k hk, fun k _ => by simp⟩
theorem noTexts_get (k : Nat) (hk : k < 8) : noTexts[k]? = some (.string ⟨#[]⟩) := by
  match k, hk with
  | 0, _ => rfl
  | 1, _ => rfl
  | 2, _ => rfl
  | 3, _ => rfl
  | 4, _ => rfl
  | 5, _ => rfl
  | 6, _ => rfl
  | 7, _ => rfl
/-- What the blocks held when the second Commit was told of: all of it, or nothing. -/
def Held (mem3 : Nat → Int) (H n : Nat) (δ : Bool) (vv : Nat → List Int) : Prop :=
  (δ = true ∧ (∀ j, j < n → vv (noB H j) = fillL (fGB j)) ∧ ∀ x, 30 ≤ x → (∀ j, j < n → noB H j ≠ x) → vv x = blockL mem3 x) ∨ (δ = false ∧ ∀ x, 30 ≤ x → vv x = blockL mem3 x)
structure AgSt (w0 : World) (d g H n : Nat) (mem3 : Nat → Int) (δ : Bool) (lim : Int) (wx : World) : Prop where
  ex : ∃ vv mem wr left, Sys w0 d g 60 mem wr left wx ∧ LeftOk left ∧ 0 ≤ wr ∧ wr ≤ lim ∧ Stands 0 (needN 8) (seqG (noB H) fGB n) vv mem ∧ Held mem3 H n δ vv
theorem AgSt.more {w0 : World} {d g H n : Nat} {mem3 : Nat → Int} {δ : Bool} {lim : Int} {w w' : World} (h : AgSt w0 d g H n mem3 δ lim w) (hb : Below w.heap.size w w') : AgSt w0 d g H n mem3 δ lim w' := by
  obtain ⟨vv, mem, wr, left, h1, h2⟩ := h.ex
  exact ⟨vv, mem, wr, left, h1.more hb, h2⟩
theorem ag_commit {w0 : World} {d g H n : Nat} {mem3 : Nat → Int} {writes left : Int} {r : Value} {w w' : World} (hn : n ≤ 8) (hi : Idle 0 mem3) (hw : 0 ≤ writes ∧ writes ≤ 1000) (h : Done w0 d g 60 (allWs 0 (seqG (noB H) fGB n)) mem3 writes left r w w') :
    Apart [d, g] w w' ∧ ((r = .nilIface ∧ AgSt w0 d g H n mem3 true 3000 w') ∨ ∃ b, r = flt b ∧ AgSt w0 d g H n mem3 false 3000 w') := by
  have hl : (seqG (noB H) fGB n).length ≤ 8 := by rw [seqG_len]; exact hn
  obtain ⟨hA, hD⟩ := done_stands (goodB H n hn) (need_room hl) hi h
  refine ⟨hA, ?_⟩
  have hln := all_len 0 (seqG (noB H) fGB n) (by omega)
  rcases hD with ⟨rfl, left', hS, hl', -⟩ | ⟨b, i, mem', wr', rfl, -, -, hS, hwa, hwb, -, hSt⟩
  · have hsa := seq_all (mem := mem3) (goodB H n hn) (need_room hl)
    exact Or.inl ⟨rfl, blockL (laid (allWs 0 (seqG (noB H) fGB n)) mem3), _, _, _, hS, hl', by omega, by omega, .before hsa.1 (fun _ _ => rfl), Or.inl ⟨rfl, hsa.2.1, fun x hx hne => hsa.2.2 x (outA x hx) hne⟩⟩
  · exact Or.inr ⟨b, rfl, blockL mem3, mem', wr', 0, hS, by decide, by omega, by omega, hSt, Or.inr ⟨rfl, fun _ _ => rfl⟩⟩
section
variable {w0 : World} {d g H n : Nat} {mem3 : Nat → Int} {δ : Bool} {lim : Int} {w : World}
theorem ag_power (h : AgSt w0 d g H n mem3 δ lim w) : Calls Tryd.prog 14 #[ptr d] w fun e w' => e = .returned (.tuple #[]) ∧ (∃ vv mem wr, Sys w0 d g 60 mem wr (-1) w' ∧ 0 ≤ wr ∧ wr ≤ lim ∧ Stands 0 (needN 8) (seqG (noB H) fGB n) vv mem ∧ Held mem3 H n δ vv) ∧ Apart [d, g] w w' := by
  obtain ⟨vv, mem, wr, left, hS, -, h0, h1, hSt, hH⟩ := h.ex
  exact (sys_power hS).mono fun _ _ ⟨a, b, c⟩ => ⟨a, ⟨vv, mem, wr, b, h0, h1, hSt, hH⟩, c.mono (by simp)⟩
/-- An Open under a Fuse. -/
theorem ag_open (h1 : 1 ≤ n) (hn : n ≤ 8) {vv : Nat → List Int} {mem : Nat → Int} {wr left : Int} (hS : Sys w0 d g 60 mem wr left w) (hl : LeftOk left) (h0 : 0 ≤ wr) (hw : wr ≤ lim) (hlim : lim ≤ 100000) (hSt : Stands 0 (needN 8) (seqG (noB H) fGB n) vv mem) (hH : Held mem3 H n δ vv) :
    Calls Tryd.prog 9 #[ptr d, .int .i64 0, .int .i64 8] w fun e w' => ∃ x y, e = .returned (.tuple #[x, y]) ∧ AgSt w0 d g H n mem3 δ (lim + 300) w' ∧ Apart [d, g] w w' := by
  refine (open_stands hS hl ⟨h0, by omega⟩ 0 8 ⟨by omega, by omega⟩ (by decide) (seqG (noB H) fGB n) (by rw [seqG_len]; exact h1) (by rw [seqG_len]; exact hn) (goodB H n hn) vv hSt).mono ?_
  rintro e w' ⟨hA, mem', wr', left', hS', hl', hwa, hwb, ⟨jb, rfl, hJ, -, hR, -⟩ | ⟨b, rfl, -, -, hSt'⟩⟩
  · exact ⟨_, _, rfl, ⟨vv, mem', wr', left', hS', hl', by omega, by omega, hR.stands, hH⟩, hA⟩
  · exact ⟨_, _, rfl, ⟨vv, mem', wr', left', hS', hl', by omega, by omega, hSt', hH⟩, hA⟩
/-- The last Open. -/
theorem ag_last (h1 : 1 ≤ n) (hn : n ≤ 8) {vv : Nat → List Int} {mem : Nat → Int} {wr : Int} (hS : Sys w0 d g 60 mem wr (-1) w) (h0 : 0 ≤ wr) (hw : wr ≤ lim) (hlim : lim ≤ 100000) (hSt : Stands 0 (needN 8) (seqG (noB H) fGB n) vv mem) (hH : Held mem3 H n δ vv) :
    Calls Tryd.prog 9 #[ptr d, .int .i64 0, .int .i64 8] w fun e w' => ∃ jb mem' wr', e = .returned (.tuple #[ptr jb, .nilIface]) ∧ JAt jb d 0 8 w' ∧ Sys w0 d g 60 mem' wr' (-1) w' ∧ Apart [d, g] w w' ∧
      (((∀ j, j < n → blockL mem' (noB H j) = fillL (fGB j)) ∧ ∀ x, 30 ≤ x → (∀ j, j < n → noB H j ≠ x) → blockL mem' x = blockL mem3 x) ∨ (δ = false ∧ ∀ x, 30 ≤ x → blockL mem' x = blockL mem3 x)) := by
  refine (open_stands hS (by decide) ⟨h0, by omega⟩ 0 8 ⟨by omega, by omega⟩ (by decide) (seqG (noB H) fGB n) (by rw [seqG_len]; exact h1) (by rw [seqG_len]; exact hn) (goodB H n hn) vv hSt).mono ?_
  rintro e w' ⟨hA, mem', wr', left', hS', hl', hwa, hwb, ⟨jb, rfl, hJ, -, hR, hll⟩ | ⟨_, _, _, hne, _⟩⟩
  · rw [hll rfl] at hS'
    refine ⟨jb, mem', wr', rfl, hJ, hS', hA, ?_⟩
    have h30 : ∀ j, 30 ≤ noB H j := fun j => by show 30 ≤ 30 + (j + H) % 8; omega
    rcases rests_seq hR with hr | hr
    · rcases hH with ⟨-, ha, hb⟩ | ⟨hd, ha⟩
      · exact Or.inl ⟨fun j hj => by rw [hr _ (outA _ (h30 j))]; exact ha j hj, fun x hx hne => by rw [hr x (outA x hx)]; exact hb x hx hne⟩
      · exact Or.inr ⟨hd, fun x hx => by rw [hr x (outA x hx)]; exact ha x hx⟩
    · refine Or.inl ⟨hr.1, fun x hx hne => ?_⟩
      rw [hr.2 x (outA x hx) hne]
      rcases hH with ⟨-, ha, hb⟩ | ⟨hd, ha⟩
      · exact hb x hx hne
      · exact ha x hx
  · exact absurd rfl hne
end
/-- The texts that the second list makes of the first ones. -/
def nowT (W : Nat → ByteArray) (H : Nat) : Nat → Nat → ByteArray
  | 0, x => W x
  | m + 1, x => if x = (m + H) % 8 then ofBytes (fillL (fGB m)) else nowT W H m x
theorem nowT_is (W T : Nat → ByteArray) (H x : Nat) : ∀ m, (∀ j, j < m → (j + H) % 8 = x → T x = ofBytes (fillL (fGB j))) → ((∀ j, j < m → (j + H) % 8 ≠ x) → T x = W x) → nowT W H m x = T x
  | 0, _, h => (h (fun j hj => by omega)).symm
  | m + 1, h1, h2 => by
    unfold nowT
    by_cases e : x = (m + H) % 8
    · rw [if_pos e]; exact (h1 m (by omega) e.symm).symm
    · rw [if_neg e]
      refine nowT_is W T H x m (fun j hj => h1 j (by omega)) (fun h => h2 fun j hj => ?_)
      rcases Nat.lt_or_ge j m with h' | h'
      · exact h j h'
      · obtain rfl : j = m := by omega
        exact fun e' => e e'.symm
end Go.Proofs.YtbagncolhckhjaaDoor
