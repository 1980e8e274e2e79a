/- CachePlays, cut into declarations: what they share. -/
import Derived.Test.YtkaippiblpedhaaGreatDoorCb1
import Derived.Test.YtkaippiblpedhaaGreatDoorNmW
import Derived.Laws.CopyOwn
import Derived.Deep.RegionHeld
import Derived.Deep.CutBlock
namespace Go.Proofs.YtkaippiblpedhaaGreatDoor
open Go.RowKit Go.Extern.Stop Go.Stop Go.Extern
set_option maxRecDepth 100000


/-- The block of that number within a function's code. -/
def blockAt (n : Nat) : Code → Option Code
  | .block m c => if m = n then some (.block m c) else blockAt n c
  | .loop c => blockAt n c
  | .seq a b => match blockAt n a with
    | some c => some c
    | none => blockAt n b
  | .scope c => blockAt n c
  | .cond _ a b => match blockAt n a with
    | some c => some c
    | none => blockAt n b
  | _ => none
/-- The region of that number. -/
def regionAt (n : Nat) : Code → Option Code
  | .region m o d => if m = n then some (.region m o d) else none
  | .block _ c => regionAt n c
  | .loop c => regionAt n c
  | .seq a b => match regionAt n a with
    | some c => some c
    | none => regionAt n b
  | .scope c => regionAt n c
  | .cond _ a b => match regionAt n a with
    | some c => some c
    | none => regionAt n b
  | _ => none
/-- The branching on that slot. -/
def condAt (n : Nat) : Code → Option Code
  | .block _ c => condAt n c
  | .loop c => condAt n c
  | .seq a b => match condAt n a with
    | some c => some c
    | none => condAt n b
  | .scope c => condAt n c
  | .cond (.tmp m) a b => if m = n then some (.cond (.tmp m) a b) else match condAt n a with
    | some c => some c
    | none => condAt n b
  | .cond _ a b => match condAt n a with
    | some c => some c
    | none => condAt n b
  | _ => none
theorem ofBytes_list (ns : List Int) : (ofBytes ns).data.toList = ns.map fun n => UInt8.ofNat n.toNat := by
  have h : ∀ (l : List Int) (s : ByteArray), (l.foldl (fun r n => r.push (UInt8.ofNat n.toNat)) s).data.toList = s.data.toList ++ l.map fun n => UInt8.ofNat n.toNat := by
    intro l
    induction l with
    | nil => intro s; simp
    | cons x l ih => intro s; rw [List.foldl_cons, ih]; simp
  rw [ofBytes, h]
  simp
theorem ofBytes_size (l : List Int) : (ofBytes l).size = l.length := by
  have h := congrArg List.length (ofBytes_list l)
  rw [List.length_map] at h
  exact h
theorem bytes_take {w : World} {bb : Nat} {zs : List Int} (h : BytesAt w (.slice (some ⟨bb, 0, none⟩) 128 128) zs) (L : Nat) (hL : L ≤ 128) : BytesAt w (.slice (some ⟨bb, 0, none⟩) L 128) (zs.take L) := by
  obtain ⟨a, cap, hv, hr, hm, hn, hc⟩ := h
  obtain ⟨rfl, hz, rfl⟩ := Value.slice.inj hv
  have hl : (zs.take L).length = L := by rw [List.length_take]; omega
  refine ⟨_, 128, by rw [hl], fun z hzz => hr z (List.mem_of_mem_take hzz), by rw [hl]; unfold maxLen; omega, fun e => (by cases e), fun hne => ?_⟩
  obtain ⟨b, off, hb, hlt, hk⟩ := hc (by intro e; rw [e] at hne; simp at hne)
  refine ⟨b, off, hb, hlt, fun k hk2 => ?_⟩
  rw [hl] at hk2
  rw [hk k (by omega)]
  simp [List.getD, hk2]
theorem text_apart {a b : ByteArray} (h : a ≠ b) : (a.toList == b.toList) = false := by
  refine beq_eq_false_iff_ne.2 (fun e => h ?_)
  rw [ByteArray.toList_eq, ByteArray.toList_eq] at e
  apply ByteArray.ext
  exact Array.toList_inj.1 e
theorem need_room {l : Grp} {most : Nat} (h : l.length ≤ most) : 1 + size l ≤ needN most := by
  have e : size l = rowsN l.length + l.length := rfl
  have e2 := rowsN_mono h
  unfold needN
  omega
theorem all_len (at_ : Nat) (l : Grp) (h : l.length ≤ 200) : (allWs at_ l).length ≤ 700 := by
  have e : (allWs at_ l).length = (size l + 1) + (l.length + 1) := by rw [allWs, List.length_append, note_len, settleWs, List.length_append]; rfl
  have e2 : size l = rowsN l.length + l.length := rfl
  have e3 := rowsN_le l.length
  omega
theorem wp_last {P : Program} {c : Code} {Q : Exit → Act → World → Prop} {a : Act} {w : World} (h : Code.wp P c (Exit.then (fun a w => Q .normal a w) Q) a w) : Code.wp P c Q a w := wp_mono h (fun e a w h => by cases e <;> exact h)
theorem Tryz.infoTexts : (Tryz.prog.info? 28).map (fun i => (i.zero, i.size, i.bytes)) = some (some (.agg (Array.replicate 12 (.string ⟨#[]⟩))), 12, 192) := by kernel_rfl
theorem Tryz.sizeTexts : (Tryz.prog.info? 28).map (·.size) = some 12 := by kernel_rfl
/-- Twelve texts, as cells. -/
def textC (f : Nat → ByteArray) : Array Value := ((List.range 12).map fun j => Value.string (f j)).toArray
theorem textC_size (f : Nat → ByteArray) : (textC f).size = 12 := by simp [textC]
theorem textC_get (f : Nat → ByteArray) (j : Nat) (hj : j < 12) : (textC f)[j]? = some (.string (f j)) := by
  unfold textC
  rw [List.getElem?_toArray]
  simp [hj]
theorem textC_one (f : Nat → ByteArray) : (textC f).all (·.oneCell') = true := by
  rw [Array.all_eq_true_iff_forall_mem]
  intro v hv
  have hv' : v ∈ (List.range 12).map fun j => Value.string (f j) := by simpa only [textC, List.mem_toArray] using hv
  obtain ⟨z, _, rfl⟩ := List.mem_map.1 hv'
  rfl
theorem textC_congr {f g : Nat → ByteArray} (h : ∀ j, j < 12 → f j = g j) : textC f = textC g := by
  unfold textC
  congr 1
  exact List.map_congr_left fun j hj => by rw [h j (List.mem_range.1 hj)]
/-- An array of twelve texts that the statement made. -/
def Txt (b : Nat) (f : Nat → ByteArray) (w : World) : Prop := w.heap[b]? = some (.cells (textC f) 28 (0, 0))
theorem Txt.cell {b : Nat} {f : Nat → ByteArray} {w : World} (h : Txt b f w) (j : Nat) (hj : j < 12) : w.cell? ⟨b, j, none⟩ = some (.string (f j)) := by rw [cell_of_row _ _ _ _ _ _ h]; exact textC_get f j hj
theorem Txt.free {b : Nat} {f : Nat → ByteArray} {w : World} (h : Txt b f w) (j : Nat) : w.frozen? ⟨b, j, none⟩ = false := frozen_of_row _ _ _ _ _ h
theorem Txt.lt {b : Nat} {f : Nat → ByteArray} {w : World} (h : Txt b f w) : b < w.heap.size := lt_of_cell (a := ⟨b, 0, none⟩) (h.cell 0 (by decide))
theorem Txt.keep {b : Nat} {f : Nat → ByteArray} {w w' : World} {bs : List Nat} (h : Txt b f w) (ha : Apart bs w w') (hn : b ∉ bs) : Txt b f w' := (ha.block b h.lt hn).trans h
theorem Txt.below {b : Nat} {f : Nat → ByteArray} {w w' : World} (h : Txt b f w) (hb : Below w.heap.size w w') : Txt b f w' := h.keep (Apart.of_below (bs := []) hb) (by simp)
theorem Txt.congr {b : Nat} {f g : Nat → ByteArray} {w : World} (h : Txt b f w) (he : ∀ j, j < 12 → f j = g j) : Txt b g w := by
  unfold Txt at *
  rw [← textC_congr he]
  exact h
theorem heap_setCell_row (w : World) (g i : Nat) (old : Array Value) (t : TypeId) (fr : Nat × Nat) (v : Value) (hg : w.heap[g]? = some (.cells old t fr)) : (w.setCell ⟨g, i, none⟩ v).heap[g]? = some (.cells (old.setIfInBounds i v) t fr) := by
  simp [World.setCell, Array.getElem?_modify, hg]
theorem Txt.set {b : Nat} {f : Nat → ByteArray} {w : World} (h : Txt b f w) (i : Nat) (s : ByteArray) : Txt b (fun j => if j = i then s else f j) (w.setCell ⟨b, i, none⟩ (.string s)) := by
  refine (heap_setCell_row w b i _ _ _ _ h).trans ?_
  congr 2
  apply Array.ext_getElem?
  intro j
  rw [Array.getElem?_setIfInBounds]
  by_cases hj : j < 12
  · rw [textC_get f j hj, textC_get (fun j => if j = i then s else f j) j hj, textC_size]
    by_cases e : i = j
    · rw [if_pos e, if_pos (by omega), if_pos e.symm]
    · rw [if_neg e, if_neg (fun h => e h.symm)]
  · rw [Array.getElem?_eq_none (by rw [textC_size]; omega), Array.getElem?_eq_none (by rw [textC_size]; omega), textC_size]
    by_cases e : i = j
    · rw [if_pos e, if_neg (by omega)]
    · rw [if_neg e]
theorem Txt.load {b : Nat} {f : Nat → ByteArray} {w : World} (h : Txt b f w) : (loadVar 28 ⟨b, 0, none⟩).run Tryz.prog w = .ok (.agg (textC f)) w := by
  have hl := run_loadCells_list (P := Tryz.prog) w ⟨b, 0, none⟩ ((List.range 12).map fun j => Value.string (f j)) (fun j v hv => by
    have hj : j < 12 := by
      rcases Nat.lt_or_ge j 12 with h | h'
      · exact h
      · rw [List.getElem?_eq_none (by simp; omega)] at hv; cases hv
    rw [Go.WideShapes.add_plain, Nat.zero_add, h.cell j hj]
    simpa [hj] using hv)
  obtain ⟨i0, hi0, hz0, hz1, hz2⟩ := info_parts3 Tryz.infoTexts
  have hagg : (isAgg 28).run Tryz.prog w = .ok true w := by
    unfold isAgg
    rw [Sem.run_bind, run_underlying Tryz.underlying28 w]
    rfl
  have hlen : ((List.range 12).map fun j => Value.string (f j)).length = 12 := by simp
  rw [hlen] at hl
  simp [loadVar, Sem.run_bind, hagg, sizeOf, typeInfo, hi0, hz1, hl, textC]
theorem Txt.row {b : Nat} {f : Nat → ByteArray} {w : World} (h : Txt b f w) (g : Nat → ByteArray) : Txt b g (w.setRow b (textC g)) := setRow_heap _ _ _ _ _ _ h
theorem apart_setRow {bs : List Nat} {b : Nat} {w w' : World} (h : Apart bs w w') (hb : b ∈ bs) (cs : Array Value) : Apart bs w (w'.setRow b cs) :=
  ⟨h.os, h.tape, h.output, by have := h.size; simpa [World.setRow] using this, fun k hk hn => by
    have e : k ≠ b := fun e => hn (e ▸ hb)
    have : (w'.setRow b cs).heap[k]? = w'.heap[k]? := by simp [World.setRow, Array.getElem?_modify, Ne.symm e]
    exact this.trans (h.block k hk hn)⟩
/-- A list of numbers of the statement's own. -/
structure Kept (base : Nat) (w : World) (v : Value) (ks : List Int) : Prop where
  row : w.ownsRow base 3 1 v ks.length (ks.map encZ)
theorem Kept.nil (base : Nat) (w : World) : Kept base w (.slice none 0 0) [] := ⟨World.ownsRow_nil w base _ _⟩
theorem Kept.keep {base : Nat} {w w' : World} {v : Value} {ks : List Int} {bs : List Nat} (h : Kept base w v ks) (ha : Apart bs w w') (hb : ∀ k ∈ bs, k < base) : Kept base w' v ks := by
  refine ⟨h.row.1, ?_⟩
  rcases h.row.2 with h0 | ⟨g, cap, cur, hv, h1, hh, rest⟩
  · exact Or.inl h0
  · have hlt : g < w.heap.size := by
      rcases Nat.lt_or_ge g w.heap.size with h | h
      · exact h
      · rw [Array.getElem?_eq_none h] at hh; cases hh
    exact Or.inr ⟨g, cap, cur, hv, h1, (ha.block g hlt (fun hm => absurd (hb g hm) (by omega))).trans hh, rest⟩
theorem Kept.below {base : Nat} {w w' : World} {v : Value} {ks : List Int} (h : Kept base w v ks) (hb : Below w.heap.size w w') : Kept base w' v ks := h.keep (Apart.of_below (bs := []) hb) (by simp)
/-- It as it lies. -/
theorem Kept.form {base : Nat} {w : World} {v : Value} {ks : List Int} (h : Kept base w v ks) : ∃ a cap, v = .slice a ks.length cap ∧ (ks ≠ [] → ∃ b, a = some ⟨b, 0, none⟩ ∧ base ≤ b ∧ b < w.heap.size ∧ ∀ k, k < ks.length → w.cell? ⟨b, k, none⟩ = some (.int .i64 (ks.getD k 0))) := by
  rcases h.row.2 with ⟨rfl, h0⟩ | ⟨g', cap', cur, rfl, h1, hh, h2, h3, h4, h5⟩
  · exact ⟨none, 0, by rw [h0], fun e => absurd (List.length_eq_zero_iff.1 h0) e⟩
  · refine ⟨_, cap', rfl, fun _ => ⟨g', rfl, h1, ?_, fun k hk => ?_⟩⟩
    · rcases Nat.lt_or_ge g' w.heap.size with h | h
      · exact h
      · rw [Array.getElem?_eq_none h] at hh; cases hh
    · have hc := h.row.cellAt k (by omega)
      rw [hc]
      simp [List.getD, hk, encZ]
theorem Told.kept {base : Nat} {w : World} {v : Value} {M : Chg} (h : Told base w v M) : Kept base w v (M.map (·.1)) := ⟨by rw [List.length_map]; exact h.row⟩
set_option maxHeartbeats 1000000 in
/-- Two lists of the same numbers. -/
theorem same_calls {b1 b2 : Nat} {w : World} {v1 v2 : Value} {ks : List Int} (h1 : Kept b1 w v1 ks) (h2 : Kept b2 w v2 ks) (hl : ks.length ≤ 1000) :
    Calls Tryz.prog 13 #[v1, v2] w fun e w' => e = .returned (.bool true) ∧ Below w.heap.size w w' := by
  obtain ⟨a1, c1, rfl, f1⟩ := h1.form
  obtain ⟨a2, c2, rfl, f2⟩ := h2.form
  replace f1 := hidden f1
  replace f2 := hidden f2
  go_enter Tryz.func13, Tryz.ntmps13
  go_wp2_with fail
  go_loopg [5] ks.length (fun gk q wr => ∃ k : Nat, k ≤ ks.length ∧ gk = ks.length - k ∧ q = .int .i64 k ∧ Hid (Below w.heap.size w wr))
  case atStart => exact ⟨0, by omega, rfl, rfl, hidden (Below.refl _ _)⟩
  case round =>
    obtain ⟨k, hk, hgk, rfl, hI⟩ := hrel
    replace hgk := hidden hgk
    by_cases hlt : k < ks.length
    · have hlt2 : (k : Int) < (ks.length : Int) := by omega
      have hne : ks ≠ [] := by intro e; rw [e] at hlt; simp at hlt
      obtain ⟨b1, rfl, -, l1, g1⟩ := f1.out hne
      obtain ⟨b2, rfl, -, l2, g2⟩ := f2.out hne
      have hS0 : Below w.heap.size w wr.drew := hI.out.drew
      have k1 := hidden (fun wx (hx : Below w.heap.size w wx) => (hx.cell (p := ⟨b1, k, none⟩) l1).trans (g1 k hlt))
      have k2 := hidden (fun wx (hx : Below w.heap.size w wx) => (hx.cell (p := ⟨b2, k, none⟩) l2).trans (g2 k hlt))
      generalize ks.getD k 0 = x at k1 k2
      clear g1 g2 hne hI
      go_upto_region 6 with fail
      refine wp_region_held_drew (S := fun w' => Below w.heap.size w w') (by kernel_rfl) hS0 ?_
      intro _
      refine wpAnyH_take (i := 0) (v := ?_) rfl (by kernel_rfl) (by kernel_rfl) (by kernel_rfl) (fun _ _ _ h => h) (Or.inl ⟨by rfl, ?_⟩) hS0 ?_
      rotate_left
      · intro w hw; clear hw; go_simp; try (with_reducible rfl)
      refine wpAnyH_take (i := 1) (v := ?_) rfl (by kernel_rfl) (by kernel_rfl) (by kernel_rfl) (fun _ _ _ h => h) (Or.inl ⟨by rfl, ?_⟩) hS0 ?_
      rotate_left
      · intro w hw; clear hw; go_simp; try (with_reducible rfl)
      refine wpAnyH_take (i := 2) (v := ?_) rfl (by kernel_rfl) (by kernel_rfl) (by kernel_rfl) (fun _ _ _ h => h) (Or.inl ⟨by rfl, ?_⟩) hS0 ?_
      rotate_left
      · intro w hw; clear hw; go_simp; try (with_reducible rfl)
      refine wpAnyH_take (i := 3) (v := ?_) rfl (by kernel_rfl) (by kernel_rfl) (by kernel_rfl) (fun _ _ _ h => h) (Or.inl ⟨by rfl, ?_⟩) hS0 ?_
      rotate_left
      · intro w hw; have e1 := k1.out _ hw; clear hw; go_simp; try (with_reducible rfl)
      refine wpAnyH_take (i := 4) (v := ?_) rfl (by kernel_rfl) (by kernel_rfl) (by kernel_rfl) (fun _ _ _ h => h) (Or.inl ⟨by rfl, ?_⟩) hS0 ?_
      rotate_left
      · intro w hw; clear hw; go_simp; try (with_reducible rfl)
      refine wpAnyH_ready (rs := [5]) (by kernel_rfl) (by simp) ?_
      refine AllReadyH.cons rfl (fun K hK => ?_) AllReadyH.nil
      go_simp
      refine hK.out _ _ hS0 (fun _ => ?_)
      clear hK K
      refine wpAnyH_ready (rs := [6]) (by kernel_rfl) (by simp) ?_
      refine AllReadyH.cons rfl (fun K hK => ?_) AllReadyH.nil
      go_simp
      refine hK.out _ _ hS0 (fun _ => ?_)
      clear hK K
      refine wpAnyH_ready (rs := [7]) (by kernel_rfl) (by simp) ?_
      refine AllReadyH.cons rfl (fun K hK => ?_) AllReadyH.nil
      have e2 := k2.out _ hS0
      go_simp
      refine hK.out _ _ hS0 (fun _ => ?_)
      clear hK K
      refine wpAnyH_ready (rs := [8]) (by kernel_rfl) (by simp) ?_
      refine AllReadyH.cons rfl (fun K hK => ?_) AllReadyH.nil
      go_simp
      refine hK.out _ _ hS0 (fun _ => ?_)
      clear hK K
      refine wpAnyH_done (by kernel_rfl) ?_ _
      go_wp2
      go_roundg (ks.length - (k + 1))
      case measure => rw [hgk.out]; omega
      case rel => exact ⟨k + 1, by omega, rfl, by go_num, hidden hS0⟩
    · obtain rfl : k = ks.length := by omega
      go_wp2
      go_ret
      exact ⟨rfl, hI.out⟩
/-- A call of the script. -/
structure OpV where
  kind : Int
  no : Int
  at1 : Int
  long : Int
  n : Int
/-- What holds within a round. -/
structure Rc (w0 : World) (d g jb cb mb nb lb ob most : Nat) (o : OpV) (M : Chg) (f fl : Nat → ByteArray) (mem : Nat → Int) (wr : Int) (w : World) : Prop where
  st : CSt w0 d g 60 jb cb mb 20 most 12 mem wr (-1) M w
  now : Txt nb f w
  last : Txt lb fl w
  o0 : w.cell? ⟨ob, 0, none⟩ = some (.int .i64 o.kind)
  o1 : w.cell? ⟨ob, 1, none⟩ = some (.int .i64 o.no)
  o2 : w.cell? ⟨ob, 2, none⟩ = some (.int .i64 o.at1)
  o3 : w.cell? ⟨ob, 3, none⟩ = some (.int .i64 o.long)
  o4 : w.cell? ⟨ob, 4, none⟩ = some (.int .i64 o.n)
  apn : nb ∉ [d, g, jb, cb, mb]
  apl : lb ∉ [d, g, jb, cb, mb, nb]
  apo : ob ∉ [d, g, jb, cb, mb, nb, lb]
  new : w0.heap.size ≤ nb ∧ w0.heap.size ≤ lb
section
variable {w0 : World} {d g jb cb mb nb lb ob most : Nat} {o : OpV} {M M' : Chg} {f f' fl fl' : Nat → ByteArray} {mem mem' : Nat → Int} {wr wr' : Int} {w w' : World}
theorem Rc.olt (h : Rc w0 d g jb cb mb nb lb ob most o M f fl mem wr w) : ob < w.heap.size := lt_of_cell (a := ⟨ob, 0, none⟩) h.o0
theorem Rc.ocells (h : Rc w0 d g jb cb mb nb lb ob most o M f fl mem wr w) {bs : List Nat} (ha : Apart bs w w') (hb : ∀ k ∈ bs, k ∈ [d, g, mb, nb, lb]) :
    w'.cell? ⟨ob, 0, none⟩ = some (.int .i64 o.kind) ∧ w'.cell? ⟨ob, 1, none⟩ = some (.int .i64 o.no) ∧ w'.cell? ⟨ob, 2, none⟩ = some (.int .i64 o.at1) ∧ w'.cell? ⟨ob, 3, none⟩ = some (.int .i64 o.long) ∧ w'.cell? ⟨ob, 4, none⟩ = some (.int .i64 o.n) := by
  have ho : ob ∉ bs := fun hm => h.apo (by have := hb ob hm; simp at this ⊢; omega)
  exact ⟨(ha.cell (p := ⟨ob, 0, none⟩) h.olt ho).trans h.o0, (ha.cell (p := ⟨ob, 1, none⟩) h.olt ho).trans h.o1, (ha.cell (p := ⟨ob, 2, none⟩) h.olt ho).trans h.o2, (ha.cell (p := ⟨ob, 3, none⟩) h.olt ho).trans h.o3, (ha.cell (p := ⟨ob, 4, none⟩) h.olt ho).trans h.o4⟩
/-- The cache, its map, the disk have turned; the disk's blocks are as they were told. -/
theorem Rc.step (h : Rc w0 d g jb cb mb nb lb ob most o M f fl mem wr w) (ha : Apart [d, g, mb] w w') (hst : CSt w0 d g 60 jb cb mb 20 most 12 mem' wr' (-1) M' w') : Rc w0 d g jb cb mb nb lb ob most o M' f fl mem' wr' w' := by
  obtain ⟨c0, c1, c2, c3, c4⟩ := h.ocells ha (by simp)
  exact ⟨hst, h.now.keep ha (fun hm => h.apn (by simp at hm ⊢; omega)), h.last.keep ha (fun hm => h.apl (by simp at hm ⊢; omega)), c0, c1, c2, c3, c4, h.apn, h.apl, h.apo, h.new⟩
theorem Rc.below (h : Rc w0 d g jb cb mb nb lb ob most o M f fl mem wr w) (hb : Below w.heap.size w w') : Rc w0 d g jb cb mb nb lb ob most o M f fl mem wr w' := h.step (Apart.of_below hb) (h.st.more hb)
theorem Rc.turn (h : Rc w0 d g jb cb mb nb lb ob most o M f fl mem wr w) (ha : Apart [mb] w w') (hst : CSt w0 d g 60 jb cb mb 20 most 12 mem wr (-1) M' w') : Rc w0 d g jb cb mb nb lb ob most o M' f fl mem wr w' :=
  h.step (ha.mono (by simp)) hst
theorem CSt.apartB {bs : List Nat} (h : CSt w0 d g 60 jb cb mb 20 most 12 mem wr (-1) M w) (ha : Apart bs w w') (hn : ∀ k ∈ bs, k ∉ [d, g, jb, cb, mb]) (hw : ∀ k ∈ bs, w0.heap.size ≤ k) : CSt w0 d g 60 jb cb mb 20 most 12 mem wr (-1) M w' := by
  have e : ∀ x ∈ [d, g, jb, cb, mb], x ∉ bs := fun x hx hm => hn x hm hx
  exact ⟨⟨h.sys.base, h.sys.disk.apart_of ha (e d (by simp)) (e g (by simp)), h.sys.below.trans (ha.below hw h.sys.below.size), h.sys.hd, h.sys.hg⟩, h.jat.keep ha (e jb (by simp)), h.cat.keep ha (e cb (by simp)), h.map.keep ha (e mb (by simp)), h.jd, h.cd, h.md, h.mj, h.new⟩
/-- One text of the statement's own is set. -/
theorem Rc.set (h : Rc w0 d g jb cb mb nb lb ob most o M f fl mem wr w) (i : Nat) (s : ByteArray) : Rc w0 d g jb cb mb nb lb ob most o M (fun j => if j = i then s else f j) fl mem wr (w.setCell ⟨nb, i, none⟩ (.string s)) := by
  have ha : Apart [nb] w (w.setCell ⟨nb, i, none⟩ (.string s)) := (Apart.refl [nb] w).setCell (p := ⟨nb, i, none⟩) (by simp) _
  obtain ⟨c0, c1, c2, c3, c4⟩ := h.ocells ha (by simp)
  exact ⟨h.st.apartB ha (by simpa using h.apn) (by simpa using h.new.1), h.now.set i s, h.last.keep ha (fun hm => h.apl (by simp at hm ⊢; omega)), c0, c1, c2, c3, c4, h.apn, h.apl, h.apo, h.new⟩
/-- All texts are set anew. -/
theorem Rc.setNow (h : Rc w0 d g jb cb mb nb lb ob most o M f fl mem wr w) (f' : Nat → ByteArray) : Rc w0 d g jb cb mb nb lb ob most o M f' fl mem wr (w.setRow nb (textC f')) := by
  have ha : Apart [nb] w (w.setRow nb (textC f')) := apart_setRow (Apart.refl [nb] w) (by simp) _
  obtain ⟨c0, c1, c2, c3, c4⟩ := h.ocells ha (by simp)
  exact ⟨h.st.apartB ha (by simpa using h.apn) (by simpa using h.new.1), h.now.row f', h.last.keep ha (fun hm => h.apl (by simp at hm ⊢; omega)), c0, c1, c2, c3, c4, h.apn, h.apl, h.apo, h.new⟩
/-- The elder texts are set anew. -/
theorem Rc.setLast (h : Rc w0 d g jb cb mb nb lb ob most o M f fl mem wr w) (f' : Nat → ByteArray) : Rc w0 d g jb cb mb nb lb ob most o M f f' mem wr (w.setRow lb (textC f')) := by
  have ha : Apart [lb] w (w.setRow lb (textC f')) := apart_setRow (Apart.refl [lb] w) (by simp) _
  obtain ⟨c0, c1, c2, c3, c4⟩ := h.ocells ha (by simp)
  have hl := h.apl
  exact ⟨h.st.apartB ha (fun k hk => by simp at hk; subst hk; intro hm; exact hl (by simp at hm ⊢; omega)) (by simpa using h.new.2), h.now.keep ha (fun hm => hl (by simp at hm ⊢; omega)), h.last.row f', c0, c1, c2, c3, c4, h.apn, h.apl, h.apo, h.new⟩
theorem Rc.now_congr (h : Rc w0 d g jb cb mb nb lb ob most o M f fl mem wr w) (he : ∀ j, j < 12 → f j = f' j) : Rc w0 d g jb cb mb nb lb ob most o M f' fl mem wr w :=
  ⟨h.st, h.now.congr he, h.last, h.o0, h.o1, h.o2, h.o3, h.o4, h.apn, h.apl, h.apo, h.new⟩
end
/-- What the statement asks of the cache's map and of the disk. -/
structure Ok (most : Nat) (M : Chg) (mem : Nat → Int) : Prop where
  idle : Idle 20 mem
  len : M.length ≤ most
  keys : ∀ p ∈ M, 0 ≤ p.1 ∧ p.1 < 12
theorem Ok.flushed {most : Nat} {mem : Nat → Int} (h : Idle 20 mem) : Ok most [] mem := ⟨h, by simp, fun p hp => by cases hp⟩
set_option maxHeartbeats 1000000 in
/-- A Flush, whatever is changed. -/
theorem cflush_calls {w0 : World} {d g jb cb mb most : Nat} {M : Chg} {mem : Nat → Int} {wr : Int} {w : World} (h : CSt w0 d g 60 jb cb mb 20 most 12 mem wr (-1) M w) (hO : Ok most M mem) (hm : 1 ≤ most ∧ most ≤ 8) (hw : 0 ≤ wr ∧ wr < 300000000) :
    Calls Tryz.prog 11 #[ptr cb] w fun e w' => e = .returned .nilIface ∧ Apart [d, g, mb] w w' ∧ ∃ mem' wr', CSt w0 d g 60 jb cb mb 20 most 12 mem' wr' (-1) [] w' ∧ Idle 20 mem' ∧ wr ≤ wr' ∧ wr' ≤ wr + 1000 ∧ ∀ j, j < 12 → blockL mem' j = nowM mem M j := by
  have hat : 20 + needN most ≤ 60 := need8 most hm.2
  by_cases hM : M = []
  · subst hM
    refine (flush_none h ⟨hm.1, by omega⟩ hat).mono ?_
    rintro e w' ⟨rfl, hst, hA⟩
    exact ⟨rfl, hA.mono (by simp), mem, wr, hst, hO.idle, by omega, by omega, fun j _ => rfl⟩
  · have h1 : 1 ≤ M.length := by
      rcases Nat.eq_zero_or_pos M.length with e | e
      · exact absurd (List.length_eq_zero_iff.1 e) hM
      · exact e
    have hk : ∀ p ∈ M, 0 ≤ p.1 ∧ p.1 < (60 : Nat) ∧ (p.1 < (20 : Nat) ∨ ((20 : Nat) : Int) + needN most ≤ p.1) := fun p hp => by have := hO.keys p hp; omega
    have hg := grpM_good (n := 60) (at_ := 20) (own := needN most) h.map.tidy (by have := hO.len; omega) hk
    have hr : 1 + size (grpM M) ≤ needN most := need_room (by rw [grpM_len]; exact hO.len)
    have ha := all_all (mem := mem) hg hr
    have hln := all_len 20 (grpM M) (by rw [grpM_len]; have := hO.len; omega)
    refine (flush_calls h (by decide) ⟨hw.1, by omega⟩ ⟨hm.1, by omega⟩ hat hO.idle h1 hO.len hk).mono ?_
    rintro e w' (⟨rfl, hA, left', hst, -, hl⟩ | ⟨_, _, _, _, _, _, _, _, hne⟩)
    · rw [hl rfl] at hst
      refine ⟨rfl, hA, _, _, hst, ha.1, by omega, by omega, fun j hj => ?_⟩
      by_cases hh : hasM (j : Int) M = true
      · have hmem := getM_mem (z := blockL mem j) hh
        have := ha.2.2 (j, getM (j : Int) M (blockL mem j)) (List.mem_map.2 ⟨_, hmem, by simp⟩)
        exact this
      · have hf : hasM (j : Int) M = false := by simpa using hh
        rw [ha.2.1 j (Or.inl (by omega)) (fun p hp e => by
          obtain ⟨q, hq, rfl⟩ := List.mem_map.1 hp
          have hq1 := (hO.keys q hq).1
          have : hasM (j : Int) M = true := hasM_iff.2 ⟨q, hq, by simp at e; omega⟩
          rw [this] at hf; cases hf)]
        exact (getM_none hf).symm
    · exact absurd rfl hne
theorem BytesAt.keepB {w w' : World} {bb n cap : Nat} {zs : List Int} {b : Nat} (h : BytesAt w (.slice (some ⟨bb, 0, none⟩) n cap) zs) (ha : Apart [b] w w') (hn : bb ≠ b) : BytesAt w' (.slice (some ⟨bb, 0, none⟩) n cap) zs := by
  obtain ⟨a, cap', hv, hr, hm, hnn, hc⟩ := h
  refine ⟨a, cap', hv, hr, hm, hnn, fun hne => ?_⟩
  obtain ⟨b', off, hb, hlt, hk⟩ := hc hne
  obtain ⟨e, -, -⟩ := Value.slice.inj hv
  rw [hb] at e
  obtain ⟨rfl, -, -⟩ := Addr.mk.inj (Option.some.inj e)
  exact ⟨_, off, hb, Nat.lt_of_lt_of_le hlt ha.size, fun k hk2 => (ha.cell (p := ⟨bb, off + k, none⟩) hlt (by simpa using hn)).trans (hk k hk2)⟩

/-- A text cut and joined again is the row that is laid. -/
theorem layL_text {old zs : List Int} {at_ : Nat} (ho : old.length = 128) : (ofBytes old).extract 0 at_ ++ ofBytes zs ++ (ofBytes old).extract (at_ + zs.length) 128 = ofBytes (layL old at_ zs) := by
  apply ByteArray.ext
  apply Array.toList_inj.1
  rw [ofBytes_list]
  simp only [ByteArray.data_append, ByteArray.data_extract, Array.toList_append, Array.toList_extract, ofBytes_list, layL, List.map_append, List.map_take, List.map_drop, List.extract]
  rw [List.drop_zero, Nat.sub_zero]
  congr 1
  rw [List.take_of_length_le (by simp [ho])]
theorem layL_sizes {old : List Int} {at_ : Nat} (ho : old.length = 128) (ha : at_ ≤ 128) : (ofBytes old).size = 128 ∧ ((ofBytes old).extract 0 at_).size = at_ ∧ ((ofBytes old).extract at_ 128).size = 128 - at_ := by
  have h : (ofBytes old).size = 128 := by rw [ofBytes_size]; exact ho
  refine ⟨h, ?_, ?_⟩
  · rw [ByteArray.size_extract, h]; omega
  · rw [ByteArray.size_extract, h]; omega
abbrev keysM (M : Chg) : List Int := M.map (·.1)
theorem keys_get (M : Chg) (k : Nat) (hk : k < M.length) : (keysM M).getD k 0 = (M[k]).1 := by simp [keysM, List.getD, hk]
/-- Where a key stands. -/
theorem has_at {M : Chg} (ht : Tidy M) {no : Int} {k : Nat} (hlo : ∀ j, j < k → j < M.length → (keysM M).getD j 0 < no) (hhi : k < M.length → ¬ (keysM M).getD k 0 < no) : hasM no M = decide (k < M.length ∧ (keysM M).getD k 0 = no) := by
  by_cases h : k < M.length ∧ (keysM M).getD k 0 = no
  · rw [decide_eq_true h]
    rw [keys_get M k h.1] at h
    exact hasM_iff.2 ⟨M[k]'h.1, List.getElem_mem _, h.2⟩
  · rw [decide_eq_false h]
    rcases Bool.eq_false_or_eq_true (hasM no M) with e | e
    · exfalso
      obtain ⟨p, hp, he⟩ := hasM_iff.1 e
      obtain ⟨i, hi, rfl⟩ := List.mem_iff_getElem.1 hp
      have hik : ¬ i < k := fun hlt => by have := hlo i hlt hi; rw [keys_get M i hi] at this; omega
      by_cases hk : k < M.length
      · have h2 := hhi hk
        rw [keys_get M k hk] at h2 h
        by_cases e2 : k = i
        · subst e2; exact h ⟨hk, he⟩
        · have := List.pairwise_iff_getElem.1 ht.up k i hk hi (by omega)
          omega
      · omega
    · exact e
theorem ins_keys (x : Int × List Int) : ∀ (M : Chg) (k : Nat), k ≤ M.length → (∀ j, j < k → (keysM M).getD j 0 < x.1) → (k < M.length → x.1 < (keysM M).getD k 0) → keysM (insM x M) = (keysM M).take k ++ x.1 :: (keysM M).drop k
  | [], k, hk, _, _ => by
    obtain rfl : k = 0 := by simpa using hk
    rfl
  | p :: r, 0, _, _, hhi => by
    have h := hhi (by simp)
    simp only [keysM, List.map_cons, List.getD, List.getElem?_cons_zero, Option.getD_some] at h
    unfold insM
    rw [if_pos h]
    rfl
  | p :: r, k + 1, hk, hlo, hhi => by
    have h := hlo 0 (by omega)
    simp only [keysM, List.map_cons, List.getD, List.getElem?_cons_zero, Option.getD_some] at h
    unfold insM
    rw [if_neg (by simp; omega)]
    have ih := ins_keys x r k (by simpa using hk) (fun j hj => by have := hlo (j + 1) (by omega); simpa [keysM, List.getD] using this) (fun hlt => by have := hhi (by simpa using hlt); simpa [keysM, List.getD] using this)
    show p.1 :: keysM (insM x r) = _
    rw [ih]
    rfl
theorem filter_none {no : Int} {M : Chg} (h : ∀ p ∈ M, p.1 ≠ no) : (M.filter fun p => !decide (p.1 = no)) = M := List.filter_eq_self.2 fun p hp => by simp [h p hp]
theorem has_false {no : Int} {M : Chg} (h : hasM no M = false) : ∀ p ∈ M, p.1 ≠ no := fun p hp e => by
  have : hasM no M = true := hasM_iff.2 ⟨p, hp, e⟩
  rw [this] at h; cases h
/-- The keys behind a new one. -/
theorem put_keys_new {M : Chg} {no : Int} {k : Nat} (z : List Int) (hk : k ≤ M.length) (hlo : ∀ j, j < k → (keysM M).getD j 0 < no) (hhi : k < M.length → ¬ (keysM M).getD k 0 < no) (hh : hasM no M = false) : keysM (putM no z M) = (keysM M).take k ++ no :: (keysM M).drop k := by
  unfold putM
  rw [filter_none (has_false hh)]
  refine ins_keys (no, z) M k hk hlo (fun hlt => ?_)
  have h1 := hhi hlt
  have h2 := has_false hh _ (List.getElem_mem hlt)
  rw [keys_get M k hlt] at h1 ⊢
  show no < _
  omega
/-- .. and behind one that was there. -/
theorem put_keys_old {no : Int} (z : List Int) : ∀ {M : Chg}, M.Pairwise (fun p q => p.1 < q.1) → hasM no M = true → keysM (putM no z M) = keysM M
  | [], _, h => by simp [hasM] at h
  | p :: r, ht, h => by
    obtain ⟨h1, h2⟩ := List.pairwise_cons.1 ht
    by_cases e : p.1 = no
    · have hf : (r.filter fun p => !decide (p.1 = no)) = r := filter_none (fun q hq => by have := h1 q hq; omega)
      unfold putM
      rw [List.filter_cons_of_neg (by simp [e]), hf, ins_keys (no, z) r 0 (Nat.zero_le _) (fun j hj => by omega) (fun hlt => by
        rw [keys_get r 0 hlt]
        have := h1 _ (List.getElem_mem hlt)
        show no < _
        omega)]
      simp [keysM, e]
    · have hr : hasM no r = true := by
        obtain ⟨q, hq, he⟩ := hasM_iff.1 h
        rcases List.mem_cons.1 hq with rfl | hq
        · exact absurd he e
        · exact hasM_iff.2 ⟨q, hq, he⟩
      have hlt : p.1 < no := by
        obtain ⟨q, hq, he⟩ := hasM_iff.1 hr
        have := h1 q hq
        omega
      have ih := put_keys_old z h2 hr
      unfold putM at ih ⊢
      rw [List.filter_cons_of_pos (by simp [e])]
      unfold insM
      rw [if_neg (by simp; omega)]
      show p.1 :: keysM (insM (no, z) _) = p.1 :: keysM r
      rw [ih]
theorem Ok.put {most : Nat} {M : Chg} {mem : Nat → Int} (h : Ok most M mem) (ht : Tidy M) (no : Int) (z : List Int) (hno : 0 ≤ no ∧ no < 12) (hh : (hasM no M || decide (M.length < most)) = true) : Ok most (putM no z M) mem := by
  refine ⟨h.idle, ?_, fun p hp => ?_⟩
  · rcases Bool.eq_false_or_eq_true (hasM no M) with e | e
    · rw [put_len_old ht e]; exact h.len
    · rw [put_len_new e]
      rw [e] at hh
      have : M.length < most := by simpa using hh
      omega
  · rcases mem_put.1 hp with rfl | ⟨hp, -⟩
    · exact hno
    · exact h.keys p hp
theorem nowM_put {mem : Nat → Int} {M : Chg} (ht : Tidy M) (no : Nat) (z : List Int) (hz : Row z) (j : Nat) : nowM mem (putM (no : Int) z M) j = if j = no then z else nowM mem M j := by
  unfold nowM
  by_cases e : j = no
  · subst e
    rw [if_pos rfl, getM_put_same ht hz]
  · rw [if_neg e, getM_put_other ht hz (by omega)]
/-- What is laid is a row. -/
theorem nowM_row {mem : Nat → Int} {M : Chg} (ht : Tidy M) (hr : ∀ i, 0 ≤ mem i ∧ mem i ≤ 255) (j : Nat) : Row (nowM mem M j) := by
  unfold nowM
  rcases Bool.eq_false_or_eq_true (hasM (j : Int) M) with e | e
  · exact ht.rows _ (getM_mem e)
  · rw [getM_none e]
    refine ⟨blockL_len mem j, fun z hz => ?_⟩
    obtain ⟨i, _, rfl⟩ := List.mem_map.1 hz
    exact hr _

theorem Tryz.infoInt : (Tryz.prog.info? 3).map (fun i => (i.zero, i.size, i.bytes)) = some (some (.int .i64 0), 1, 8) := by kernel_rfl
theorem Kept.mono {base base' : Nat} {w : World} {v : Value} {ks : List Int} (h : Kept base w v ks) (hb : base' ≤ base) : Kept base' w v ks := ⟨ownsRow_base_a h.row hb⟩
theorem kept_new {base : Nat} (w : World) (n : Nat) (hn : w.heap.size = n) (hb : base ≤ w.heap.size) : Kept base (w.alloc (.cells #[] 3)) (.slice (some ⟨n, 0, none⟩) 0 0) [] := by
  subst hn
  exact ⟨⟨by simp, Or.inr ⟨_, 0, #[], rfl, hb, heap_alloc_new _ _, Nat.le_refl _, by simp, by simp, by simp⟩⟩⟩
theorem one_cell (w : World) (x : Value) (n : Nat) (hn : w.heap.size = n) : (w.alloc (.cells #[x] 3)).cell? ⟨n, 0, none⟩ = some x := by subst hn; simp
theorem kept_append {base : Nat} {w : World} {v : Value} {ks : List Int} (h : Kept base w v ks) (a : Addr) (m c : Nat) (ys : List Int) (hm : ys.length = m) (hc : ∀ j, j < m → w.cell? (a.add j) = some (.int .i64 (ys.getD j 0))) (hn : ks.length + m ≤ 1000) (hbase : base ≤ w.heap.size) (ty : TypeId) :
    ∃ v' w', (Builtin.append_ #[30, 30] ty #[v, .slice (some a) m c]).run Tryz.prog w = .ok v' w' ∧ Kept base w' v' (ks ++ ys) ∧ Below base w w' ∧ ∀ b, b < w.heap.size → some b ≠ v.ownBlock → w'.heap[b]? = w.heap[b]? := by
  obtain ⟨i0, hi, hz0, hz1, hz2⟩ := info_parts3 Tryz.infoInt
  obtain ⟨v', w', hrun, hown, hgrow, -⟩ := run_append_own (P := Tryz.prog) w base 30 ty 3 i0 (.int .i64 0) 1 8 Tryz.underlying30 hi hz0 hz1 hz2 (by simp [Value.cells]) (by decide)
    v ks.length _ h.row a m c (ys.map encZ) (by simp [hm]) (fun j u hu => by
      have hj : j < m := by
        rcases Nat.lt_or_ge j m with h | h
        · exact h
        · rw [List.getElem?_eq_none (by simp [hm]; omega)] at hu; cases hu
      rw [hc j hj, ← hu]
      simp [List.getD, hm, hj, encZ]) (by intro u hu; obtain ⟨z, _, rfl⟩ := List.mem_map.1 hu; rfl) (by unfold maxLen; omega) (by omega) hbase
  refine ⟨v', w', hrun, ⟨?_⟩, (Below.refl base w).grown hgrow hbase (fun k hk => (h.row.lt k hk).1), hgrow.block⟩
  rw [List.length_append, List.map_append, hm]
  exact hown
theorem kept_append_none {base : Nat} {w : World} {v : Value} {ks : List Int} (h : Kept base w v ks) (ty : TypeId) : (Builtin.append_ #[30, 30] ty #[v, .slice none 0 0]).run Tryz.prog w = .ok v w := by
  obtain ⟨i0, hi, hz0, hz1, hz2⟩ := info_parts3 Tryz.infoInt
  exact run_append_owned_none (P := Tryz.prog) (w := w) base 30 ty 3 i0 1 Tryz.underlying30 hi v ks.length _ h.row
/-- An append inside a region that draws. -/
theorem any_append {P : Program} {ops : Array Oper} {o : Oper} {a : Act} {w : World} {K : Act → World → Prop} {Q : Exit → Act → World → Prop} {s x : Operand} {t : TypeId} (hg : Region.wanted o (yielded ops a.tmps) = true)
    (ho : o.op = .call { callee := .builtin .append, args := #[s, x], argTypes := #[t, t] }) (v xv v' : Value) (w' : World) (hs : a.eval s = v) (hx : a.eval x = xv)
    (hr : (Builtin.append_ #[t, t] o.type #[v, xv]).run P w = .ok v' w') (h : K (a.put o.dst v') w') : if Region.wanted o (yielded ops a.tmps) = true then Oper.wp P o a w K Q else K (a.put o.dst undef) w := by
  rw [if_pos hg]
  unfold Oper.wp execOp
  simp only [ho, resolve, invoke, builtin, Sem.run_bind, Sem.run_pure, Result.andThen_ok, List.map_toArray, List.map_cons, List.map_nil, hs, hx, hr]
  exact h
end Go.Proofs.YtkaippiblpedhaaGreatDoor
