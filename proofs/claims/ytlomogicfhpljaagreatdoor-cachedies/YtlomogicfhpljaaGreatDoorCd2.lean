/- For CacheDies: a Flush under a Fuse, and the Open behind it. -/
import Derived.Test.YtlomogicfhpljaaGreatDoorCd1
import Derived.Test.YtlomogicfhpljaaGreatDoorJq4
namespace Go.Proofs.YtlomogicfhpljaaGreatDoor
open Go.RowKit Go.Extern.Stop Go.Stop Go.Extern Go.Maps
set_option maxRecDepth 100000

theorem allWs_len (at_ : Nat) (l : Grp) (h : l.length ≤ 200) : (allWs at_ l).length ≤ 700 := by
  have e : (allWs at_ l).length = (size l + 1) + (l.length + 1) := by rw [allWs, List.length_append, note_len, settleWs, List.length_append]; rfl
  have e2 : size l = rowsN l.length + l.length := rfl
  have e3 := rowsN_le l.length
  omega
theorem room8 {l : Grp} (h : l.length ≤ 8) : 1 + size l ≤ needN 8 := by
  have e : size l = rowsN l.length + l.length := rfl
  have e2 := rowsN_mono h
  unfold needN
  omega
theorem need8' : needN 8 = 11 := rfl
theorem allM_tidy {R : List Int} (hR : Row R) (bl : Int) : ∀ k, Tidy (allM R (sel bl k))
  | 0 => Tidy.nil
  | k + 1 => by
    unfold sel
    split
    · rw [← allM_put R _ k (sel_lt bl k)]; exact (allM_tidy hR bl k).put _ _ hR
    · exact allM_tidy hR bl k
theorem allM_good {R : List Int} (hR : Row R) (bl : Int) (k : Nat) (hk : k ≤ 12) : Good 60 20 (needN 8) (grpM (allM R (sel bl k))) :=
  grpM_good (allM_tidy hR bl k) (by rw [allM_len]; have := sel_few bl k; omega) (fun p hp => by
    obtain ⟨j, hj, rfl⟩ := allM_mem.1 hp
    have := sel_lt bl k j hj
    exact ⟨by show (0 : Int) ≤ (j : Int); omega, by show (j : Int) < _; omega, Or.inl (by show (j : Int) < _; omega)⟩)
theorem allM_grp {R : List Int} {s : List Nat} {p : Nat × List Int} : p ∈ grpM (allM R s) ↔ p.1 ∈ s ∧ p.2 = R := by
  simp only [grpM, List.mem_map]
  constructor
  · rintro ⟨q, hq, rfl⟩
    obtain ⟨j, hj, rfl⟩ := allM_mem.1 hq
    exact ⟨by simpa using hj, rfl⟩
  · rintro ⟨h1, h2⟩
    exact ⟨((p.1 : Int), R), allM_mem.2 ⟨p.1, h1, rfl⟩, by rw [← h2]; simp⟩
theorem sel_mono (bl : Int) (k : Nat) : ∀ m j, j ∈ sel bl k → j ∈ sel bl (k + m)
  | 0, j, h => h
  | m + 1, j, h => by
    have := sel_mono bl k m j h
    rw [← Nat.add_assoc]
    show j ∈ sel bl (k + m + 1)
    unfold sel
    split
    · exact List.mem_append_left _ this
    · exact this
theorem sel_in {bl : Int} {k : Nat} (hk : k < 12) (hb : bitOf bl k) (h8 : (sel bl k).length < 8) : k ∈ sel bl 12 := by
  have h : k ∈ sel bl (k + 1) := by rw [sel_yes hb h8]; simp
  have := sel_mono bl (k + 1) (12 - (k + 1)) k h
  rw [show k + 1 + (12 - (k + 1)) = 12 by omega] at this
  exact this
/-- Fill(7), as the statement uses it. -/
theorem fill7_op : ∃ (Zc : Array Value) (S3 : ByteArray) (f3 f4 : Int), S3 = ofBytes (fill7.take 3) ∧ f3 = fill7.getD 3 0 ∧ f4 = fill7.getD 4 0 ∧
    (∀ w : World, Calls Tryz.prog 14 #[.int .i64 7] w fun e w' => e = .returned (.slice (some ⟨w.heap.size, 0, none⟩) 128 128) ∧ w' = w.alloc (.cells Zc 5)) ∧
    (∀ w w' : World, Below (w.heap.size + 1) (w.alloc (.cells Zc 5)) w' → (convert 26 9 (.slice (some ⟨w.heap.size, 0, none⟩) 3 128)).run Tryz.prog w' = .ok (.string S3) w' ∧ w'.cell? ⟨w.heap.size, 3, none⟩ = some (.int .u8 f3) ∧ w'.cell? ⟨w.heap.size, 4, none⟩ = some (.int .u8 f4)) := by
  refine ⟨fillA 7 128, _, _, _, rfl, rfl, rfl, fun w => fill_calls 7 w, fun w w' hb => ?_⟩
  have hb' : Below (w.alloc (.cells (fillA 7 128) 5)).heap.size (w.alloc (.cells (fillA 7 128) 5)) w' := by rw [World.size_alloc]; exact hb
  have hbt := (fillA_bytes 7 w).below hb'
  refine ⟨conv_bytes w' _ _ (bytes_take (fillL_len 7) hbt (by omega) (by omega)), ?_, ?_⟩
  · rw [hb.cell (p := ⟨w.heap.size, 3, none⟩) (by show w.heap.size < _; omega), cells_new, fillA_all, List.getElem?_toArray, getD_map (by rw [fillL_len]; omega)]
  · rw [hb.cell (p := ⟨w.heap.size, 4, none⟩) (by show w.heap.size < _; omega), cells_new, fillA_all, List.getElem?_toArray, getD_map (by rw [fillL_len]; omega)]
section
variable {w0 : World} {d g jb cb mb : Nat} {w : World}
/-- A Write of one of the blocks. -/
theorem dies_write {mem : Nat → Int} {wr : Int} {R0 R : List Int} {bl : Int} {k : Nat} (h : CSt w0 d g 60 jb cb mb 20 8 12 mem wr (-1) (allM R (sel bl k)) w) (hk : k < 12) (hb : bitOf bl k) (h8 : (sel bl k).length < 8) (hm : blockL mem k = R0) (at1 : Nat) (v : Value) (zs : List Int) (hv : BytesAt w v zs) (hat : at1 + zs.length ≤ 128) (hR : layL R0 at1 zs = R) :
    Calls Tryz.prog 9 #[ptr cb, .int .i64 k, .int .i64 at1, v] w fun e w' => e = .returned .nilIface ∧ CSt w0 d g 60 jb cb mb 20 8 12 mem wr (-1) (allM R (sel bl (k + 1))) w' ∧ Apart [mb] w w' := by
  have hno := allM_none R (sel bl k) k (sel_lt bl k)
  refine (cwrite_calls h (by decide) k at1 (by omega) (by omega) v zs hv hat (by rw [hno, allM_len]; simpa using h8) (by rw [allM_len]; omega)).mono ?_
  rintro e w' ⟨rfl, hC, hA⟩
  have e1 : nowM mem (allM R (sel bl k)) k = R0 := by unfold nowM; rw [getM_none hno, hm]
  rw [e1, hR, allM_put R _ k (sel_lt bl k), ← sel_yes hb h8] at hC
  exact ⟨rfl, hC, hA⟩
/-- One that is too much. -/
theorem dies_big {mem : Nat → Int} {wr : Int} {R : List Int} {bl : Int} {k : Nat} (h : CSt w0 d g 60 jb cb mb 20 8 12 mem wr (-1) (allM R (sel bl k)) w) (hk : k < 12) (h8 : ¬ (sel bl k).length < 8) (v : Value) (zs : List Int) (hv : BytesAt w v zs) (hat : zs.length ≤ 128) :
    Calls Tryz.prog 9 #[ptr cb, .int .i64 k, .int .i64 0, v] w fun e w' => ∃ b, e = .returned (flt b) ∧ CSt w0 d g 60 jb cb mb 20 8 12 mem wr (-1) (allM R (sel bl (k + 1))) w' := by
  have hno := allM_none R (sel bl k) k (sel_lt bl k)
  refine (cwrite_big h k 0 ⟨by omega, by omega⟩ v zs hv ⟨by omega, by omega⟩ (by omega) hno (by rw [allM_len]; omega)).mono ?_
  rintro e w' ⟨b, rfl, -, -, hB⟩
  rw [sel_full h8]
  exact ⟨b, rfl, h.more hB⟩
theorem dies_told {mem : Nat → Int} {wr : Int} {R : List Int} {bl : Int} {k : Nat} (h : CSt w0 d g 60 jb cb mb 20 8 12 mem wr (-1) (allM R (sel bl k)) w) :
    Calls Tryz.prog 10 #[ptr cb] w fun e w' => ∃ a cap, e = .returned (.slice a (sel bl k).length cap) ∧ CSt w0 d g 60 jb cb mb 20 8 12 mem wr (-1) (allM R (sel bl k)) w' := by
  have := sel_few bl k
  refine (changed_calls h.cat h.map (by rw [allM_len]; omega)).mono ?_
  rintro e w' ⟨v, rfl, hT, hB⟩
  obtain ⟨a, cap, rfl⟩ := told_len hT
  rw [allM_len]
  exact ⟨a, cap, rfl, h.more hB⟩
/-- The first Flush. -/
theorem dies_flush1 {bl : Int} (h : CSt w0 d g 60 jb cb mb 20 8 12 (fun _ => 0) 0 (-1) (allM rowA (sel bl 12)) w) :
    Calls Tryz.prog 11 #[ptr cb] w fun e w' => ∃ mem wr, e = .returned .nilIface ∧ CSt w0 d g 60 jb cb mb 20 8 12 mem wr (-1) [] w' ∧ 0 ≤ wr ∧ wr ≤ 1000 ∧ Idle 20 mem ∧ ∀ j ∈ sel bl 12, blockL mem j = rowA := by
  have hf := sel_few bl 12
  by_cases h0 : sel bl 12 = []
  · rw [h0] at h ⊢
    refine (flush_none h ⟨by omega, by omega⟩ (need8 8 (by omega))).mono ?_
    rintro e w' ⟨rfl, hC, -⟩
    exact ⟨_, _, rfl, hC, by omega, by omega, idle_zero 20, fun j hj => by cases hj⟩
  · have hpos : 0 < (sel bl 12).length := List.length_pos_iff.2 h0
    have hg := allM_good rowA_row bl 12 (by omega)
    have hgl : (grpM (allM rowA (sel bl 12))).length ≤ 8 := by rw [grpM_len, allM_len]; exact hf
    refine (flush_calls h (by decide) (by decide) ⟨by omega, by omega⟩ (need8 8 (by omega)) (idle_zero 20) (by rw [allM_len]; exact hpos) (by rw [allM_len]; omega) (fun p hp => by
      obtain ⟨j, hj, rfl⟩ := allM_mem.1 hp
      have := sel_lt bl 12 j hj
      exact ⟨by show (0 : Int) ≤ (j : Int); omega, by show (j : Int) < _; omega, Or.inl (by show (j : Int) < _; omega)⟩)).mono ?_
    rintro e w' (⟨rfl, -, left', hC, -, hl⟩ | ⟨_, _, _, _, _, _, _, _, hne⟩)
    · rw [hl rfl] at hC
      have ha := all_all (mem := fun _ => 0) hg (room8 hgl)
      have hwl := allWs_len 20 (grpM (allM rowA (sel bl 12))) (by omega)
      exact ⟨_, _, rfl, hC, by omega, by omega, ha.1, fun j hj => ha.2.2 (j, rowA) (allM_grp.2 ⟨hj, rfl⟩)⟩
    · exact absurd rfl hne
/-- The second one, under a Fuse. -/
theorem dies_flush2 {bl : Int} {mem : Nat → Int} {wr left : Int} {R : List Int} (hR : Row R) (h : CSt w0 d g 60 jb cb mb 20 8 12 mem wr left (allM R (sel bl 12)) w) (hl : LeftOk left) (hw : 0 ≤ wr ∧ wr ≤ 1000) (hi : Idle 20 mem) (hne : 0 < (sel bl 12).length) :
    Calls Tryz.prog 11 #[ptr cb] w fun e w' => ∃ E mem' wr' left', e = .returned E ∧ Sys w0 d g 60 mem' wr' left' w' ∧ 0 ≤ wr' ∧ wr' ≤ 2000 ∧
      ((E = .nilIface ∧ Idle 20 mem' ∧ ∀ j ∈ sel bl 12, blockL mem' j = R) ∨
       (∃ b i, E = flt b ∧ Chain w' [(sCache, sNone), (sJournal, sNone), (sDisk, itoaB i)] (num 50) (flt b) ∧ Stands 20 (needN 8) (grpM (allM R (sel bl 12))) (blockL mem) mem')) := by
  have hf := sel_few bl 12
  have hg := allM_good hR bl 12 (by omega)
  have hgl : (grpM (allM R (sel bl 12))).length ≤ 8 := by rw [grpM_len, allM_len]; exact hf
  have hwl := allWs_len 20 (grpM (allM R (sel bl 12))) (by omega)
  refine (flush_calls h hl ⟨hw.1, by omega⟩ ⟨by omega, by omega⟩ (need8 8 (by omega)) hi (by rw [allM_len]; exact hne) (by rw [allM_len]; omega) (fun p hp => by
    obtain ⟨j, hj, rfl⟩ := allM_mem.1 hp
    have := sel_lt bl 12 j hj
    exact ⟨by show (0 : Int) ≤ (j : Int); omega, by show (j : Int) < _; omega, Or.inl (by show (j : Int) < _; omega)⟩)).mono ?_
  rintro e w' (⟨rfl, -, left', hC, -, -⟩ | ⟨k, b, i, hk, rfl, hc, -, hC, -⟩)
  · have ha := all_all (mem := mem) hg (room8 hgl)
    exact ⟨_, _, _, _, rfl, hC.sys, by omega, by omega, Or.inl ⟨rfl, ha.1, fun j hj => ha.2.2 (j, R) (allM_grp.2 ⟨hj, rfl⟩)⟩⟩
  · refine ⟨_, _, _, _, rfl, hC.sys, by omega, by omega, Or.inr ⟨b, i, rfl, hc, ?_⟩⟩
    rcases all_some hg (room8 hgl) hi k hk with ⟨a, c⟩ | ⟨a, c⟩
    · exact .before a c
    · exact .under a c
/-- The Open behind it. -/
theorem dies_open {bl : Int} {mem mem' : Nat → Int} {wr : Int} {R : List Int} (hR : Row R) (h : Sys w0 d g 60 mem' wr (-1) w) (hw : 0 ≤ wr ∧ wr ≤ 2000) (hne : 0 < (sel bl 12).length) (bad : Prop) (hA : ∀ j ∈ sel bl 12, blockL mem j = rowA)
    (hs : (Idle 20 mem' ∧ ∀ j ∈ sel bl 12, blockL mem' j = R) ∨ (bad ∧ Stands 20 (needN 8) (grpM (allM R (sel bl 12))) (blockL mem) mem')) :
    Calls Tryz.prog 23 #[ptr d, .int .i64 20, .int .i64 8] w fun e w' => ∃ jb2 mem3 wr3, e = .returned (.tuple #[ptr jb2, .nilIface]) ∧ Sys w0 d g 60 mem3 wr3 (-1) w' ∧ JAt jb2 d 20 8 w' ∧ ((∀ j ∈ sel bl 12, blockL mem3 j = R) ∨ (bad ∧ ∀ j ∈ sel bl 12, blockL mem3 j = rowA)) := by
  have hf := sel_few bl 12
  have hg := allM_good hR bl 12 (by omega)
  have hgl : (grpM (allM R (sel bl 12))).length ≤ 8 := by rw [grpM_len, allM_len]; exact hf
  have hg1 : 1 ≤ (grpM (allM R (sel bl 12))).length := by rw [grpM_len, allM_len]; exact hne
  have hout : ∀ j ∈ sel bl 12, j < 20 ∨ 20 + needN 8 ≤ j := fun j hj => Or.inl (by have := sel_lt bl 12 j hj; omega)
  rcases hs with ⟨hi, hb⟩ | ⟨hbad, hst⟩
  · refine (open_stands h (by decide) ⟨hw.1, by omega⟩ 20 8 ⟨by omega, by omega⟩ (need8 8 (by omega)) _ hg1 hgl hg (blockL mem') (.before hi (fun _ _ => rfl))).mono ?_
    rintro e w' ⟨-, mem3, wr3, left3, hS, -, -, -, ⟨jb2, rfl, hJ, -, hRs, hl⟩ | ⟨_, _, _, hne, _⟩⟩
    · rw [hl rfl] at hS
      refine ⟨jb2, mem3, wr3, rfl, hS, hJ, Or.inl fun j hj => ?_⟩
      rcases hRs with ⟨a, c⟩ | ⟨a, c, e⟩
      · rw [c j (hout j hj)]; exact hb j hj
      · exact e (j, R) (allM_grp.2 ⟨hj, rfl⟩)
    · exact absurd rfl hne
  · refine (open_stands h (by decide) ⟨hw.1, by omega⟩ 20 8 ⟨by omega, by omega⟩ (need8 8 (by omega)) _ hg1 hgl hg (blockL mem) hst).mono ?_
    rintro e w' ⟨-, mem3, wr3, left3, hS, -, -, -, ⟨jb2, rfl, hJ, -, hRs, hl⟩ | ⟨_, _, _, hne, _⟩⟩
    · rw [hl rfl] at hS
      refine ⟨jb2, mem3, wr3, rfl, hS, hJ, ?_⟩
      rcases hRs with ⟨a, c⟩ | ⟨a, c, e⟩
      · exact Or.inr ⟨hbad, fun j hj => by rw [c j (hout j hj)]; exact hA j hj⟩
      · exact Or.inl fun j hj => e (j, R) (allM_grp.2 ⟨hj, rfl⟩)
    · exact absurd rfl hne
end
end Go.Proofs.YtlomogicfhpljaaGreatDoor
