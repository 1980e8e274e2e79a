/- A Disk's Copy (Cp's, beside the wider base). -/
import Derived.Test.YtjionogjeafffaaGreatDoorGW
import Derived.Test.YtjionogjeafffaaGreatDoorGJo
import Derived.Test.YtjionogjeafffaaGreatDoorGXe
namespace Go.Proofs.YtjionogjeafffaaGreatDoor
open Go.RowKit Go.Extern.Stop Go.Stop Go.Extern
set_option maxRecDepth 100000

theorem ownsRow_emptyW (w : World) (T : TypeId) (size : Nat) : (w.alloc (.cells #[] T)).ownsRow w.heap.size T size (.slice (some ⟨w.heap.size, 0, none⟩) 0 0) 0 [] :=
  ⟨by simp, Or.inr ⟨_, 0, #[], rfl, Nat.le_refl _, heap_alloc_new _ _, Nat.le_refl _, by simp, by simp, by simp⟩⟩
set_option maxHeartbeats 1000000 in
theorem cloneW_calls {d g n : Nat} {mem : Nat → Int} {writes left : Int} {w : World} (h : DiskAt d g n mem writes left w) (cap : Nat) :
    Calls Tryz.prog 28 #[.slice (some ⟨g, 0, none⟩) n cap] w fun e w' => ∃ g' cap', e = .returned (.slice (some ⟨g', 0, none⟩) n cap') ∧ w.heap.size ≤ g' ∧ (∀ k, k < n * 128 → w'.cell? ⟨g', k, none⟩ = some (.int .u8 (mem k))) ∧ (∀ k, k < n * 128 → w'.frozen? ⟨g', k, none⟩ = false) ∧ Below w.heap.size w w' := by
  have hq := fun (w : World) => Lib.run_eql_slice_nil (P := Tryz.prog) w 65 69 (some ⟨g, 0, none⟩) n cap 0 0 Tryz.underlying65
  obtain ⟨i0, hi, hz0, hz1, hz2⟩ := info_parts3 Tryz.infoBlock
  have hfew := h.few
  have hpos := h.some
  have hnl : ((List.range (n * 128)).map fun k => Value.int .u8 (mem k)).length = n * 128 := by simp
  have hlt := h.lt.2
  obtain ⟨v', w', hr, hown, hgrow, hnil⟩ := run_append_own (P := Tryz.prog) (w.alloc (.cells #[] 69)) w.heap.size 65 65 69 i0 (.agg (Array.replicate 128 (.int .u8 0))) 128 128 Tryz.underlying65 hi hz0 hz1 hz2 (by simp [Value.cells]) (by decide)
    (.slice (some ⟨w.heap.size, 0, none⟩) 0 0) 0 [] (ownsRow_emptyW w _ 128) ⟨g, 0, none⟩ n cap ((List.range (n * 128)).map fun k => Value.int .u8 (mem k)) hnl (fun j u hu => by
      have hj : j < n * 128 := by
        rcases Nat.lt_or_ge j (n * 128) with h | h
        · exact h
        · rw [List.getElem?_eq_none (by simpa using h)] at hu; cases hu
      rw [Go.WideShapes.add_plain, Nat.zero_add, World.cell?_alloc_lt _ _ ⟨g, j, none⟩ hlt, h.bytes j hj]
      simpa [hj] using hu) (by intro u hu; obtain ⟨z, _, rfl⟩ := List.mem_map.1 hu; rfl) (by unfold maxLen; omega) (by omega) (by simp)
  have hE : ∃ g' cap', v' = .slice (some ⟨g', 0, none⟩) n cap' ∧ w.heap.size ≤ g' ∧ (∀ k, k < n * 128 → w'.cell? ⟨g', k, none⟩ = some (.int .u8 (mem k))) ∧ (∀ k, k < n * 128 → w'.frozen? ⟨g', k, none⟩ = false) ∧ Below w.heap.size w w' := by
    have hB : Below w.heap.size w w' := ((Below.refl _ _).alloc (Nat.le_refl _) _).grown hgrow (by simp) (by intro k hk; simp [Value.ownBlock] at hk; omega)
    rw [Nat.zero_add, List.nil_append] at hown
    obtain ⟨h1, ⟨_, h2⟩ | ⟨g', cap', cur, rfl, hg, hh, hl, hm, hsz, htk⟩⟩ := hown
    · omega
    · refine ⟨g', cap', rfl, hg, fun k hk => ?_, fun k _ => frozen_of_row _ _ _ _ _ hh, hB⟩
      rw [cell_of_row _ _ _ _ _ _ hh]
      have h3 : (cur.toList.take (n * 128))[k]? = some (.int .u8 (mem k)) := by rw [htk]; simp [hk]
      rw [List.getElem?_take, if_pos hk] at h3
      simpa using h3
  replace hr := hidden hr
  replace hE := hidden hE
  clear hown hgrow hnil hnl hi hz0 hz1 hz2 h
  go_enter Tryz.func28, Tryz.ntmps28
  go_wp2_with (at_builtin; refine wpList_append_eq _ _ 65 rfl _ _ v' w' rfl rfl hr.out rfl ?_)
  go_ret
  obtain ⟨g', cap', hv, hrest⟩ := hE.out
  exact ⟨g', cap', congrArg Ending.returned hv, hrest⟩
set_option maxHeartbeats 1000000 in
theorem copyW_calls {d g n : Nat} {mem : Nat → Int} {writes left : Int} {w : World} (h : DiskAt d g n mem writes left w) :
    Calls Tryz.prog 7 #[ptr d] w fun e w' => ∃ d' g', e = .returned (ptr d') ∧ DiskAt d' g' n mem writes left w' ∧ w.heap.size ≤ d' ∧ w.heap.size ≤ g' ∧ Below w.heap.size w w' := by
  obtain ⟨cap, h0⟩ := h.blocks
  have h1 := h.writes
  have h2 := h.left
  have hlt := h.lt.1
  have hH := hidden h
  clear h
  go_enter Tryz.func7, Tryz.ntmps7
  go_wp2_with fail
  have hB0 : Below w.heap.size w (w.alloc (.cells #[.slice (some ⟨g, 0, none⟩) n cap, .int .i64 writes, .int .i64 left] 67)) := (Below.refl _ _).alloc (Nat.le_refl _) _
  refine (cloneW_calls (hH.out.below hB0) cap).mono ?_
  rintro ev w2 ⟨g', cap', rfl, hg', hc', hf', hB2⟩
  have hsz : (w.alloc (.cells #[.slice (some ⟨g, 0, none⟩) n cap, .int .i64 writes, .int .i64 left] 67)).heap.size = w.heap.size + 1 := by simp
  rw [hsz] at hg' hB2
  have q0 : w2.cell? ⟨w.heap.size, 0, none⟩ = some (.slice (some ⟨g, 0, none⟩) n cap) := (hB2.cell (p := ⟨w.heap.size, 0, none⟩) (by show w.heap.size < _; omega)).trans (by simp)
  have q1 : w2.cell? ⟨w.heap.size, 1, none⟩ = some (.int .i64 writes) := (hB2.cell (p := ⟨w.heap.size, 1, none⟩) (by show w.heap.size < _; omega)).trans (by simp)
  have q2 : w2.cell? ⟨w.heap.size, 2, none⟩ = some (.int .i64 left) := (hB2.cell (p := ⟨w.heap.size, 2, none⟩) (by show w.heap.size < _; omega)).trans (by simp)
  have f0 : w2.frozen? ⟨w.heap.size, 0, none⟩ = false := (hB2.frozen (p := ⟨w.heap.size, 0, none⟩) (by show w.heap.size < _; omega)).trans (by simp)
  have f1 : w2.frozen? ⟨w.heap.size, 1, none⟩ = false := (hB2.frozen (p := ⟨w.heap.size, 1, none⟩) (by show w.heap.size < _; omega)).trans (by simp)
  have f2 : w2.frozen? ⟨w.heap.size, 2, none⟩ = false := (hB2.frozen (p := ⟨w.heap.size, 2, none⟩) (by show w.heap.size < _; omega)).trans (by simp)
  have hne : w.heap.size ≠ g' := by omega
  have hD : DiskAt w.heap.size g' n mem writes left (w2.setCell ⟨w.heap.size, 0, none⟩ (.slice (some ⟨g', 0, none⟩) n cap')) :=
    ⟨⟨cap', World.cell?_setCell_same' _ _ _ (by rw [q0]; rfl)⟩, (World.cell?_setCell_other _ _ _ _ (by intro e; simp at e)).trans q1, (World.cell?_setCell_other _ _ _ _ (by intro e; simp at e)).trans q2, by simp [f0], by simp [f1], by simp [f2],
      fun k hk => (World.cell?_setCell_other _ _ _ _ (by intro e; exact hne (congrArg Addr.block e))).trans (hc' k hk), fun k hk => by simp [hf' k hk], hH.out.range, hne, hH.out.some, hH.out.few⟩
  have hE := hidden (And.intro hD (And.intro (Nat.le_refl w.heap.size) (And.intro (show w.heap.size ≤ g' by omega) ((hB0.trans (hB2.mono (by omega))).setCell (p := ⟨w.heap.size, 0, none⟩) (Nat.le_refl _) (.slice (some ⟨g', 0, none⟩) n cap')))))
  clear hD q1 q2 f1 f2 hc' hf' hB2 hB0
  go_wp2
  go_ret
  exact ⟨_, g', rfl, hE.out⟩
theorem sysw_copy {w0 : World} {d g n : Nat} {mem : Nat → Int} {writes left : Int} {w : World} (h : Sys w0 d g n mem writes left w) :
    Calls Tryz.prog 7 #[ptr d] w fun e w' => ∃ d' g', e = .returned (ptr d') ∧ Sys w d' g' n mem writes left w' ∧ Sys w0 d g n mem writes left w' ∧ Below w.heap.size w w' :=
  (copyW_calls h.disk).mono fun _ _ ⟨d', g', h1, h2, h3, h4, h5⟩ => ⟨d', g', h1, ⟨h.ground, h2, h5, h3, h4⟩, h.more h5, h5⟩
end Go.Proofs.YtjionogjeafffaaGreatDoor
/- Format refused; the document's, too. -/
namespace Go.Proofs.YtjionogjeafffaaGreatDoor
open Go.RowKit Go.Extern.Stop Go.Stop Go.Extern Go.Maps Go.Sort Go.Shelf
set_option maxRecDepth 100000

theorem fmt_of {n : Nat} {i r : Int} (h : fmtOk (n : Int) i r) : ∃ i' r' dd : Nat, i = (i' : Int) ∧ r = (r' : Int) ∧ FmtN n i' r' dd := by
  obtain ⟨⟨h1, h2, h3, h4, h5⟩, h6, h7, h8⟩ := h
  unfold datB at h5 h8
  exact ⟨i.toNat, r.toNat, ((n : Int) - 96 - i - ((n : Int) + 1023) / 1024).toNat, by omega, by omega, ⟨by omega, by omega, by omega, by omega, by omega, by omega, by omega, by omega⟩⟩
theorem dat_le (b i : Int) (h : layOk b i) : 8 ≤ datB b i ∧ datB b i ≤ 2048 := by
  obtain ⟨-, a, b, -, c⟩ := h
  refine ⟨c, ?_⟩
  unfold datB at *
  omega
section
variable {w0 : World} {d g n : Nat} {mem : Nat → Int} {writes left : Int} {w : World}
set_option maxHeartbeats 1000000 in
theorem laid_bad (h : Sys w0 d g n mem writes left w) (i r : Int) (hl : ¬ fmtOk n i r) :
    Calls Tryz.prog 45 #[ptr d, .int .i64 i, .int .i64 r] w fun e w' => e = .returned (.tuple #[.int .i64 0, .bool false]) ∧ w' = w := by
  have kB := hidden (sys_blocks h)
  by_cases hk : layOk n i
  · have kL := hidden (layout_ok (n : Int) i hk w)
    have hd := dat_le _ _ hk
    have hr : r < 0 ∨ 64 < r ∨ datB n i - 8 < r := by
      unfold fmtOk at hl
      rcases Classical.em (r < 0) with a | a
      · exact Or.inl a
      · rcases Classical.em (64 < r) with b | b
        · exact Or.inr (Or.inl b)
        · refine Or.inr (Or.inr ?_)
          rcases Classical.em (datB n i - 8 < r) with c | c
          · exact c
          · exact absurd ⟨hk, by omega, by omega, by omega⟩ hl
    clear h hl hk
    generalize datB n i = DD at *
    by_cases g0 : r < 0
    · clear hr
      go_enter Tryz.func45, Tryz.ntmps45
      go_wp2_with fail
      refine (kB.out).mono ?_
      rintro ev w1 ⟨rfl, hw1⟩
      subst w1
      go_wp2_with fail
      refine (kL.out).mono ?_
      rintro ev w2 ⟨rfl, hw2⟩
      subst w2
      go_wp2
      go_ret2
      exact ⟨rfl, rfl⟩
    · obtain ⟨MM, hMM⟩ : ∃ MM : Int, min 64 (DD - 8) = MM := ⟨_, rfl⟩
      have g1 : r > MM := by omega
      clear hr
      go_enter Tryz.func45, Tryz.ntmps45
      go_wp2_with fail
      refine (kB.out).mono ?_
      rintro ev w1 ⟨rfl, hw1⟩
      subst w1
      go_wp2_with fail
      refine (kL.out).mono ?_
      rintro ev w2 ⟨rfl, hw2⟩
      subst w2
      go_wp2
      go_ret2
      exact ⟨rfl, rfl⟩
  · have kL := hidden (layout_no (n : Int) i hk w)
    clear h hl hk
    go_enter Tryz.func45, Tryz.ntmps45
    go_wp2_with fail
    refine (kB.out).mono ?_
    rintro ev w1 ⟨rfl, hw1⟩
    subst w1
    go_wp2_with fail
    refine (kL.out).mono ?_
    rintro ev w2 ⟨rfl, hw2⟩
    subst w2
    go_wp2
    go_ret2
    exact ⟨rfl, rfl⟩
theorem format_bad (h : Sys w0 d g n mem writes left w) (i r : Int) (hl : ¬ fmtOk n i r) :
    Calls Tryz.prog 29 #[ptr d, .int .i64 i, .int .i64 r] w fun e w' => e = .returned (.tuple #[.pointer none, num 1]) ∧ w' = w := by
  have kL := hidden (laid_bad h i r hl)
  clear h hl
  go_enter Tryz.func29, Tryz.ntmps29
  go_wp2_with fail
  refine (kL.out).mono ?_
  rintro ev w1 ⟨rfl, hw1⟩
  subst w1
  go_wp2
  go_ret2
  exact ⟨rfl, rfl⟩
end
theorem format_nil (i r : Int) (w : World) :
    Calls Tryz.prog 29 #[.pointer none, .int .i64 i, .int .i64 r] w fun e w' => e = .returned (.tuple #[.pointer none, num 1]) ∧ w' = w := by
  go_enter Tryz.func29, Tryz.ntmps29
  go_wp2
  go_ret2
  exact ⟨rfl, rfl⟩
/-- Format refused. -/
def FmtBad (w : World) (e : Ending) (w' : World) : Prop := ∃ b, e = .returned (.tuple #[.pointer none, flt b]) ∧ Chain w' [(sFormat, ⟨#[]⟩)] (num 1) (flt b) ∧ Below w.heap.size w w'
theorem fFormat_of {v : Value} {i r : Int} {w : World} (k : Calls Tryz.prog 29 #[v, .int .i64 i, .int .i64 r] w fun e w' => e = .returned (.tuple #[.pointer none, num 1]) ∧ w' = w) :
    Calls Tryz.prog 9 #[v, .int .i64 i, .int .i64 r] w fun e w' => FmtBad w e w' := by
  replace k := hidden k
  have kW := hidden (fun (u : TypeId) (q : Value) (wx : World) => wrap_some sFormat ⟨#[]⟩ u q wx)
  have hc := hidden (Chain.alloc (w := w) (l := []) (bot := num 1) (e := num 1) sFormat ⟨#[]⟩ rfl)
  have hB := hidden ((Below.refl w.heap.size w).alloc (Nat.le_refl _) (fcells sFormat ⟨#[]⟩ (num 1)))
  unfold sFormat at kW
  go_enter Tryz.func9, Tryz.ntmps9
  go_wp2_with fail
  refine (k.out).mono ?_
  rintro ev w1 ⟨rfl, hw1⟩
  subst w1
  go_wp2_with fail
  refine (kW.out _ _ _).mono ?_
  rintro ev w2 ⟨rfl, hw2⟩
  subst w2
  go_wp2
  go_ret2
  exact ⟨_, rfl, hc.out, hB.out⟩
set_option maxHeartbeats 1000000 in
theorem refFormat_bad (n i r : Int) (hl : ¬ fmtOk n i r) (w : World) :
    Calls Tryz.prog 10 #[.int .i64 n, .int .i64 i, .int .i64 r] w fun e w' => e = .returned (.pointer none) ∧ w' = w := by
  by_cases hk : layOk n i
  · have kL := hidden (reflayout_ok n i hk w)
    have hd := dat_le _ _ hk
    have hr : r < 0 ∨ 64 < r ∨ datB n i - 8 < r := by
      unfold fmtOk at hl
      rcases Classical.em (r < 0) with a | a
      · exact Or.inl a
      · rcases Classical.em (64 < r) with b | b
        · exact Or.inr (Or.inl b)
        · refine Or.inr (Or.inr ?_)
          rcases Classical.em (datB n i - 8 < r) with c | c
          · exact c
          · exact absurd ⟨hk, by omega, by omega, by omega⟩ hl
    clear hl hk
    generalize datB n i = DD at *
    rcases Classical.em (r < 0) with g0 | g0
    · clear hr
      go_enter Tryz.func10, Tryz.ntmps10
      go_wp2_with fail
      refine (kL.out).mono ?_
      rintro ev w2 ⟨rfl, hw2⟩
      subst w2
      go_wp2
      go_ret
      exact ⟨rfl, rfl⟩
    · rcases Classical.em (64 < r) with g1 | g1
      · clear hr
        go_enter Tryz.func10, Tryz.ntmps10
        go_wp2_with fail
        refine (kL.out).mono ?_
        rintro ev w2 ⟨rfl, hw2⟩
        subst w2
        go_wp2
        go_ret
        exact ⟨rfl, rfl⟩
      · have g2 : DD - 8 < r := by omega
        clear hr
        go_enter Tryz.func10, Tryz.ntmps10
        go_wp2_with fail
        refine (kL.out).mono ?_
        rintro ev w2 ⟨rfl, hw2⟩
        subst w2
        go_wp2
        go_ret
        exact ⟨rfl, rfl⟩
  · have kL := hidden (reflayout_no n i hk w)
    clear hl hk
    go_enter Tryz.func10, Tryz.ntmps10
    go_wp2_with fail
    refine (kL.out).mono ?_
    rintro ev w2 ⟨rfl, hw2⟩
    subst w2
    go_wp2
    go_ret
    exact ⟨rfl, rfl⟩
/-- New of a disk that may not be a tree. -/
theorem New11_bad (N : Nat) (h16 : 16 ≤ N) (hN : N ≤ 4000) (i r : Int) (hl : ¬ fmtOk N i r) (w : World) (hG : Ground w) :
    Calls Tryz.prog 6 #[.int .i64 N, .int .i64 i, .int .i64 r] w fun e w' => e = .returned (.pointer none) ∧ Below w.heap.size w w' := by
  by_cases h2 : N ≤ 2048
  · have kN := hidden (sys_new N h16 h2 w hG)
    have kR := hidden (fun (wx : World) => refFormat_bad N i r hl wx)
    have hlh := hidden hl
    clear hl hG
    go_enter Tryz.func6, Tryz.ntmps6
    go_wp2_with fail
    refine (kN.out).mono ?_
    rintro ev w1 ⟨rfl, hS⟩
    have kF := hidden (fFormat_of (format_bad hS i r hlh.out))
    have hB1 := hidden hS.below
    clear hS kN
    go_wp2_with fail
    refine (kF.out).mono ?_
    rintro ev w2 ⟨b, rfl, -, hB2⟩
    have hB := hidden (hB1.out.trans (hB2.mono hB1.out.size))
    clear hB2 kF
    go_wp2_with fail
    refine (kR.out _).mono ?_
    rintro ev w3 ⟨rfl, hw3⟩
    subst w3
    go_wp2
    go_ret
    exact ⟨rfl, hB.out⟩
  · have kN := hidden (new_bad (N : Int) ⟨by omega, by omega⟩ (Or.inr (by omega)) w hG)
    clear hl hG
    go_enter Tryz.func6, Tryz.ntmps6
    go_wp2_with fail
    refine (kN.out).mono ?_
    rintro ev w1 ⟨b, rfl, -, -, hB1⟩
    replace hB1 := hidden hB1
    go_wp2
    go_ret
    exact ⟨rfl, hB1.out⟩
end Go.Proofs.YtjionogjeafffaaGreatDoor
