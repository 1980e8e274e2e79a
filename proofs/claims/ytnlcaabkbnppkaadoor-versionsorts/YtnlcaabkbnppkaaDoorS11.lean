/- slices.SortStableFunc at texts; version.Sort. -/
import Derived.Test.YtnlcaabkbnppkaaDoorS10
import Derived.Test.YtnlcaabkbnppkaaDoorV9
namespace Go.Proofs.YtnlcaabkbnppkaaDoor
open Go Go.RowKit
set_option maxRecDepth 100000

theorem Tryd.infoText : (Tryd.prog.info? 9).map (fun i => (i.zero, i.size, i.bytes)) = some (some (.string ⟨#[]⟩), 1, 16) := by kernel_rfl
theorem made_texts (N : Nat) : madeCells (Value.string ⟨#[]⟩).cells (N * 1) = ((List.replicate N ([] : List UInt8)).map encT).toArray := by
  apply Array.ext
  · simp [size_madeCells]
  · intro i h1 h2
    simp [madeCells, Value.cells, Nat.mod_one, encT, mkB]
theorem row_new (w : World) (o : Obj) : (w.alloc o).heap[w.heap.size]? = some o := by
  show (w.heap.push _)[w.heap.size]? = _
  rw [Array.getElem?_push, if_pos rfl]
theorem make_row (N : Nat) (hN : N ≤ 1000) (w : World) : ∃ w1, (Instr.makeSlice 22 (.int .i64 N) (.int .i64 N)).run Tryd.prog w = .ok (.slice (some ⟨w.heap.size, 0, none⟩) N N) w1 ∧ TRow w1 w.heap.size (List.replicate N []) ∧ Below w.heap.size w w1 := by
  obtain ⟨i0, hi, hz0, hz1, hz2⟩ := info_parts3 Tryd.infoText
  have h := run_makeSlice (P := Tryd.prog) (w := w) 22 9 i0 (.string ⟨#[]⟩) Tryd.underlying22 hi hz0 .i64 .i64 N N (by omega) (by omega) (by rw [hz1]; omega) (by rw [hz2]; omega) (by omega)
  rw [hz1] at h
  simp only [Int.toNat_natCast, made_texts] at h
  exact ⟨_, h, ⟨row_new _ _⟩, (Below.refl _ _).alloc (Nat.le_refl _) _⟩
theorem tag_txt (l : List (List UInt8)) : txt l.zipIdx = l := by
  unfold txt; exact List.zipIdx_map_fst ..
theorem tag_up (l : List (List UInt8)) : l.zipIdx.Pairwise (fun y z => y.2 < z.2) := by
  rw [List.pairwise_iff_getElem]
  intro i j hi hj hij
  simp
  exact hij
theorem tag_mem {l : List (List UInt8)} {t : TT} (h : t ∈ l.zipIdx) : t.1 ∈ l := by
  have := List.mem_map_of_mem (f := Prod.fst) h
  have e : l.zipIdx.map Prod.fst = l := tag_txt l
  rw [e] at this
  exact this
theorem fill_step {l : List (List UInt8)} {k n : Nat} {x : List UInt8} (hx : l[k]? = some x) (hn : n = l.length) : (l.take k ++ List.replicate (n - k) []).set k x = l.take (k + 1) ++ List.replicate (n - (k + 1)) [] := by
  have hk := (List.getElem?_eq_some_iff.1 hx).1
  rw [show n - k = (n - (k + 1)) + 1 by omega, List.replicate_succ, List.take_add_one, hx]
  have hl : (l.take k).length = k := by rw [List.length_take]; omega
  rw [List.set_append_right _ _ (by omega), hl, Nat.sub_self]
  simp
set_option maxHeartbeats 8000000 in
theorem stableFunc_calls (b n : Nat) (A : List TT) (hn : n = A.length) (h40 : n ≤ 40) (hbig : ∀ t ∈ A, t.1.length ≤ 1000000) (hT : A.Pairwise (fun y z => y.2 < z.2)) (w : World) (h : TRow w b (txt A)) :
    Calls Tryd.prog 12 #[.slice (some ⟨b, 0, none⟩) n n, cmpF] w fun e w' => e = .returned (.tuple #[]) ∧ (∃ M : List TT, M.Perm A ∧ Srt M ∧ TRow w' b (txt M)) ∧ Apart [b] w w' := by
  have kc := hidden (stable_calls b n A hn h40 hbig hT w h)
  clear hn hbig hT h
  go_enter Tryd.func12, Tryd.ntmps12
  go_wp2_with fail
  refine kc.out.mono ?_
  rintro e w' ⟨rfl, hM, hA⟩
  replace hM := hidden hM
  replace hA := hidden hA
  go_wp2
  first
    | (refine bodyPost_ret (results_none rfl _ _ _) rfl ?_; exact ⟨rfl, hM.out, hA.out⟩)
    | (go_end0; exact ⟨rfl, hM.out, hA.out⟩)
set_option maxHeartbeats 8000000 in
theorem sort_calls (v : Value) (l : List (List UInt8)) (w : World) (hv : TxtsAt w v l) (hl : ∀ x ∈ l, x.length ≤ 1000000) (hn : l.length ≤ 40) :
    Calls Tryd.prog 5 #[v] w fun e w' => e = .returned (.slice (some ⟨w.heap.size, 0, none⟩) l.length l.length) ∧ (∃ M : List TT, M.Perm l.zipIdx ∧ Srt M ∧ TRow w' w.heap.size (txt M)) ∧ Below w.heap.size w w' := by
  obtain ⟨a, cap, rfl, hcap, hc⟩ := hv
  obtain ⟨w1, hmk, hR1, hB1⟩ := make_row l.length (by omega) w
  obtain ⟨n, hln⟩ : ∃ n, l.length = n := ⟨_, rfl⟩
  have hcl := hidden (fun (x : List UInt8) (hx : x ∈ l) (wx : World) => clone_calls x wx (hl x hx))
  have kS := hidden (fun (wx : World) (hr : TRow wx w.heap.size l) => stableFunc_calls w.heap.size n l.zipIdx (by simp [hln]) (by omega) (fun t ht => hl t.1 (tag_mem ht)) (tag_up l) wx (by rw [tag_txt]; exact hr))
  rw [hln] at hmk hR1 hn ⊢
  replace hR1 := hidden hR1
  replace hB1 := hidden hB1
  replace hc := hidden hc
  replace hcap := hidden hcap
  replace hl := hidden hl
  have hln' := hidden hln
  clear hln
  go_enter Tryd.func5, Tryd.ntmps5
  go_wp2_with fail
  go_loopg [11] n (fun g si wr => ∃ k : Nat, k ≤ n ∧ g = n - k ∧ si = .int .i64 (k : Int) ∧ Hid (TRow wr w.heap.size (l.take k ++ List.replicate (n - k) []) ∧ Below w.heap.size w wr))
  case atStart => exact ⟨0, Nat.zero_le _, rfl, rfl, hidden ⟨by simpa using hR1.out, hB1.out⟩⟩
  case round =>
    obtain ⟨k, hk, hg, rfl, hV⟩ := hrel
    replace hg := hidden hg
    clear hmk hR1 hB1
    by_cases hlt : k < n
    · have hltI : (k : Int) < (n : Int) := by omega
      obtain ⟨x, hx⟩ : ∃ x, l[k]? = some x := ⟨_, List.getElem?_eq_getElem (by rw [hln'.out]; exact hlt)⟩
      obtain ⟨b, off, rfl, hb, hcells⟩ := hc.out (by intro e; rw [e] at hx; simp at hx)
      have c0 := (hV.out.2.cell (p := ⟨b, off + k, none⟩) hb).trans (hcells k x hx)
      have kC := hidden (hcl.out x (List.mem_of_getElem? hx) wr)
      replace hx := hidden hx
      clear hcells
      go_wp2_with fail
      refine kC.out.mono ?_
      rintro e w6 ⟨rfl, hb6⟩
      have hR6 := hV.out.1.below hb6
      have hB6 := hV.out.2.trans (hb6.mono hV.out.2.size)
      have c1 := hR6.cell (k := k) (x := []) (by
        have h1 : (l.take k).length = k := by rw [List.length_take, hln'.out]; omega
        rw [List.getElem?_append_right (by omega), h1, Nat.sub_self, List.getElem?_replicate, if_pos (by omega)])
      have f1 := hR6.free k
      have hE := hidden (show TRow (w6.setCell ⟨w.heap.size, k, none⟩ (.string (mkB x))) w.heap.size (l.take (k + 1) ++ List.replicate (n - (k + 1)) []) ∧ Below w.heap.size w (w6.setCell ⟨w.heap.size, k, none⟩ (.string (mkB x))) from ⟨by
        have := hR6.set k x
        rw [fill_step hx.out hln'.out.symm] at this
        exact this, hB6.setCell (p := ⟨w.heap.size, k, none⟩) (Nat.le_refl _) _⟩)
      clear hR6 hB6 hb6 hV c0
      go_wp2
      go_roundg (n - (k + 1))
      case measure => rw [hg.out]; omega
      case rel => exact ⟨k + 1, hlt, rfl, by go_num, hE.out⟩
    · obtain rfl : k = n := by omega
      have hR2 : TRow wr w.heap.size l := by
        have := hV.out.1
        rw [List.take_of_length_le (by rw [hln'.out]; exact Nat.le_refl _), Nat.sub_self] at this
        simpa using this
      have kc := hidden (kS.out wr hR2)
      have hB2 := hidden hV.out.2
      clear hR2 hV
      go_wp2_with fail
      refine kc.out.mono ?_
      rintro e w7 ⟨rfl, hM, hA⟩
      have hF := hidden (show Below w.heap.size w w7 from hB2.out.trans (hA.below (by simp) hB2.out.size))
      replace hM := hidden hM
      clear hA
      go_wp2
      go_ret
      exact ⟨rfl, hM.out, hF.out⟩
end Go.Proofs.YtnlcaabkbnppkaaDoor
