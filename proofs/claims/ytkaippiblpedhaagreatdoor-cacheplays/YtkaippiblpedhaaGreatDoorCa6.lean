/- The Cache's group. -/
import Derived.Test.YtkaippiblpedhaaGreatDoorCa5
namespace Go.Proofs.YtkaippiblpedhaaGreatDoor
open Go.RowKit Go.Extern.Stop Go.Stop Go.Extern Go.Maps
set_option maxRecDepth 100000

/-- One block more behind a list. -/
theorem GOwn.push {base : Nat} {w : World} {v : Value} {ps : List Piece} (h : GOwn base w v ps) (hn : ps.length + 1 ≤ 1000) (hbase : base ≤ w.heap.size) (no : Int) (blk : Nat) (zs : List Int) (hd : DataAt base w ⟨no, blk, zs⟩) (ty : TypeId) :
    ∃ v' w', (Builtin.append_ #[70, 70] ty #[v, .slice (some ⟨w.heap.size, 0, none⟩) 1 1]).run Tryz.prog (w.alloc (.cells #[.int .i64 no, .slice (some ⟨blk, 0, none⟩) 128 128] 104)) = .ok v' w' ∧
      GOwn base w' v' (ps ++ [⟨no, blk, zs⟩]) ∧ Below base w w' := by
  have hB : Below w.heap.size w (w.alloc (.cells #[.int .i64 no, .slice (some ⟨blk, 0, none⟩) 128 128] 104)) := (Below.refl _ _).alloc (Nat.le_refl _) _
  have hl : GOwn base (w.alloc (.cells #[.int .i64 no, .slice (some ⟨blk, 0, none⟩) 128 128] 104)) (.slice (some ⟨w.heap.size, 0, none⟩) ([⟨no, blk, zs⟩] : List Piece).length 1) [⟨no, blk, zs⟩] := GOwn.lit base w hbase ⟨no, blk, zs⟩ hd
  obtain ⟨v', w', hrun, hown, hB2, -⟩ := (h.below hB).append w.heap.size 1 hl (by rw [List.length_singleton]; omega) (Nat.le_trans hbase hB.size) ty
  exact ⟨v', w', hrun, hown, (hB.mono hbase).trans hB2⟩
theorem plain_push (ps : List Piece) (p : Piece) : plain (ps ++ [p]) = plain ps ++ [(p.no, p.zs)] := by simp [plain]
theorem Told.cell {base : Nat} {w : World} {v : Value} {M : Chg} (h : Told base w v M) (hne : M ≠ []) : ∃ b cap, v = .slice (some ⟨b, 0, none⟩) M.length cap ∧ b < w.heap.size ∧ ∀ k p, M[k]? = some p → w.cell? ⟨b, k, none⟩ = some (.int .i64 p.1) := by
  rcases h.row.2 with ⟨_, h0⟩ | ⟨g', cap', cur, rfl, h1, hh, h2, h3, h4, h5⟩
  · exact absurd (List.length_eq_zero_iff.1 h0) hne
  · refine ⟨g', cap', rfl, ?_, fun k p hp => ?_⟩
    · rcases Nat.lt_or_ge g' w.heap.size with h | h
      · exact h
      · rw [Array.getElem?_eq_none h] at hh; cases hh
    · have hk : k < M.length := (List.getElem?_eq_some_iff.1 hp).1
      have hc := h.row.cellAt k (by omega)
      rw [hc]
      simp [hp]
set_option maxHeartbeats 2000000 in
theorem cgroup_calls {cb jb mb : Nat} {blocks : Int} {M : Chg} {w : World} (hc : CAt cb jb mb blocks w) (hm : MapAt w mb M) (hl : M.length ≤ 900) (hi : ∀ p ∈ M, i64 p.1) :
    Calls Tryz.prog 28 #[ptr cb] w fun e w' => ∃ v ps, e = .returned v ∧ GOwn w.heap.size w' v ps ∧ plain ps = M ∧ Below w.heap.size w w' := by
  have hC := hidden (changed_calls hc hm (by omega))
  replace hc := hidden hc
  replace hm := hidden hm
  replace hi := hidden hi
  go_enter Tryz.func28, Tryz.ntmps28
  go_wp2_with fail
  refine (hC.out).mono ?_
  rintro ev w1 ⟨v, rfl, hT, hB1⟩
  obtain ⟨a, cap, rfl⟩ : ∃ a cap, v = .slice a M.length cap := by
    rcases hT.row.2 with ⟨rfl, h0⟩ | ⟨g', cap', cur, rfl, rest⟩
    · exact ⟨none, 0, by rw [h0]⟩
    · exact ⟨_, _, rfl⟩
  replace hT := hidden hT
  have hs1 := hB1.size
  replace hB1 := hidden hB1
  clear hC
  go_wp2_with fail
  go_loopg [3, 10] M.length (fun gk l q wr => ∃ k : Nat, k ≤ M.length ∧ gk = M.length - k ∧ q = .int .i64 k ∧ Hid (∃ ps, GOwn w1.heap.size wr l ps ∧ plain ps = M.take k ∧ Below w1.heap.size w1 wr))
  case atStart => exact ⟨0, by omega, rfl, rfl, hidden ⟨[], GOwn.nil _ _, rfl, Below.refl _ _⟩⟩
  case round =>
    obtain ⟨k, hk, hgk, rfl, hI⟩ := hrel
    replace hgk := hidden hgk
    by_cases hlt : k < M.length
    · obtain ⟨ps, hG, hP, hB⟩ := hI.out
      obtain ⟨p, hp⟩ : ∃ p, M[k]? = some p := ⟨_, List.getElem?_eq_getElem hlt⟩
      have hpm := List.mem_of_getElem? hp
      obtain ⟨lb, lcap, hv, hlb, hcell⟩ := hT.out.cell (by intro e; rw [e] at hlt; simp at hlt)
      obtain ⟨rfl, -, -⟩ := Value.slice.inj hv
      have hck := (hB.cell (p := ⟨lb, k, none⟩) hlb).trans (hcell k p hp)
      have hB' := hB1.out.trans (hB.mono hB1.out.size)
      have c2 := (hc.out.below hB').c2
      have hlk := (hm.out.below hB').look p.1 (hi.out p hpm) false
      rw [getM_of_mem hm.out.tidy hpm] at hlk
      simp only [Bool.false_eq_true, if_false] at hlk
      have hz := hm.out.tidy.rows p hpm
      have hcs : Hid ((rowC p.2).size = 128) := hidden (rowC_size hz)
      have hall := hidden (rowC_one p.2)
      have hrow := hidden (fun (w' : World) (b : Nat) => lie_of_row (w := w') (b := b) hz)
      have htk : M.take (k + 1) = M.take k ++ [p] := by rw [List.take_add_one, hp]; rfl
      have hpl : ps.length = k := by have := congrArg List.length hP; simp [plain] at this; omega
      replace hP := hidden hP
      replace htk := hidden htk
      replace hz := hidden hz
      obtain ⟨no, zs⟩ := p
      simp only at hck hlk hcs hall hrow hz htk
      generalize rowC zs = cs at hlk hcs hall hrow
      replace hlk := hidden hlk
      replace hG := hidden hG
      replace hB := hidden hB
      replace hcell := hidden hcell
      clear hI hv hB' hp hpm
      have hnew : (wr.alloc (.cells (Array.replicate 128 (.int .u8 0)) 65)).heap[wr.heap.size]? = some (.cells (Array.replicate 128 (.int .u8 0)) 65 (0, 0)) := heap_alloc_new _ _
      replace hnew := hidden hnew
      have hBa : Below wr.heap.size wr ((wr.alloc (.cells Tryz.zeroCells65 65)).setRow wr.heap.size cs) := below_setRow ((Below.refl _ _).alloc (Nat.le_refl _) _) (Nat.le_refl _) cs
      have hh : ((wr.alloc (.cells Tryz.zeroCells65 65)).setRow wr.heap.size cs).heap[wr.heap.size]? = some (.cells cs 65 (0, 0)) := setRow_heap _ _ _ _ _ _ (heap_alloc_new _ _)
      have hLi := hrow.out _ _ hh
      have hd : DataAt w1.heap.size ((wr.alloc (.cells Tryz.zeroCells65 65)).setRow wr.heap.size cs) ⟨no, wr.heap.size, zs⟩ := ⟨hB.out.size, hLi.lt, hz.out.1, hLi.bytes, _, _, _, hh, by decide⟩
      obtain ⟨v4, w4, hrun, hG4, hB4⟩ := (hG.out.below hBa).push (by omega) (Nat.le_trans hB.out.size hBa.size) no wr.heap.size zs hd 70
      have hE := hidden (And.intro hG4 ((hB.out.trans (hBa.mono hB.out.size)).trans hB4))
      replace hrun := hidden hrun
      clear hG4 hB4 hBa hh hLi hd hrow
      go_wp2_with (first
        | (at_lookup; refine wpList_lookup_eq rfl 66 _ _ false rfl _ _ _ rfl rfl hlk.out ?_)
        | (refine wpList_store_row rfl 65 _ _ rfl wr.heap.size cs rfl rfl 65 _ hnew.out (by rw [hcs.out]; exact Tryz.sizeBlock) (by rw [hcs.out]; simp) hall.out ?_; generalize (wr.alloc (.cells Tryz.zeroCells65 65)).setRow wr.heap.size cs = w2 at hrun ⊢)
        | (at_builtin; refine wpList_append_eq _ _ 70 rfl _ _ v4 w4 rfl rfl hrun.out rfl ?_))
      go_roundg (M.length - (k + 1))
      case measure => rw [hgk.out]; omega
      case rel =>
        refine ⟨k + 1, hlt, rfl, by go_num, hidden ⟨_, hE.out.1, ?_, hE.out.2⟩⟩
        rw [plain_push, hP.out, htk.out]
    · obtain rfl : k = M.length := by omega
      go_wp2
      go_ret
      obtain ⟨ps, hG, hP, hB⟩ := hI.out
      refine ⟨_, ps, rfl, ?_, by rw [hP, List.take_length], hB1.out.trans (hB.mono hs1)⟩
      exact ⟨by
        rcases hG.row.2 with h2 | ⟨g', cap', cur, rfl, h1, rest⟩
        · exact ⟨hG.row.1, .inl h2⟩
        · exact ⟨hG.row.1, .inr ⟨g', cap', cur, rfl, Nat.le_trans hs1 h1, rest⟩⟩, fun p hp => by
        have := hG.data p hp
        exact ⟨Nat.le_trans hs1 this.new, this.lt, this.len, this.bytes, this.row⟩⟩
end Go.Proofs.YtkaippiblpedhaaGreatDoor
