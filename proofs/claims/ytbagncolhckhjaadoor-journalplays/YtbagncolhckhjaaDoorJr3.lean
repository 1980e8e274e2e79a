/- A Commit of a list, and what the Opens behind it make of it. -/
import Derived.Test.YtbagncolhckhjaaDoorJr2
namespace Go.Proofs.YtbagncolhckhjaaDoor
open Go.RowKit Go.Extern.Stop Go.Stop Go.Extern
set_option maxRecDepth 100000

theorem text_apart {a b : ByteArray} (h : a ≠ b) : (a.toList == b.toList) = false := by
  refine beq_eq_false_iff_ne.2 (fun e => h ?_)
  rw [ByteArray.toList_eq, ByteArray.toList_eq] at e
  apply ByteArray.ext
  exact Array.toList_inj.1 e
theorem need_room {l : Grp} {most : Nat} (h : l.length ≤ most) : 1 + size l ≤ needN most := by
  have e : size l = rowsN l.length + l.length := rfl
  have e2 := rowsN_mono h
  unfold needN
  omega
theorem all_len (at_ : Nat) (l : Grp) (h : l.length ≤ 200) : (allWs at_ l).length ≤ 700 := by
  have e : (allWs at_ l).length = (size l + 1) + (l.length + 1) := by rw [allWs, List.length_append, note_len, settleWs, List.length_append]; rfl
  have e2 : size l = rowsN l.length + l.length := rfl
  have e3 := rowsN_le l.length
  omega
/-- Behind a Commit that went through. -/
theorem seq_all {N at_ own n : Nat} {no : Nat → Nat} {f : Nat → Int} {mem : Nat → Int} (hg : Good N at_ own (seqG no f n)) (ho : 1 + size (seqG no f n) ≤ own) :
    Idle at_ (laid (allWs at_ (seqG no f n)) mem) ∧ (∀ j, j < n → blockL (laid (allWs at_ (seqG no f n)) mem) (no j) = fillL (f j)) ∧ ∀ x, (x < at_ ∨ at_ + own ≤ x) → (∀ j, j < n → no j ≠ x) → blockL (laid (allWs at_ (seqG no f n)) mem) x = blockL mem x := by
  have h := all_all (mem := mem) hg ho
  refine ⟨h.1, fun j hj => ?_, fun x hx hne => h.2.1 x hx (fun p hp => ?_)⟩
  · have := h.2.2 (no j, fillL (f j)) (seqG_mem no f n j hj)
    exact this
  · obtain ⟨k, hk, rfl⟩ := seqG_of_mem hp
    exact hne k hk
/-- Behind a Commit under a Fuse: where the group stands. -/
theorem done_stands {w0 : World} {d g N at_ own : Nat} {l : Grp} {mem : Nat → Int} {writes left : Int} {r : Value} {w w' : World} (hg : Good N at_ own l) (ho : 1 + size l ≤ own) (hi : Idle at_ mem) (h : Done w0 d g N (allWs at_ l) mem writes left r w w') :
    Apart [d, g] w w' ∧ ((r = .nilIface ∧ ∃ left', Sys w0 d g N (laid (allWs at_ l) mem) (writes + (allWs at_ l).length) left' w' ∧ LeftOk left' ∧ (left = -1 → left' = -1)) ∨
      ∃ (b : Nat) (i : Int) (mem' : Nat → Int) (wr' : Int), r = flt b ∧ Chain w' [(sJournal, sNone), (sDisk, itoaB i)] (num 50) (flt b) ∧ w.heap.size ≤ b ∧ Sys w0 d g N mem' wr' 0 w' ∧ writes ≤ wr' ∧ wr' ≤ writes + 1000 ∧ left ≠ -1 ∧ Stands at_ own l (blockL mem) mem') := by
  refine ⟨h.apart, ?_⟩
  rcases h.out with h1 | ⟨k, b, i, hk, h2, h3, h4, h5, h6⟩
  · exact Or.inl h1
  · have hl := all_len at_ l hg.few
    refine Or.inr ⟨b, i, _, _, h2, h3, h4, h5, by omega, by omega, h6, ?_⟩
    rcases all_some hg ho hi k hk with ⟨a, c⟩ | ⟨a, c⟩
    · exact .before a c
    · exact .under a c
theorem rests_seq {at_ own n : Nat} {no : Nat → Nat} {f : Nat → Int} {v : Nat → List Int} {mem : Nat → Int} (h : Rests at_ own (seqG no f n) v mem) :
    (∀ x, (x < at_ ∨ at_ + own ≤ x) → blockL mem x = v x) ∨ ((∀ j, j < n → blockL mem (no j) = fillL (f j)) ∧ ∀ x, (x < at_ ∨ at_ + own ≤ x) → (∀ j, j < n → no j ≠ x) → blockL mem x = v x) := by
  rcases h with ⟨h1, h2⟩ | ⟨h1, h2, h3⟩
  · exact Or.inl h2
  · refine Or.inr ⟨fun j hj => ?_, fun x hx hne => h2 x hx (fun p hp => ?_)⟩
    · have := h3 (no j, fillL (f j)) (seqG_mem no f n j hj)
      exact this
    · obtain ⟨k, hk, rfl⟩ := seqG_of_mem hp
      exact hne k hk
end Go.Proofs.YtbagncolhckhjaaDoor
