/- The journal's span. -/
import Derived.Test.YtopegpjkkicjhaaGreatDoorJo4
namespace Go.Proofs.YtopegpjkkicjhaaGreatDoor
open Go.RowKit Go.Extern.Stop Go.Stop Go.Extern
set_option maxRecDepth 100000

/-- A Journal as it lies in memory. -/
structure JAt (jb d at_ most : Nat) (w : World) : Prop where
  c0 : w.cell? ⟨jb, 0, none⟩ = some (ptr d)
  c1 : w.cell? ⟨jb, 1, none⟩ = some (.int .i64 at_)
  c2 : w.cell? ⟨jb, 2, none⟩ = some (.int .i64 most)
theorem JAt.lt {jb d at_ most : Nat} {w : World} (h : JAt jb d at_ most w) : jb < w.heap.size := lt_of_cell (a := ⟨jb, 0, none⟩) h.c0
theorem JAt.keep {jb d at_ most : Nat} {w w' : World} {bs : List Nat} (h : JAt jb d at_ most w) (ha : Apart bs w w') (hn : jb ∉ bs) : JAt jb d at_ most w' :=
  ⟨(ha.cell (p := ⟨jb, 0, none⟩) h.lt hn).trans h.c0, (ha.cell (p := ⟨jb, 1, none⟩) h.lt hn).trans h.c1, (ha.cell (p := ⟨jb, 2, none⟩) h.lt hn).trans h.c2⟩
theorem JAt.below {jb d at_ most : Nat} {w w' : World} (h : JAt jb d at_ most w) (hb : Below w.heap.size w w') : JAt jb d at_ most w' := h.keep (Apart.of_below (bs := []) hb) (by simp)
set_option maxHeartbeats 2000000 in
theorem span_calls {w0 : World} {d g n : Nat} {mem : Nat → Int} {writes left : Int} {w : World} (h : Sys w0 d g n mem writes left w) (hl : left ≠ 0) (jb at_ most : Nat) (hj : JAt jb d at_ most w) (s m : Nat) (hs : s + m ≤ n) (h1 : 1 ≤ m) :
    Calls Tryz.prog 151 #[ptr jb, .int .i64 s, .int .i64 m] w fun e w' => ∃ b cap, e = .returned (.tuple #[.slice (some ⟨b, 0, none⟩) (m * 128) cap, .nilIface]) ∧ OwnB w.heap.size w' b (m * 128) cap (spanL mem s m) ∧ Below w.heap.size w w' := by
  have hfew := h.disk.few
  have hS := hidden h
  replace hj := hidden hj
  clear h
  go_enter Tryz.func151, Tryz.ntmps151
  go_wp2
  go_loopg [8, 13] m (fun gk t q wr => ∃ k : Nat, k ≤ m ∧ gk = m - k ∧ q = .int .i64 k ∧ Hid (OwnV w.heap.size wr t (spanL mem s k) ∧ Below w.heap.size w wr))
  case atStart => exact ⟨0, by omega, rfl, rfl, hidden ⟨OwnV.nil _ _, Below.refl _ _⟩⟩
  case round =>
    obtain ⟨k, hk, hgk, rfl, hI⟩ := hrel
    replace hgk := hidden hgk
    by_cases hlt : k < m
    · have hc0 := (hj.out.below hI.out.2).c0
      have hR := hidden (sys_read (hS.out.more hI.out.2) (s + k) (by omega) hl)
      have hsk : (s : Int) + (k : Int) = ((s + k : Nat) : Int) := by omega
      have hsl : s + k ≤ 3000 := by omega
      generalize hq : s + k = sk at hsk hR hsl
      replace hq := hidden hq
      go_wp2_with fail
      refine (hR.out).mono ?_
      rintro ev w2 ⟨b2, rfl, hb2, -, -, -, hB2⟩
      obtain ⟨v4, w4, hrun, hV4, hB4⟩ := ownV_append (hI.out.1.below hB2) _ _ hb2 (by intro e; have := blockL_len mem sk; rw [e] at this; simp at this) (by rw [spanL_len, blockL_len]; omega) (Nat.le_trans hI.out.2.size hB2.size) 34
      have hE := hidden (And.intro hV4 ((hI.out.2.trans (hB2.mono hI.out.2.size)).trans hB4))
      replace hrun := hidden hrun
      clear hV4 hB4 hB2 hb2 hI
      go_wp2_with (at_builtin; refine wpList_append_eq _ _ 34 rfl _ _ v4 w4 rfl rfl hrun.out rfl ?_)
      go_roundg (m - (k + 1))
      case measure => rw [hgk.out]; omega
      case rel =>
        refine ⟨k + 1, hlt, rfl, by go_num, hidden ?_⟩
        rw [spanL, hq.out]
        exact hE.out
    · obtain rfl : k = m := by omega
      go_wp2
      go_ret2
      obtain ⟨hV, hB⟩ := hI.out
      obtain ⟨b5, cap5, rfl, hO5⟩ := hV.form (by intro e; have := spanL_len mem s k; rw [e, List.length_nil] at this; omega)
      rw [spanL_len] at hO5 ⊢
      exact ⟨b5, cap5, rfl, hO5, hB⟩
end Go.Proofs.YtopegpjkkicjhaaGreatDoor
