/- slices.Clone and Clean. -/
import Derived.Test.YtfnfhabepadikaaK8
import Derived.Lib.SliceRun

namespace Go.Proofs.Ytfnfhabepadikaa
open Go Go.RowKit Go.Shelf
set_option maxRecDepth 100000

set_option maxHeartbeats 1000000 in
theorem clone_calls (L : List Rg) (w : World) (v : Value) (hv : RgAt w v L) (hl : L.length ≤ 100000) : Calls Try.prog 29 #[v] w fun e w' => (∃ v, e = .returned v ∧ RgOwn w.heap.size w' v L) ∧ Below w.heap.size w w' := by
  obtain ⟨a0, cap, rfl, hcap, hc⟩ := hv
  cases a0 with
  | none =>
    have h0 : L = [] := by
      by_cases hn : L = []
      · exact hn
      · obtain ⟨b, off, h, _⟩ := hc hn; cases h
    subst h0
    clear hc
    dsimp only [List.length_nil]
    have e1 := Lib.run_eql_slice_nil (P := Try.prog) w 22 _ none 0 cap 0 0 Try.underlying22
    go_enter Try.func29, Try.ntmps29
    go_wp2
    go_ret
    exact ⟨⟨_, rfl, RgOwn.nil _ _⟩, Below.refl _ _⟩
  | some ad =>
    have hnew := rgOwn_new (base := w.heap.size) w w.heap.size rfl (Nat.le_refl _)
    have hbn := box_new w (.cells #[] 25)
    obtain ⟨v', w', hrun, hown, hbel, -⟩ := hnew.appends ad L.length cap L rfl (fun k r hk => by
      obtain ⟨b, off, h1, h2, h3⟩ := hc (by rintro rfl; simp at hk)
      cases h1
      obtain ⟨c0, c1⟩ := h3 k r hk
      rw [Addr.add_lit, Addr.add_lit]
      exact ⟨(hbn.cell (p := ⟨b, off + k * 2, none⟩) h2).trans c0, (hbn.cell (p := ⟨b, off + k * 2 + 1, none⟩) h2).trans c1⟩) (by simp; omega) hbn.size 22
    have hE := hidden (show RgOwn w.heap.size w' v' L ∧ Below w.heap.size w w' from ⟨by simpa using hown, hbn.trans hbel⟩)
    have e1 := Lib.run_eql_slice_nil (P := Try.prog) w 22 _ (some ad) L.length cap 0 0 Try.underlying22
    replace hrun := hidden hrun
    clear hown hbel hnew hbn hc
    go_enter Try.func29, Try.ntmps29
    go_wp2_with (at_builtin; refine wpList_append_eq _ _ 22 rfl _ _ v' w' rfl rfl hrun.out rfl ?_)
    go_ret
    exact ⟨⟨_, rfl, hE.out.1⟩, hE.out.2⟩
theorem foldJ_snoc (a : Rg) : ∀ (l out : List Rg), foldJ out (l ++ [a]) = if a.1 < a.2 then joinL (foldJ out l) a else foldJ out l
  | [], out => rfl
  | b :: l, out => by rw [List.cons_append, foldJ, foldJ_snoc a l, foldJ]
theorem foldJ_len : ∀ (l out : List Rg), (foldJ out l).length ≤ out.length + l.length
  | [], out => Nat.le_refl _
  | b :: l, out => by
    rw [foldJ]
    split
    · have := foldJ_len l (joinL out b); have := joinL_len out b; simp; omega
    · have := foldJ_len l out; simp; omega
/-- Clean's answer. -/
def cleanL (L : List Rg) : List Rg := if okB L then foldJ [] (L.mergeSort fun a b => decide (a.1 ≤ b.1)) else []
theorem cleanL_bad {L : List Rg} (h : ¬ OkL L) : cleanL L = [] := by
  unfold cleanL
  rw [if_neg (fun e => h ((okB_iff L).1 e))]
theorem cleanL_is {L : List Rg} (h : OkL L) : IsCl L (cleanL L) := by
  unfold cleanL
  rw [if_pos ((okB_iff L).2 h)]
  refine fold_cl ?_ (fun _ => (List.mergeSort_perm L _).mem_iff)
  have := List.pairwise_mergeSort (le := fun a b : Rg => decide (a.1 ≤ b.1)) (fun a b c h1 h2 => by simp at *; omega) (fun x y => by simp; omega) L
  simpa using this
theorem cleanL_len (L : List Rg) : (cleanL L).length ≤ 32 := by
  unfold cleanL
  split
  · rename_i h
    have h1 := ((okB_iff L).1 h).1
    have h2 := foldJ_len (L.mergeSort fun a b => decide (a.1 ≤ b.1)) []
    rw [List.length_mergeSort] at h2
    simp at h2; omega
  · simp
theorem cleanL_cln (L : List Rg) : Cln (cleanL L) := by
  by_cases h : OkL L
  · exact (cleanL_is h).1
  · rw [cleanL_bad h]; trivial
theorem cleanL_tame (L : List Rg) : ∀ a ∈ cleanL L, 0 ≤ a.1 ∧ a.1 < a.2 ∧ a.2 ≤ 1073741824 := by
  by_cases h : OkL L
  · intro a ha
    have hc := cleanL_is h
    have h1 := hc.1.ne a ha
    obtain ⟨b, hb, h2, h3⟩ := (hc.2 a.1).1 ⟨a, ha, Int.le_refl _, h1⟩
    obtain ⟨c, hcm, h4, h5⟩ := (hc.2 (a.2 - 1)).1 ⟨a, ha, by omega, by omega⟩
    have h6 := h.2 b hb
    have h7 := h.2 c hcm
    unfold OkR at h6 h7
    omega
  · rw [cleanL_bad h]; intro a ha; cases ha
theorem clean_eq {L D : List Rg} (h : OkL L) (hp : D.Perm L) (hs : D.Pairwise (fun a b => a.1 ≤ b.1)) : foldJ [] D = cleanL L :=
  (fold_cl hs (fun _ => hp.mem_iff)).unique (cleanL_is h)
end Go.Proofs.Ytfnfhabepadikaa
