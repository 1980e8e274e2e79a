/- fault.Depth and fault.Text: how many Faults a chain has (below 1,000,000), and its one line: each Op, a blank and the Name where there is one, a colon and a blank, then the text of the number at the bottom. -/
import Derived.Test.YtjaknlenojdocaaDoorBd
namespace Go.Proofs.YtjaknlenojdocaaDoor
open Go.RowKit Go.Extern.Stop Go.Stop Go.Extern
set_option maxRecDepth 100000

theorem depth_of (w : World) (l : List (ByteArray × ByteArray)) (bs : List Nat) (bot e : Value) (hbot : bot = .nilIface ∨ ∃ n, bot = num n) (hc : ChainB w l bs bot e) (hl : l.length < 1000000)
    (hE : Hid (Calls Tryd.prog 26 #[e] w fun ev w' => ev = .returned (.bool true) ∧ Below w.heap.size w w')) :
    Calls Tryd.prog 15 #[e] w fun ev w' => ev = .returned (.int .i64 (l.length : Int)) ∧ Below w.heap.size w w' := by
  have hF : ∀ w1, Below w.heap.size w w1 → Hid (Calls Tryd.prog 22 #[e, .int .i64 1048576] w1 fun ev w' => ∃ v, ev = .returned v ∧ w'.ownsRow w1.heap.size 43 1 v l.length (pts bs) ∧ Below w1.heap.size w1 w') := fun w1 h1 => hidden (by
    have h := faults_chain w1 l bs bot e 1048576 hbot (ChainB.below h1 hc) hl (Nat.le_refl _)
    rw [Nat.min_eq_left (by omega), List.take_of_length_le (by rw [hc.len]; omega)] at h
    exact h)
  clear hc hbot
  go_enter Tryd.func15, Tryd.ntmps15
  go_wp2_with fail
  refine (hE.out).mono ?_
  rintro ev w1 ⟨rfl, hB1⟩
  have hF := hF w1 hB1
  go_wp2_with fail
  refine (hF.out).mono ?_
  rintro ev w2 ⟨v, rfl, hown, hB2⟩
  obtain ⟨sa, cap, rfl⟩ := owned_shape hown
  have hl' : (l.length : Int) < 1000000 := by omega
  clear hown hl
  go_wp2
  go_ret
  exact ⟨rfl, hB1.trans (hB2.mono hB1.size)⟩
theorem depth_chain (n : Int) (w : World) (l : List (ByteArray × ByteArray)) (e : Value) (hc : Chain w l (num n) e) (hl : l.length < 1000000) :
    Calls Tryd.prog 15 #[e] w fun ev w' => ev = .returned (.int .i64 (l.length : Int)) ∧ Below w.heap.size w w' := by
  obtain ⟨bs, hbs⟩ := hc.blocks
  exact depth_of w l bs _ e (Or.inr ⟨n, rfl⟩) hbs hl (hidden (ends_chain n w l e hc hl))
theorem depth_nil (w : World) : Calls Tryd.prog 15 #[.nilIface] w fun ev w' => ev = .returned (.int .i64 0) ∧ Below w.heap.size w w' :=
  depth_of w [] [] .nilIface .nilIface (Or.inl rfl) rfl (by decide) (hidden (ends_nil w))
theorem depth_raw (b : Nat) (op nm : ByteArray) (w : World) (hc : Chain w [(op, nm)] .nilIface (flt b)) :
    Calls Tryd.prog 15 #[flt b] w fun ev w' => ev = .returned (.int .i64 1) ∧ Below w.heap.size w w' := by
  obtain ⟨bs, hbs⟩ := hc.blocks
  obtain ⟨b', e', he, hb, -, -, h2, hr⟩ := hc
  have he' : e' = .nilIface := hr
  subst he'
  have hbb : b = b' := by simpa using he
  subst hbb
  exact depth_of w [(op, nm)] bs .nilIface (flt b) (Or.inl rfl) hbs (by simp) (hidden (ends_raw b w hb h2))
end Go.Proofs.YtjaknlenojdocaaDoor
