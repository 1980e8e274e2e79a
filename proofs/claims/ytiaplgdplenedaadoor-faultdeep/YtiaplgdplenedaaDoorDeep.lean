/- FaultDeep answers true, whatever it is given, and changes nothing that was there. -/
import Derived.Test.YtiaplgdplenedaaDoorRaw
namespace Go.Proofs.YtiaplgdplenedaaDoor
open Go.RowKit Go.Extern.Stop Go.Stop Go.Extern
set_option maxRecDepth 100000

set_option maxHeartbeats 1000000 in
theorem deep_calls (n : Int) (w : World) (hg : GT w) :
    Calls Tryd.prog 5 #[.int .i64 n] w fun ev w' => ev = .returned (.bool true) ∧ Below w.heap.size w w' := by
  obtain ⟨h0, h1⟩ : 0 ≤ bits .and .i64 n 255 ∧ bits .and .i64 n 255 ≤ 255 := and_low n 255 (by decide)
  have hq0 : 1 ≤ bits .and .i64 n 255 % 200 + 1 := by omega
  have hq1 : bits .and .i64 n 255 % 200 + 1 ≤ 200 := by omega
  have hC0 : Chain (w.alloc (fcells ⟨#[111]⟩ ⟨#[48]⟩ (num 15))) [(⟨#[111]⟩, ⟨#[48]⟩)] (num 15) (flt w.heap.size) := Chain.alloc (w := w) (l := []) (bot := num 15) (e := num 15) _ _ rfl
  replace hC0 := hidden hC0
  go_enter Tryd.func5, Tryd.ntmps5
  go_wp2_with (go_at_call 16; refine (new_num _ _ 15 _ (by decide)).mono ?_; rintro ev w' ⟨rfl, rfl⟩)
  generalize bits .and .i64 n 255 % 200 + 1 = q at hq0 hq1 ⊢
  clear h0 h1
  go_loopg [3, 4] 199 (fun k e i wr => Below w.heap.size w wr ∧ ∃ l, Chain wr l (num 15) e ∧ (∃ j : Int, i = .int .i64 j ∧ j = (l.length : Int)) ∧ 1 ≤ l.length ∧ (l.length : Int) ≤ q ∧ k = 200 - l.length)
  case atStart => exact ⟨(Below.refl _ _).alloc (Nat.le_refl _) _, _, hC0.out, ⟨1, rfl, rfl⟩, by simp, by simpa using hq0, by simp⟩
  case round =>
    obtain ⟨hB, l, hch, ⟨j, rfl, hj⟩, hl1, hl2, hk⟩ := hrel
    obtain ⟨u, v, rfl⟩ := hch.held (Or.inr ⟨_, _, rfl⟩)
    replace hk := hidden hk
    have hj0 : 0 ≤ j := by omega
    have hsz := hB.size
    have hjH := hidden hj
    by_cases hlt : j < q
    · have hC1 := hidden (hch.alloc ⟨#[111]⟩ ⟨#[49]⟩)
      clear hj hch hC0
      go_wp2_with (go_at_call 10; refine (wrap_some _ _ _ _ _).mono ?_; rintro ev w' ⟨rfl, rfl⟩)
      go_roundg (200 - (l.length + 1))
      case measure => rw [hk.out]; have := hjH.out; omega
      case rel =>
        have := hjH.out
        exact ⟨hB.alloc hsz _, _, hC1.out, ⟨_, rfl, by simp; omega⟩, by simp, by simp; omega, by simp⟩
    · have hqn : q = (l.length : Int) := by omega
      have hgr := hidden (hg.below hB)
      have hl3 : l.length ≤ 200 := by omega
      have kO : ∀ w1, Below wr.heap.size wr w1 → Calls Tryd.prog 12 #[.iface u v] w1 fun ev w' => ∃ a cap, ev = .returned (.slice a (min l.length 100) cap) ∧ Below w1.heap.size w1 w' := fun w1 h1 => ops_len w1 l _ _ (Or.inr ⟨15, rfl⟩) (hch.below h1) (by omega)
      have kN : ∀ w1, Below wr.heap.size wr w1 → Calls Tryd.prog 17 #[.iface u v] w1 fun ev w' => ∃ a cap, ev = .returned (.slice a (min l.length 100) cap) ∧ Below w1.heap.size w1 w' := fun w1 h1 => names_len w1 l _ _ (Or.inr ⟨15, rfl⟩) (hch.below h1) (by omega)
      have kM : ∀ w1, Below wr.heap.size wr w1 → Calls Tryd.prog 14 #[.iface u v] w1 fun ev w' => ev = .returned (.int .i64 15) ∧ Below w1.heap.size w1 w' := fun w1 h1 => num_chain 15 w1 l _ (hch.below h1) (by omega) (hgr.out.below h1)
      replace kO := hidden kO
      replace kN := hidden kN
      replace kM := hidden kM
      subst hqn
      have hmm : ((min l.length 100 : Nat) : Int) = min (l.length : Int) 100 := by omega
      clear hj hch hC0
      go_wp2_with fail
      refine (kO.out _ (Below.refl _ _)).mono ?_
      rintro ev w1 ⟨a1, c1, rfl, hB1⟩
      have hs1 := hB1.size
      go_wp2_with fail
      refine (kN.out _ hB1).mono ?_
      rintro ev w2 ⟨a2, c2, rfl, hB2⟩
      replace hB2 := hB1.trans (hB2.mono hs1)
      have hs2 := hB2.size
      clear hB1 hs1
      go_wp2_with fail
      refine (kM.out _ hB2).mono ?_
      rintro ev w3 ⟨rfl, hB3⟩
      replace hB3 := hB2.trans (hB3.mono hs2)
      have hs3 := hB3.size
      clear hB2 hs2
      go_wp2_with fail
      refine (awake_calls w3 (hgr.out.below hB3)).mono ?_
      rintro ev w4 ⟨rfl, hB4⟩
      replace hB4 := hB3.trans (hB4.mono hs3)
      go_wp2
      go_ret
      exact ⟨rfl, hB.trans (hB4.mono hsz)⟩
end Go.Proofs.YtiaplgdplenedaaDoor
