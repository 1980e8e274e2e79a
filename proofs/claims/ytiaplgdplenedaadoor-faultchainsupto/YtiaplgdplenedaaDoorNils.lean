/- FaultNils answers true, whatever it is given, and changes nothing that was there. -/
import Derived.Test.YtiaplgdplenedaaDoorAw
namespace Go.Proofs.YtiaplgdplenedaaDoor
open Go.RowKit Go.Extern.Stop Go.Stop Go.Extern
set_option maxRecDepth 100000

theorem text_nil (w : World) : Calls Tryd.prog 13 #[.nilIface] w fun ev w' => ev = .returned (.string ⟨#[]⟩) ∧ w' = w := by
  go_enter Tryd.func13, Tryd.ntmps13
  go_wp2
  go_ret
  exact ⟨rfl, rfl⟩
theorem ops_nil (w : World) : Calls Tryd.prog 12 #[.nilIface] w fun ev w' => ∃ a cap, ev = .returned (.slice a 0 cap) ∧ Below w.heap.size w w' := by
  refine (ops_chain w [] [] .nilIface .nilIface (Or.inl rfl) rfl (by decide)).mono ?_
  rintro ev w' ⟨v, rfl, hown, hB⟩
  obtain ⟨a, cap, rfl⟩ := owned_shape hown
  exact ⟨a, cap, rfl, hB⟩
theorem names_nil (w : World) : Calls Tryd.prog 17 #[.nilIface] w fun ev w' => ∃ a cap, ev = .returned (.slice a 0 cap) ∧ Below w.heap.size w w' := by
  refine (names_chain w [] [] .nilIface .nilIface (Or.inl rfl) rfl (by decide)).mono ?_
  rintro ev w' ⟨v, rfl, hown, hB⟩
  obtain ⟨a, cap, rfl⟩ := owned_shape hown
  exact ⟨a, cap, rfl, hB⟩

/-- A number laid over a mask is within it. -/
theorem and_low (x : Int) (m : Nat) (hm : m < 4611686018427387904) : 0 ≤ bits .and .i64 x (m : Int) ∧ bits .and .i64 x (m : Int) ≤ (m : Int) := by
  have h1 : bits .and .i64 x (m : Int) = IntKind.i64.wrap (((BitVec.ofInt 64 x &&& BitVec.ofInt 64 (m : Int)).toNat : Nat) : Int) := rfl
  have h2 : (BitVec.ofInt 64 x &&& BitVec.ofInt 64 (m : Int)).toNat ≤ m := by
    rw [BitVec.toNat_and]
    refine Nat.le_trans Nat.and_le_right ?_
    rw [BitVec.toNat_ofInt]
    have : ((m : Int) % (2 ^ 64 : Nat)).toNat = m := by omega
    omega
  generalize (BitVec.ofInt 64 x &&& BitVec.ofInt 64 (m : Int)).toNat = z at h1 h2
  have h3 : IntKind.i64.wrap (z : Int) = z := by
    have h4 : (z : Int) % (2 ^ 64 : Int) = z := by omega
    simp only [IntKind.wrap, IntKind.bits, IntKind.signed, h4]
    rw [if_neg (by simp; omega)]
  rw [h1, h3]
  omega

set_option maxHeartbeats 1000000 in
theorem nils_calls (op nm : ByteArray) (d : Int) (w : World) (hg : GT w) :
    Calls Tryd.prog 4 #[.string op, .string nm, .int .i64 d] w fun ev w' => ev = .returned (.bool true) ∧ Below w.heap.size w w' := by
  go_enter Tryd.func4, Tryd.ntmps4
  have hd : bits .and .i64 d 15 ≤ 15 := (and_low d 15 (by decide)).2
  go_wp2_with (go_at_call 16; refine (new_ok _ _ _).mono ?_; rintro ev w ⟨rfl, rfl⟩)
  go_loopg [7, 8] 16 (fun k e i wr => e = .nilIface ∧ wr = w ∧ ∃ q : Int, i = .int .i64 q ∧ 0 ≤ q ∧ q ≤ 15 ∧ k = 16 - q.toNat)
  case atStart => exact ⟨rfl, rfl, 0, rfl, by omega, by omega, rfl⟩
  case round =>
    obtain ⟨rfl, rfl, q, rfl, hq0, hq1, hk⟩ := hrel
    replace hk := hidden hk
    by_cases hlt : q < bits .and .i64 d 15
    · go_wp2_with (go_at_call 10; refine (wrap_nil _ _ _).mono ?_; rintro ev w ⟨rfl, rfl⟩)
      go_roundg (16 - (q + 1).toNat)
      case measure => rw [hk.out]; omega
      case rel => exact ⟨rfl, rfl, _, rfl, by omega, by omega, rfl⟩
    · go_wp2_with fail
      refine (num_nil _).mono ?_
      rintro ev w ⟨rfl, rfl⟩
      go_wp2_with fail
      refine (text_nil _).mono ?_
      rintro ev w ⟨rfl, rfl⟩
      go_wp2_with fail
      refine (depth_nil _).mono ?_
      rintro ev w1 ⟨rfl, hB1⟩
      have hs1 := hB1.size
      go_wp2_with fail
      refine (ops_nil _).mono ?_
      rintro ev w2 ⟨a2, c2, rfl, hB2⟩
      replace hB2 := hB1.trans (hB2.mono hs1)
      have hs2 := hB2.size
      clear hB1 hs1
      go_wp2_with fail
      refine (names_nil _).mono ?_
      rintro ev w3 ⟨a3, c3, rfl, hB3⟩
      replace hB3 := hB2.trans (hB3.mono hs2)
      have hs3 := hB3.size
      clear hB2 hs2
      go_wp2_with fail
      refine (awake_calls w3 (hg.below hB3)).mono ?_
      rintro ev w4 ⟨rfl, hB4⟩
      replace hB4 := hB3.trans (hB4.mono hs3)
      go_wp2
      go_ret
      exact ⟨rfl, hB4⟩
end Go.Proofs.YtiaplgdplenedaaDoor
