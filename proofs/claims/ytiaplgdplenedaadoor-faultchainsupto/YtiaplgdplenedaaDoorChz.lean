/- FaultChains where there is no error: no Fault at all, or the number nought. -/
import Derived.Test.YtiaplgdplenedaaDoorTxs
namespace Go.Proofs.YtiaplgdplenedaaDoor
open Go.RowKit Go.Extern.Stop Go.Stop Go.Extern
set_option maxRecDepth 100000

set_option maxHeartbeats 2000000 in
theorem chain_zero (w : World) (a0 a1 : Option Addr) (c0 c1 k : Nat) (os ns : List ByteArray) (h0 : StrsAt w a0 os) (h1 : StrsAt w a1 ns) (hk : min (min os.length ns.length) 30 = k) (hkp : 0 < k) :
    Calls Tryd.prog 9 #[.slice a0 os.length c0, .slice a1 ns.length c1, .int .i64 0] w fun ev w' => ev = .returned .nilIface ∧ Below w.heap.size w w' := by
  have hm := Tryd.min3 _ _ k hk
  have hk0 : k ≤ os.length := by omega
  have hk1 : k ≤ ns.length := by omega
  have hk2 : k ≤ 30 := by omega
  rcases h0 with h0 | ⟨b0, o0, rfl, hb0, h0⟩
  · subst h0; simp at hk0; omega
  rcases h1 with h1 | ⟨b1, o1, rfl, hb1, h1⟩
  · subst h1; simp at hk1; omega
  obtain ⟨q, hq⟩ : ∃ q : Int, q + 1 = (k : Int) := ⟨(k : Int) - 1, by omega⟩
  have i0 : q.toNat = k - 1 := by omega
  obtain ⟨s0, hs0⟩ : ∃ s, os[k - 1]? = some s := ⟨_, List.getElem?_eq_getElem (by omega)⟩
  obtain ⟨s1, hs1⟩ : ∃ s, ns[k - 1]? = some s := ⟨_, List.getElem?_eq_getElem (by omega)⟩
  have e0 : w.cell? ⟨b0, o0 + q.toNat, none⟩ = some (.string s0) := by rw [i0]; exact h0 _ _ hs0
  have e1 : w.cell? ⟨b1, o1 + q.toNat, none⟩ = some (.string s1) := by rw [i0]; exact h1 _ _ hs1
  replace hs0 := hidden hs0
  replace hs1 := hidden hs1
  have q0 : q < (os.length : Int) := by omega
  have q1 : q < (ns.length : Int) := by omega
  have q2 : 0 ≤ q := by omega
  have q4 : q ≤ 29 := by omega
  have x1 : IntKind.i64.wrap q = q := wrap_small q (by omega) (by omega)
  have q3 : (q + 1 == 0) = false := by simp; omega
  rw [← hq] at hm
  replace h0 := hidden h0
  replace h1 := hidden h1
  replace hk := hidden hk
  replace hq := hidden hq
  clear i0
  go_enter Tryd.func9, Tryd.ntmps9
  go_wp2_with fail
  go_region_with (go_at_call 16; refine (new_ok _ _ _).mono ?_; rintro ev w' ⟨rfl, rfl⟩)
  all_goals go_wp2_with fail
  all_goals
    go_loopg [8, 9] (k - 1) (fun j e i wr => Below w.heap.size w wr ∧ e = .nilIface ∧ j ≤ k - 1 ∧ ∃ r : Int, i = .int .i64 r ∧ r + 1 = (j : Int))
    case atStart =>
      exact ⟨(Below.refl _ _).drew, rfl, Nat.le_refl _, _, rfl, by have := hq.out; omega⟩
    case round =>
      obtain ⟨hB, rfl, hjk, r, rfl, hr⟩ := hrel
      have hsz := hB.size
      by_cases hr0 : 0 ≤ r
      · obtain ⟨t0, ht0⟩ : ∃ s, os[gk - 1]? = some s := ⟨_, List.getElem?_eq_getElem (by omega)⟩
        obtain ⟨t1, ht1⟩ : ∃ s, ns[gk - 1]? = some s := ⟨_, List.getElem?_eq_getElem (by omega)⟩
        have j0 : r.toNat = gk - 1 := by omega
        have f0 : wr.cell? ⟨b0, o0 + r.toNat, none⟩ = some (.string t0) := (hB.cell (p := ⟨b0, o0 + r.toNat, none⟩) hb0).trans (by rw [j0]; exact h0.out _ _ ht0)
        have f1 : wr.cell? ⟨b1, o1 + r.toNat, none⟩ = some (.string t1) := (hB.cell (p := ⟨b1, o1 + r.toNat, none⟩) hb1).trans (by rw [j0]; exact h1.out _ _ ht1)
        have r0 : r < (os.length : Int) := by omega
        have r1 : r < (ns.length : Int) := by omega
        have r4 : r ≤ 29 := by omega
        have x3 : IntKind.i64.wrap r = r := wrap_small r (by omega) (by omega)
        replace hr := hidden hr
        clear e0 e1 ht0 ht1 j0
        go_wp2_with fail
        go_region_with (go_at_call 10; refine (wrap_nil _ _ _).mono ?_; rintro ev w' ⟨rfl, rfl⟩)
        all_goals go_wp2_with fail
        all_goals
          go_roundg (gk - 1)
          case measure => have := hr.out; omega
          case rel => exact ⟨hB.drew, rfl, by omega, _, rfl, by have := hr.out; omega⟩
      · have hr1 : r < 0 := by omega
        replace hr := hidden hr
        clear e0 e1
        go_wp2_with fail
        go_ret
        exact ⟨rfl, hB⟩

set_option maxHeartbeats 1000000 in
theorem chains_none (a0 a1 : Option Addr) (n0 n1 c0 c1 : Nat) (n : Int) (w : World) (hg : GT w) (hk : min (min n0 n1) 30 = 0) :
    Calls Tryd.prog 6 #[.slice a0 n0 c0, .slice a1 n1 c1, .int .i64 n] w fun ev w' => ev = .returned (.bool true) ∧ Below w.heap.size w w' := by
  have hm := Tryd.min3 n0 n1 0 hk
  have hC := hidden ((chain_none n w a0 a1 n0 n1 c0 c1 hk).mono (fun ev w' h => (show ev = .returned .nilIface ∧ Below w.heap.size w w' from ⟨h.1, by rw [h.2]; exact Below.refl _ _⟩)))
  replace hk := hidden hk
  go_enter Tryd.func6, Tryd.ntmps6
  go_wp2_with fail
  refine (hC.out).mono ?_
  rintro ev w1 ⟨rfl, hB1⟩
  have hs1 := hB1.size
  go_wp2_with fail
  refine (num_nil _).mono ?_
  rintro ev w1 ⟨rfl, rfl⟩
  go_wp2_with fail
  refine (depth_nil _).mono ?_
  rintro ev w2 ⟨rfl, hB2⟩
  replace hB2 := hB1.trans (hB2.mono hs1)
  have hs2 := hB2.size
  clear hB1 hs1
  go_wp2_with fail
  refine (text_nil _).mono ?_
  rintro ev w2 ⟨rfl, rfl⟩
  go_wp2_with fail
  refine (ops_nil _).mono ?_
  rintro ev w3 ⟨a3, c3, rfl, hB3⟩
  replace hB3 := hB2.trans (hB3.mono hs2)
  have hs3 := hB3.size
  clear hB2 hs2
  go_wp2_with fail
  refine (awake_calls w3 (hg.below hB3)).mono ?_
  rintro ev w4 ⟨rfl, hB4⟩
  replace hB4 := hB3.trans (hB4.mono hs3)
  go_wp2
  go_ret
  exact ⟨rfl, hB4⟩

set_option maxHeartbeats 1000000 in
theorem chains_zero (a0 a1 : Option Addr) (c0 c1 k : Nat) (os ns : List ByteArray) (w : World) (hg : GT w) (h0 : StrsAt w a0 os) (h1 : StrsAt w a1 ns) (hk : min (min os.length ns.length) 30 = k) (hkp : 0 < k) :
    Calls Tryd.prog 6 #[.slice a0 os.length c0, .slice a1 ns.length c1, .int .i64 0] w fun ev w' => ev = .returned (.bool true) ∧ Below w.heap.size w w' := by
  have hm := Tryd.min3 os.length ns.length k hk
  have hC := hidden (chain_zero w a0 a1 c0 c1 k os ns h0 h1 hk hkp)
  have hk30 : (k : Int) ≤ 30 := by omega
  have hkz : ((k : Int) == 0) = false := by simp; omega
  replace hk := hidden hk
  clear h0 h1
  go_enter Tryd.func6, Tryd.ntmps6
  go_wp2_with fail
  refine (hC.out).mono ?_
  rintro ev w1 ⟨rfl, hB1⟩
  have hs1 := hB1.size
  go_wp2_with fail
  refine (num_nil _).mono ?_
  rintro ev w1 ⟨rfl, rfl⟩
  go_wp2_with fail
  refine (depth_nil _).mono ?_
  rintro ev w2 ⟨rfl, hB2⟩
  replace hB2 := hB1.trans (hB2.mono hs1)
  have hs2 := hB2.size
  clear hB1 hs1
  go_wp2_with fail
  refine (text_nil _).mono ?_
  rintro ev w2 ⟨rfl, rfl⟩
  go_wp2_with fail
  refine (ops_nil _).mono ?_
  rintro ev w3 ⟨a3, c3, rfl, hB3⟩
  replace hB3 := hB2.trans (hB3.mono hs2)
  have hs3 := hB3.size
  clear hB2 hs2
  go_wp2_with fail
  refine (awake_calls w3 (hg.below hB3)).mono ?_
  rintro ev w4 ⟨rfl, hB4⟩
  replace hB4 := hB3.trans (hB4.mono hs3)
  go_wp2
  go_ret
  exact ⟨rfl, hB4⟩
end Go.Proofs.YtiaplgdplenedaaDoor
