/- FaultIs answers true, whatever it is given, and changes nothing that was there. -/
import Derived.Test.YtiaplgdplenedaaDoorRaw
namespace Go.Proofs.YtiaplgdplenedaaDoor
open Go.RowKit Go.Extern.Stop Go.Stop Go.Extern
set_option maxRecDepth 100000

set_option maxHeartbeats 1000000 in
theorem isl_zero (d m : Int) (w : World) (hg : GT w) :
    Calls Tryd.prog 7 #[.int .i64 d, .int .i64 0, .int .i64 m] w fun ev w' => ev = .returned (.bool true) ∧ Below w.heap.size w w' := by
  obtain ⟨h0, h1⟩ : 0 ≤ bits .and .i64 d 255 ∧ bits .and .i64 d 255 ≤ 255 := and_low d 255 (by decide)
  have hq0 : 1 ≤ bits .and .i64 d 255 % 30 + 1 := by omega
  have hq1 : bits .and .i64 d 255 % 30 + 1 ≤ 30 := by omega
  go_enter Tryd.func7, Tryd.ntmps7
  go_wp2_with (go_at_call 16; refine (new_ok _ _ _).mono ?_; rintro ev w ⟨rfl, rfl⟩)
  generalize bits .and .i64 d 255 % 30 + 1 = q at hq0 hq1 ⊢
  clear h0 h1
  go_loopg [7, 8] 29 (fun k e i wr => e = .nilIface ∧ wr = w ∧ ∃ j : Int, i = .int .i64 j ∧ 1 ≤ j ∧ j ≤ q ∧ k = 30 - j.toNat)
  case atStart => exact ⟨rfl, rfl, 1, rfl, by omega, hq0, rfl⟩
  case round =>
    obtain ⟨rfl, rfl, j, rfl, hj0, hj1, hk⟩ := hrel
    replace hk := hidden hk
    by_cases hlt : j < q
    · go_wp2_with (go_at_call 10; refine (wrap_nil _ _ _).mono ?_; rintro ev w ⟨rfl, rfl⟩)
      go_roundg (30 - (j + 1).toNat)
      case measure => rw [hk.out]; omega
      case rel => exact ⟨rfl, rfl, _, rfl, by omega, by omega, rfl⟩
    · go_wp2_with fail
      refine (depth_nil _).mono ?_
      rintro ev w1 ⟨rfl, hB1⟩
      have hs1 := hB1.size
      go_wp2_with fail
      refine (awake_calls w1 (hg.below hB1)).mono ?_
      rintro ev w2 ⟨rfl, hB2⟩
      replace hB2 := hB1.trans (hB2.mono hs1)
      go_wp2
      go_ret
      exact ⟨rfl, hB2⟩

set_option maxHeartbeats 2000000 in
theorem isl_some (d n m : Int) (w : World) (hg : GT w) (hn : (n == 0) = false) :
    Calls Tryd.prog 7 #[.int .i64 d, .int .i64 n, .int .i64 m] w fun ev w' => ev = .returned (.bool true) ∧ Below w.heap.size w w' := by
  obtain ⟨h0, h1⟩ : 0 ≤ bits .and .i64 d 255 ∧ bits .and .i64 d 255 ≤ 255 := and_low d 255 (by decide)
  have hq0 : 1 ≤ bits .and .i64 d 255 % 30 + 1 := by omega
  have hq1 : bits .and .i64 d 255 % 30 + 1 ≤ 30 := by omega
  have hC0 : Chain (w.alloc (fcells ⟨#[97]⟩ ⟨#[48]⟩ (num n))) [(⟨#[97]⟩, ⟨#[48]⟩)] (num n) (flt w.heap.size) := Chain.alloc (w := w) (l := []) (bot := num n) (e := num n) _ _ rfl
  replace hC0 := hidden hC0
  go_enter Tryd.func7, Tryd.ntmps7
  go_wp2_with (go_at_call 16; refine (new_num _ _ n _ hn).mono ?_; rintro ev w' ⟨rfl, rfl⟩)
  generalize bits .and .i64 d 255 % 30 + 1 = q at hq0 hq1 ⊢
  clear h0 h1
  go_loopg [7, 8] 29 (fun k e i wr => Below w.heap.size w wr ∧ ∃ l, Chain wr l (num n) e ∧ (∃ j : Int, i = .int .i64 j ∧ j = (l.length : Int)) ∧ 1 ≤ l.length ∧ (l.length : Int) ≤ q ∧ k = 30 - l.length)
  case atStart => exact ⟨(Below.refl _ _).alloc (Nat.le_refl _) _, _, hC0.out, ⟨1, rfl, rfl⟩, by simp, by simpa using hq0, by simp⟩
  case round =>
    obtain ⟨hB, l, hch, ⟨j, rfl, hj⟩, hl1, hl2, hk⟩ := hrel
    obtain ⟨u, v, rfl⟩ := hch.held (Or.inr ⟨_, _, rfl⟩)
    replace hk := hidden hk
    have hj0 : 0 ≤ j := by omega
    have hsz := hB.size
    have hjH := hidden hj
    by_cases hlt : j < q
    · have hC1 := hidden (hch.alloc ⟨#[98]⟩ ⟨#[49]⟩)
      clear hj hch hC0
      go_wp2_with (go_at_call 10; refine (wrap_some _ _ _ _ _).mono ?_; rintro ev w' ⟨rfl, rfl⟩)
      go_roundg (30 - (l.length + 1))
      case measure => rw [hk.out]; have := hjH.out; omega
      case rel =>
        have := hjH.out
        exact ⟨hB.alloc hsz _, _, hC1.out, ⟨_, rfl, by simp; omega⟩, by simp, by simp; omega, by simp⟩
    · have hqn : q = (l.length : Int) := by omega
      have hgr := hidden (hg.below hB)
      cases l with
      | nil => simp at hl1
      | cons p r =>
        obtain ⟨op, nm⟩ := p
        have hr : r.length ≤ 29 := by have : (((op, nm) :: r).length : Int) = r.length + 1 := by simp
                                      omega
        have hch' := hidden hch
        obtain ⟨b, e', he, hb, -, -, -, h2, hch2⟩ := hch
        simp only [Value.iface.injEq] at he
        obtain ⟨rfl, rfl⟩ := he
        have hqr : q = (r.length : Int) + 1 := by rw [hqn]; simp
        have hq2 : q - 1 = (r.length : Int) := by omega
        have kI : ∀ z : Int, Calls Tryd.prog 20 #[flt b, num z] wr fun ev w' => ev = .returned (.bool (n == z)) ∧ w' = wr := fun z => is_chain n z wr _ _ hch'.out
        have kM := hidden (num_chain n wr _ _ hch'.out (by simp; omega) hgr.out)
        have kD : ∀ w1, Below wr.heap.size wr w1 → Calls Tryd.prog 15 #[flt b] w1 fun ev w' => ev = .returned (.int .i64 q) ∧ Below w1.heap.size w1 w' := fun w1 h1 => by
          have h := depth_chain n w1 _ _ (hch'.out.below h1) (by simp; omega)
          rw [← hqn] at h
          exact h
        have kU : ∀ w1, Below wr.heap.size wr w1 → Calls Tryd.prog 21 #[flt b] w1 fun ev w' => ev = .returned e' ∧ w' = w1 := fun w1 h1 => unwrap_fault b e' w1 ((h1.cell (p := ⟨b, 2, none⟩) hb).trans h2)
        have kE : ∀ w1, Below wr.heap.size wr w1 → Calls Tryd.prog 15 #[e'] w1 fun ev w' => ev = .returned (.int .i64 (q - 1)) ∧ Below w1.heap.size w1 w' := fun w1 h1 => by
          have h := depth_chain n w1 _ _ (hch2.below h1) (by omega)
          rw [← hq2] at h
          exact h
        replace kI := hidden kI
        replace kD := hidden kD
        replace kU := hidden kU
        replace kE := hidden kE
        clear hj hC0 hch2 h2 hqr hq2 hqn hch' hl1 hl2 hb hr
        go_wp2_with fail
        refine (kI.out n).mono ?_
        rintro ev wr ⟨rfl, rfl⟩
        go_wp2_with fail
        refine (kI.out m).mono ?_
        rintro ev wr ⟨rfl, rfl⟩
        go_wp2_with fail
        refine (kM.out).mono ?_
        rintro ev w1 ⟨rfl, hB1⟩
        have hs1 := hB1.size
        go_wp2_with fail
        refine (kD.out _ hB1).mono ?_
        rintro ev w2 ⟨rfl, hB2⟩
        replace hB2 := hB1.trans (hB2.mono hs1)
        have hs2 := hB2.size
        clear hB1 hs1
        go_wp2_with fail
        refine (kU.out _ hB2).mono ?_
        rintro ev w2 ⟨rfl, rfl⟩
        go_wp2_with fail
        refine (kE.out _ hB2).mono ?_
        rintro ev w3 ⟨rfl, hB3⟩
        replace hB3 := hB2.trans (hB3.mono hs2)
        have hs3 := hB3.size
        clear hB2 hs2
        go_wp2_with fail
        refine (awake_calls w3 (hgr.out.below hB3)).mono ?_
        rintro ev w4 ⟨rfl, hB4⟩
        replace hB4 := hB3.trans (hB4.mono hs3)
        go_wp2
        go_ret
        exact ⟨rfl, hB.trans (hB4.mono hsz)⟩
theorem isl_calls (d n m : Int) (w : World) (hg : GT w) :
    Calls Tryd.prog 7 #[.int .i64 d, .int .i64 n, .int .i64 m] w fun ev w' => ev = .returned (.bool true) ∧ Below w.heap.size w w' := by
  cases hn : (n == 0) with
  | true =>
    obtain rfl : n = 0 := by simpa using hn
    exact isl_zero d m w hg
  | false => exact isl_some d n m w hg hn
end Go.Proofs.YtiaplgdplenedaaDoor
