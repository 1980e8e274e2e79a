/- AllocFills, walked. -/
import Derived.Test.YtildpgingcmfcaaDoorAm9
namespace Go.Proofs.YtildpgingcmfcaaDoor
open Go.RowKit Go.Extern.Stop Go.Stop Go.Extern Go.Shelf
set_option maxRecDepth 100000

/-- Which are still taken when i were given back from at0 on, round about. -/
def leftS (N at0 i : Nat) : Nat → Bool := fun j => decide (∀ q, q < i → (at0 + q) % N ≠ j)
theorem leftS_zero (N at0 j : Nat) : leftS N at0 0 j = true := by unfold leftS; simp
theorem leftS_at {N at0 i : Nat} (hi : i < N) : leftS N at0 i ((at0 + i) % N) = true := by
  unfold leftS
  simp only [decide_eq_true_eq]
  intro q hq e
  have h1 : (at0 + q) / N * N + (at0 + q) % N = at0 + q := Nat.div_add_mod' _ _
  have h2 : (at0 + i) / N * N + (at0 + i) % N = at0 + i := Nat.div_add_mod' _ _
  have h3 : (at0 + q) / N ≤ (at0 + i) / N := Nat.div_le_div_right (by omega)
  rcases Nat.lt_or_ge ((at0 + q) / N) ((at0 + i) / N) with h | h
  · have h4 : ((at0 + q) / N + 1) * N ≤ (at0 + i) / N * N := Nat.mul_le_mul_right _ h
    rw [Nat.add_mul] at h4
    omega
  · have : (at0 + q) / N = (at0 + i) / N := by omega
    rw [this] at h1
    omega
theorem leftS_succ (N at0 i : Nat) : setS (leftS N at0 i) ((at0 + i) % N) false = leftS N at0 (i + 1) := by
  funext j
  unfold setS leftS
  by_cases e : j = (at0 + i) % N
  · rw [if_pos e]
    symm
    rw [decide_eq_false_iff_not]
    intro h
    exact h i (by omega) e.symm
  · rw [if_neg e]
    apply Bool.eq_iff_iff.2
    simp only [decide_eq_true_eq]
    constructor
    · intro h q hq
      rcases Nat.lt_succ_iff_lt_or_eq.1 hq with h' | rfl
      · exact h q h'
      · exact fun x => e x.symm
    · intro h q hq
      exact h q (by omega)
theorem leftS_all {N at0 : Nat} (hN : 0 < N) (j : Nat) (hj : j < N) : leftS N at0 N j = false := by
  unfold leftS
  rw [decide_eq_false_iff_not]
  intro h
  have key : ∃ q, q < N ∧ (at0 + q) % N = j := by
    have ha := Nat.mod_lt at0 hN
    rcases Nat.lt_or_ge j (at0 % N) with h1 | h1
    · refine ⟨N + j - at0 % N, by omega, ?_⟩
      have : at0 + (N + j - at0 % N) = j + N * (at0 / N + 1) := by
        have := Nat.div_add_mod at0 N
        rw [Nat.mul_add]
        omega
      rw [this, Nat.add_mul_mod_self_left, Nat.mod_eq_of_lt hj]
    · refine ⟨j - at0 % N, by omega, ?_⟩
      have : at0 + (j - at0 % N) = j + N * (at0 / N) := by
        have := Nat.div_add_mod at0 N
        omega
      rw [this, Nat.add_mul_mod_self_left, Nat.mod_eq_of_lt hj]
  obtain ⟨q, hq, e⟩ := key
  exact h q hq e
set_option maxHeartbeats 4000000 in
theorem allocFills_calls (n step : Int) (w : World) (hG : Ground w) (hGT : GT w) :
    Calls Tryd.prog 5 #[.int .i64 n, .int .i64 step] w fun e w' => e = .returned (.bool true) ∧ Below w.heap.size w w' := by
  have hmd := hidden (made7_calls w hG)
  have kA := hidden (fun (wx : World) (hx : Below w.heap.size w wx) => awake7_calls wx (hG.below hx))
  have kI := hidden (fun (wx : World) (hx : Below w.heap.size w wx) (b : Nat) (hc : Chain wx [(sAlloc, sNone)] (num 15) (flt b)) => law_is 15 (by decide) wx sAlloc sNone [] (flt b) hc (hGT.below hx))
  clear hG hGT
  obtain ⟨m, hm, hm2⟩ : ∃ m : Nat, bits .and .i64 n 511 = (m : Int) ∧ m ≤ 511 := by
    have : 0 ≤ bits .and .i64 n 511 ∧ bits .and .i64 n 511 ≤ 511 := and_low n 511 (by omega)
    exact ⟨(bits .and .i64 n 511).toNat, by have := this.1; omega, by omega⟩
  obtain ⟨s, hs, hs2⟩ : ∃ s : Nat, bits .and .i64 step 255 = (s : Int) ∧ s ≤ 255 := by
    have : 0 ≤ bits .and .i64 step 255 ∧ bits .and .i64 step 255 ≤ 255 := and_low step 255 (by omega)
    exact ⟨(bits .and .i64 step 255).toNat, by have := this.1; omega, by omega⟩
  obtain ⟨N, hN, hN1, hN2⟩ : ∃ N : Nat, (m : Int) % 300 + 1 = (N : Int) ∧ 1 ≤ N ∧ N ≤ 300 := ⟨m % 300 + 1, by omega, by omega, by omega⟩
  have hmk := fun wx => make_bools N (by omega) wx
  have hSn := hidden (fun (wx : World) => show SeenAt wx.heap.size N (firstS 0) (wx.alloc (.cells (madeCells (Value.bool false).cells (N * 1)) 4)) from ⟨fun i hi => by
    rw [cells_new]; simp [madeCells, Value.cells, hi, Nat.mod_one, firstS], fun i _ => by simp⟩)
  generalize madeCells (Value.bool false).cells (N * 1) = cs at hmk hSn
  go_enter Tryd.func5, Tryd.ntmps5
  go_wp2_with fail
  refine (hmd.out).mono ?_
  rintro ev w1 ⟨jb, cb, mb, rfl, hC1⟩
  have hNw := hidden (ast_new hC1 0 1000 N hN1 (by omega) (by omega) (by omega))
  clear hmd hC1
  go_wp2_with fail
  refine (hNw.out).mono ?_
  rintro ev w2 ⟨rfl, hA2, hB2⟩
  have hD2 : DSt w (w.heap.size + 1) w.heap.size jb cb mb w1.heap.size w2.heap.size 0 1000 N (firstS 0) (firstS 0) (w2.alloc (.cells cs 4)) := by
    have hB3 : Below w2.heap.size w2 (w2.alloc (.cells cs 4)) := (Below.refl _ _).alloc (Nat.le_refl _) _
    exact ⟨(hA2.more hB3).congr (fun i _ => by simp [firstS]), hSn.out w2, hA2.lts⟩
  have hz2 := hA2.lts
  replace hD2 := hidden hD2
  generalize w1.heap.size = ab at hD2 ⊢
  clear hNw hA2 hB2 hSn hz2
  generalize hd : w.heap.size + 1 = d at hD2 ⊢
  clear hd
  go_wp2_with fail
  go_loopg [10] (N + 1) (fun gk q wr => ∃ i : Nat, i ≤ N ∧ gk = N + 1 - i ∧ q = .int .i64 i ∧ Hid (DSt w d w.heap.size jb cb mb ab w2.heap.size 0 1000 N (firstS i) (firstS i) wr))
  case atStart => exact ⟨0, by omega, rfl, rfl, hD2⟩
  case round =>
    obtain ⟨i, hi, hgk, rfl, hI⟩ := hrel
    replace hgk := hidden hgk
    clear hD2
    by_cases hlt : i < N
    · have hT := hidden (hI.out.take i hlt (by simp [firstS]) (fun j hj => by simp [firstS]; omega))
      go_wp2_with fail
      refine (hT.out).mono ?_
      rintro ev w3 ⟨rfl, hI3⟩
      have hc := hI3.s.cell i hlt
      have hf := hI3.s.free i hlt
      have hfi : firstS i i = false := by simp [firstS]
      rw [hfi] at hc
      replace hI3 := hidden hI3
      clear hT hI
      go_wp2
      go_roundg (N + 1 - (i + 1))
      case measure => rw [hgk.out]; omega
      case rel =>
        refine ⟨i + 1, hlt, rfl, by go_num, hidden ?_⟩
        have := hI3.out.put i hlt true
        rw [firstS_succ] at this
        exact this
    · obtain rfl : i = N := by omega
      have hF := hidden (hI.out.a.full (fun j hj => by simp [firstS]; exact hj))
      go_wp2_with fail
      refine (hF.out).mono ?_
      rintro ev w3 ⟨b3, rfl, hc3, hB3⟩
      have hI3 := hI.out.more hB3
      have hIs := hidden (kI.out w3 hI3.a.below b3 hc3)
      replace hI3 := hidden hI3
      clear hF hI hc3 hB3
      go_wp2_with fail
      refine (hIs.out).mono ?_
      rintro ev w4 ⟨rfl, hB4⟩
      have hI4 := hidden (show ASt w d w.heap.size jb cb mb ab 0 1000 i (leftS i (s % i) 0) w4 from (hI3.out.more hB4).a.congr (fun j hj => by rw [leftS_zero]; simp [firstS]; exact hj))
      clear hIs hI3 hB4
      have hsi : (s : Int) % (i : Int) = ((s % i : Nat) : Int) := by omega
      have hne : ¬ (i : Int) = 0 := by omega
      generalize hat0 : s % i = at0 at hI4 hsi
      have hat1 : at0 < i := by rw [← hat0]; exact Nat.mod_lt _ (by omega)
      clear hat0
      go_wp2_with fail
      simp only [hsi]
      clear hsi
      go_loopg [16] (i + 1) (fun gk2 q wr2 => ∃ r : Nat, r ≤ i ∧ gk2 = i + 1 - r ∧ q = .int .i64 r ∧ Hid (ASt w d w.heap.size jb cb mb ab 0 1000 i (leftS i at0 r) wr2))
      case atStart => exact ⟨0, by omega, rfl, rfl, hI4⟩
      case round =>
        obtain ⟨r, hr, hgk2, rfl, hJ⟩ := hrel
        replace hgk2 := hidden hgk2
        clear hI4
        by_cases hrl : r < i
        · have hmod : ((at0 : Int) + (r : Int)) % (i : Int) = (((at0 + r) % i : Nat) : Int) := by simp
          have hG := hidden (hJ.out.give ((at0 + r) % i) (Nat.mod_lt _ (by omega)) (1000 + (((at0 + r) % i : Nat) : Int)) (by omega) (leftS_at hrl))
          have hml : (at0 + r) % i < i := Nat.mod_lt _ (by omega)
          have hls := hidden (leftS_succ i at0 r)
          generalize (at0 + r) % i = z at hmod hG hml hls
          go_wp2_with fail
          refine (hG.out).mono ?_
          rintro ev w5 ⟨rfl, hJ5, -⟩
          rw [hls.out] at hJ5
          replace hJ5 := hidden hJ5
          clear hG hJ
          go_wp2
          go_roundg (i + 1 - (r + 1))
          case measure => rw [hgk2.out]; omega
          case rel => exact ⟨r + 1, hrl, rfl, by go_num, hJ5⟩
        · obtain rfl : r = i := by omega
          have hC := hJ.out.count
          rw [freeN_all _ r (fun j hj => leftS_all (by omega) j hj)] at hC
          replace hC := hidden hC
          go_wp2_with fail
          refine (hC.out).mono ?_
          rintro ev w5 ⟨rfl, hB5⟩
          have hB05 := hJ.out.below.trans (hB5.mono hJ.out.below.size)
          have hA := hidden (kA.out w5 hB05)
          replace hB05 := hidden hB05
          clear hC hJ hB5
          go_wp2_with fail
          refine (hA.out).mono ?_
          rintro ev w6 ⟨rfl, hB6⟩
          have hE := hidden (hB05.out.trans (hB6.mono hB05.out.size))
          clear hA hB6
          go_wp2
          go_ret
          exact ⟨rfl, hE.out⟩
end Go.Proofs.YtildpgingcmfcaaDoor
