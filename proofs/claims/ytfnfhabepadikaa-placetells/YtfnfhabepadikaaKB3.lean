/- Two lists of numbers, two lists of ranges: are they the same? -/
import Derived.Test.YtfnfhabepadikaaKB1
namespace Go.Proofs.Ytfnfhabepadikaa
open Go Go.RowKit
set_option maxRecDepth 100000

theorem list_same {α : Type} [DecidableEq α] {A B : List α} (hl : A.length = B.length) (h : ∀ (j : Nat) x y, A[j]? = some x → B[j]? = some y → x = y) : A = B := by
  apply List.ext_getElem? ; intro j
  rcases Nat.lt_or_ge j A.length with hj | hj
  · rw [List.getElem?_eq_getElem hj, List.getElem?_eq_getElem (by omega)]
    exact congrArg some (h j _ _ (List.getElem?_eq_getElem hj) (List.getElem?_eq_getElem (by omega)))
  · rw [List.getElem?_eq_none hj, List.getElem?_eq_none (by omega)]
set_option maxHeartbeats 2000000 in
theorem ints_calls (A B : List Int) (w : World) (v u : Value) (hv : IntAt w v A) (hu : IntAt w u B) (hl : A.length ≤ 100000) (hl2 : B.length ≤ 100000) : Calls Try.prog 21 #[v, u] w fun e w' => e = .returned (.bool (decide (A = B))) ∧ Below w.heap.size w w' := by
  obtain ⟨a0, cap, rfl, hcap, hc⟩ := hv
  obtain ⟨a1, cap1, rfl, hcap1, hd⟩ := hu
  replace hc := hidden hc
  replace hd := hidden hd
  by_cases hne : A.length = B.length
  rotate_left
  · have hR := hidden (show decide (A = B) = false from decide_eq_false (fun h => hne (by rw [h])))
    have hne' : ¬ (A.length : Int) = (B.length : Int) := by omega
    clear hc hd
    go_enter Try.func21, Try.ntmps21
    go_wp2
    go_ret
    rw [hR.out]
    exact ⟨rfl, Below.refl _ _⟩
  have hAB := hidden hne
  go_enter Try.func21, Try.ntmps21
  rw [← hne]
  clear hne
  go_wp2_with fail
  go_loopg [5] A.length (fun g si wr => ∃ k : Nat, k ≤ A.length ∧ g = A.length - k ∧ si = .int .i64 (k : Int) ∧ Hid ((∀ (j : Nat) x y, j < k → A[j]? = some x → B[j]? = some y → x = y) ∧ Below w.heap.size w wr))
  case atStart => exact ⟨0, Nat.zero_le _, rfl, rfl, hidden ⟨fun j x y h => by omega, Below.refl _ _⟩⟩
  case round =>
    obtain ⟨k, hk, hg, rfl, hI⟩ := hrel
    obtain ⟨hF, hB⟩ := hI.out
    replace hg := hidden hg
    by_cases hlt : k < A.length
    · have hlt' : (k : Int) < (A.length : Int) := by omega
      obtain ⟨b, off, rfl, hbl, hx⟩ := hc.out (by rintro rfl; simp at hlt)
      obtain ⟨b1, off1, rfl, hbl1, hx1⟩ := hd.out (by have := hAB.out; rintro rfl; simp at this; simp [this] at hlt)
      obtain ⟨x, hget⟩ : ∃ t, A[k]? = some t := ⟨_, List.getElem?_eq_getElem hlt⟩
      obtain ⟨y, hget1⟩ : ∃ t, B[k]? = some t := ⟨_, List.getElem?_eq_getElem (by have := hAB.out; omega)⟩
      have f0 := (hB.cell (p := ⟨b, off + k, none⟩) hbl).trans (hx k _ hget)
      have f1 := (hB.cell (p := ⟨b1, off1 + k, none⟩) hbl1).trans (hx1 k _ hget1)
      have hBq := hidden (fun nq => hB.trans ((bdN wr nq).mono hB.size))
      by_cases hxy : x = y
      · have hF2 := hidden (show ∀ (j : Nat) x y, j < k + 1 → A[j]? = some x → B[j]? = some y → x = y from fun j x' y' hj h1 h2 => by
          rcases Nat.lt_or_eq_of_le (Nat.le_of_lt_succ hj) with hj | rfl
          · exact hF j x' y' hj h1 h2
          · rw [hget] at h1; rw [hget1] at h2; cases h1; cases h2; exact hxy)
        clear hx hx1 hI hF hB
        subst hxy
        go_upto_region 6 with fail
        go_quiet (fail)
        have hB2 := hidden (hBq.out nq)
        clear f0 f1
        generalize wr.drewN nq = w4 at hB2 ⊢
        go_wp2
        go_roundg (A.length - (k + 1))
        case measure => rw [hg.out]; omega
        case rel => exact ⟨k + 1, hlt, rfl, by go_num, hidden ⟨hF2.out, hB2.out⟩⟩
      · have hR := hidden (show decide (A = B) = false from decide_eq_false (fun h => hxy (by rw [h, hget1] at hget; exact (Option.some.inj hget).symm)))
        clear hx hx1 hI hF hB
        go_upto_region 6 with fail
        go_quiet (fail)
        have hB2 := hidden (hBq.out nq)
        clear f0 f1
        generalize wr.drewN nq = w4 at hB2 ⊢
        go_wp2
        go_ret
        rw [hR.out]
        exact ⟨rfl, hB2.out⟩
    · obtain rfl : k = A.length := by omega
      have hE := hidden (show decide (A = B) = true from decide_eq_true (list_same hAB.out fun j x y h1 h2 => hF j x y (List.getElem?_eq_some_iff.1 h1).1 h1 h2))
      replace hB := hidden hB
      clear hI hF
      go_wp2
      go_ret
      rw [hE.out]
      exact ⟨rfl, hB.out⟩
set_option maxHeartbeats 2000000 in
theorem same_calls (A B : List Rg) (w : World) (v u : Value) (hv : RgAt w v A) (hu : RgAt w u B) (hl : A.length ≤ 100000) (hl2 : B.length ≤ 100000) : Calls Try.prog 15 #[v, u] w fun e w' => e = .returned (.bool (decide (A = B))) ∧ Below w.heap.size w w' := by
  obtain ⟨a0, cap, rfl, hcap, hc⟩ := hv
  obtain ⟨a1, cap1, rfl, hcap1, hd⟩ := hu
  replace hc := hidden hc
  replace hd := hidden hd
  by_cases hne : A.length = B.length
  rotate_left
  · have hR := hidden (show decide (A = B) = false from decide_eq_false (fun h => hne (by rw [h])))
    have hne' : ¬ (A.length : Int) = (B.length : Int) := by omega
    clear hc hd
    go_enter Try.func15, Try.ntmps15
    go_wp2
    go_ret
    rw [hR.out]
    exact ⟨rfl, Below.refl _ _⟩
  have hAB := hidden hne
  go_enter Try.func15, Try.ntmps15
  rw [← hne]
  clear hne
  go_wp2_with fail
  go_loopg [5] A.length (fun g si wr => ∃ k : Nat, k ≤ A.length ∧ g = A.length - k ∧ si = .int .i64 (k : Int) ∧ Hid ((∀ (j : Nat) x y, j < k → A[j]? = some x → B[j]? = some y → x = y) ∧ Below w.heap.size w wr))
  case atStart => exact ⟨0, Nat.zero_le _, rfl, rfl, hidden ⟨fun j x y h => by omega, Below.refl _ _⟩⟩
  case round =>
    obtain ⟨k, hk, hg, rfl, hI⟩ := hrel
    obtain ⟨hF, hB⟩ := hI.out
    replace hg := hidden hg
    by_cases hlt : k < A.length
    · have hlt' : (k : Int) < (A.length : Int) := by omega
      obtain ⟨b, off, rfl, hbl, hx⟩ := hc.out (by rintro rfl; simp at hlt)
      obtain ⟨b1, off1, rfl, hbl1, hx1⟩ := hd.out (by have := hAB.out; rintro rfl; simp at this; simp [this] at hlt)
      obtain ⟨⟨x, x'⟩, hget⟩ : ∃ t, A[k]? = some t := ⟨_, List.getElem?_eq_getElem hlt⟩
      obtain ⟨⟨y, y'⟩, hget1⟩ : ∃ t, B[k]? = some t := ⟨_, List.getElem?_eq_getElem (by have := hAB.out; omega)⟩
      obtain ⟨d0, d1⟩ := hx k _ hget
      obtain ⟨e0, e1⟩ := hx1 k _ hget1
      have f0 := (hB.cell (p := ⟨b, off + k * 2, none⟩) hbl).trans d0
      have f1 := (hB.cell (p := ⟨b, off + k * 2 + 1, none⟩) hbl).trans d1
      have g0 := (hB.cell (p := ⟨b1, off1 + k * 2, none⟩) hbl1).trans e0
      have g1 := (hB.cell (p := ⟨b1, off1 + k * 2 + 1, none⟩) hbl1).trans e1
      dsimp only at f0 f1 g0 g1
      have hBq := hidden (fun nq => hB.trans ((bdN wr nq).mono hB.size))
      by_cases hxy : (x, x') = (y, y')
      · have hF2 := hidden (show ∀ (j : Nat) x y, j < k + 1 → A[j]? = some x → B[j]? = some y → x = y from fun j s t hj h1 h2 => by
          rcases Nat.lt_or_eq_of_le (Nat.le_of_lt_succ hj) with hj | rfl
          · exact hF j s t hj h1 h2
          · rw [hget] at h1; rw [hget1] at h2; cases h1; cases h2; exact hxy)
        clear hx hx1 hI hF hB d0 d1 e0 e1
        obtain ⟨rfl, rfl⟩ := Prod.mk.inj hxy
        go_upto_region 6 with fail
        go_quiet (fail)
        have hB2 := hidden (hBq.out nq)
        clear f0 f1 g0 g1
        generalize wr.drewN nq = w4 at hB2 ⊢
        go_wp2
        go_roundg (A.length - (k + 1))
        case measure => rw [hg.out]; omega
        case rel => exact ⟨k + 1, hlt, rfl, by go_num, hidden ⟨hF2.out, hB2.out⟩⟩
      · have hR := hidden (show decide (A = B) = false from decide_eq_false (fun h => hxy (by rw [h, hget1] at hget; exact (Option.some.inj hget).symm)))
        clear hx hx1 hI hF hB d0 d1 e0 e1
        by_cases h1 : x = y
        · subst h1
          have h2 : ¬ x' = y' := fun h => hxy (by rw [h])
          go_upto_region 6 with fail
          go_quiet (fail)
          have hB2 := hidden (hBq.out nq)
          clear f0 f1 g0 g1
          generalize wr.drewN nq = w4 at hB2 ⊢
          go_wp2
          go_ret
          rw [hR.out]
          exact ⟨rfl, hB2.out⟩
        · go_upto_region 6 with fail
          go_quiet (fail)
          have hB2 := hidden (hBq.out nq)
          clear f0 f1 g0 g1
          generalize wr.drewN nq = w4 at hB2 ⊢
          go_wp2
          go_ret
          rw [hR.out]
          exact ⟨rfl, hB2.out⟩
    · obtain rfl : k = A.length := by omega
      have hE := hidden (show decide (A = B) = true from decide_eq_true (list_same hAB.out fun j x y h1 h2 => hF j x y (List.getElem?_eq_some_iff.1 h1).1 h1 h2))
      replace hB := hidden hB
      clear hI hF
      go_wp2
      go_ret
      rw [hE.out]
      exact ⟨rfl, hB.out⟩
end Go.Proofs.Ytfnfhabepadikaa
