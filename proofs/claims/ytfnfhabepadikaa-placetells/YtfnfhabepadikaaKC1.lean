/- The document's own Ok and up. -/
import Derived.Test.YtfnfhabepadikaaKD
import Derived.Test.YtfnfhabepadikaaKC0
namespace Go.Proofs.Ytfnfhabepadikaa
open Go Go.RowKit
set_option maxRecDepth 100000

set_option maxHeartbeats 2000000 in
theorem rok_calls (L : List Rg) (w : World) (v : Value) (hv : RgAt w v L) (hl : L.length ≤ 100000) : Calls Try.prog 14 #[v] w fun e w' => e = .returned (.bool (okB L)) ∧ Below w.heap.size w w' := by
  obtain ⟨R, hR⟩ : ∃ R, okB L = R := ⟨_, rfl⟩
  have hiff := okB_iff L
  rw [hR] at hiff ⊢
  replace hiff := hidden hiff
  replace hR := hidden hR
  obtain ⟨a0, cap, rfl, hcap, hc⟩ := hv
  replace hc := hidden hc
  by_cases h32 : 32 < L.length
  · have h32' : (32 : Int) < (L.length : Int) := by omega
    have hE : R = false := by
      cases R
      · rfl
      · have := (hiff.out.1 rfl).1; omega
    subst hE
    go_enter Try.func14, Try.ntmps14
    go_wp2
    go_ret
    exact ⟨rfl, Below.refl _ _⟩
  have h32' : ¬ (32 : Int) < (L.length : Int) := by omega
  go_enter Try.func14, Try.ntmps14
  go_wp2_with fail
  go_loopg [3] L.length (fun g si wr => ∃ k : Nat, k ≤ L.length ∧ g = L.length - k ∧ si = .int .i64 (k : Int) ∧ Hid ((∀ j a, j < k → L[j]? = some a → OkR a) ∧ Below w.heap.size w wr))
  case atStart => exact ⟨0, Nat.zero_le _, rfl, rfl, hidden ⟨fun j a h => by omega, Below.refl _ _⟩⟩
  case round =>
    obtain ⟨k, hk, hg, rfl, hI⟩ := hrel
    obtain ⟨hF, hB⟩ := hI.out
    replace hg := hidden hg
    rename World => wr
    by_cases hlt : k < L.length
    · have hlt' : (k : Int) < (L.length : Int) := by omega
      obtain ⟨b, off, rfl, hbl, hx⟩ := hc.out (by rintro rfl; simp at hlt)
      obtain ⟨⟨x, y⟩, hget⟩ : ∃ t, L[k]? = some t := ⟨_, List.getElem?_eq_getElem hlt⟩
      obtain ⟨d0, d1⟩ := hx k _ hget
      have f0 := (hB.cell (p := ⟨b, off + k * 2, none⟩) hbl).trans d0
      have f1 := (hB.cell (p := ⟨b, off + k * 2 + 1, none⟩) hbl).trans d1
      dsimp only at f0 f1
      obtain ⟨q, hq⟩ : ∃ q : Bool, decide (¬ (0 ≤ x ∧ x ≤ y ∧ y ≤ 1073741824)) = q := ⟨_, rfl⟩
      replace hq := hidden hq
      replace hF := hidden hF
      have hB2 := hidden (fun n => hB.trans ((bdN wr n).mono hB.size))
      clear d0 d1 hx hI hc hB
      go_upto_region 6 with fail
      go_cut [39] from 13 to 39 (fun v wx => v = .bool q ∧ ∃ nq, wx = wr.drewN nq)
      case first =>
        by_cases h1 : x < 0
        · go_quiet (fail)
          go_wp2
          go_meet
          case rel => exact ⟨by rw [← hq.out, decide_eq_true (by omega)], _, rfl⟩
        · by_cases h2 : y < x
          · go_quiet (fail)
            go_wp2
            go_meet
            case rel => exact ⟨by rw [← hq.out, decide_eq_true (by omega)], _, rfl⟩
          · by_cases h3 : 1073741824 < y
            · go_quiet (fail)
              go_wp2
              go_meet
              case rel => exact ⟨by rw [← hq.out, decide_eq_true (by omega)], _, rfl⟩
            · go_quiet (fail)
              go_wp2
              go_meet
              case rel => exact ⟨by rw [← hq.out, decide_eq_false (by omega)], _, rfl⟩
      case rest =>
        obtain ⟨rfl, nq, rfl⟩ := hcut
        have hB3 := hidden (hB2.out nq)
        generalize wr.drewN nq = w3 at hB3 ⊢
        clear hB2 f0 f1
        cases q
        · have hok : 0 ≤ x ∧ x ≤ y ∧ y ≤ 1073741824 := Decidable.of_not_not (of_decide_eq_false hq.out)
          have hE := hidden (show ∀ j a, j < k + 1 → L[j]? = some a → OkR a from fun j a hj hja => by
            by_cases h : j < k
            · exact hF.out j a h hja
            · have e : j = k := by omega
              subst e
              rw [hget] at hja
              cases hja
              exact hok)
          clear hF hq hok
          go_wp2
          go_roundg (L.length - (k + 1))
          case measure => rw [hg.out]; omega
          case rel => exact ⟨k + 1, hlt, rfl, by go_num, hidden ⟨hE.out, hB3.out⟩⟩
        · have hE : R = false := by
            have hbad := of_decide_eq_true hq.out
            cases R
            · rfl
            · exact absurd ((hiff.out.1 rfl).2 _ (List.mem_of_getElem? hget)) hbad
          subst hE
          clear hF hq
          go_wp2
          go_ret
          exact ⟨rfl, hB3.out⟩
    · obtain rfl : k = L.length := by omega
      have hE : R = true := by
        rw [← hR.out]
        exact (okB_iff L).2 ⟨by omega, fun a ha => by
          obtain ⟨j, hj⟩ := List.getElem?_of_mem ha
          exact hF j a (List.getElem?_eq_some_iff.1 hj).1 hj⟩
      subst hE
      replace hB := hidden hB
      clear hI hF
      go_wp2
      go_ret
      exact ⟨rfl, hB.out⟩
theorem rup_calls (n : Int) (h0 : 0 ≤ n) (h1 : n ≤ 1099511627776) (w : World) : Calls Try.prog 26 #[.int .i64 n] w fun e w' => e = .returned (.int .i64 (upZ n)) ∧ w' = w := by
  have e1 : (n + 15) / 16 * 16 = upZ n := rfl
  have hu := up_le n
  generalize upZ n = c at *
  have t1 : 0 ≤ (n + 15) / 16 ∧ (n + 15) / 16 ≤ 1099511627776 := by omega
  obtain ⟨d1, hd1⟩ : ∃ d, (n + 15) / 16 = d := ⟨_, rfl⟩
  rw [hd1] at e1 t1
  go_enter Try.func26, Try.ntmps26
  go_wp2
  go_ret
  exact ⟨rfl, rfl⟩
end Go.Proofs.Ytfnfhabepadikaa
