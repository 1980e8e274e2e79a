/- Layer 10's own find. -/
import Derived.Test.YtdkpffpjbpfdnaaGreatDoorGDa
namespace Go.Proofs.YtdkpffpjbpfdnaaGreatDoor
open Go.RowKit Go.Extern.Stop Go.Stop Go.Extern
set_option maxRecDepth 100000

set_option maxHeartbeats 1000000 in
theorem lfind_calls {w : World} {v : Value} {L : List Rec} (h : RecsAt w v L) (hl : L.length ≤ 1000) (y : List UInt8) :
    Calls Tryz.prog 26 #[v, .string (mkB y)] w fun e w' => ∃ x, e = .returned (.int .i64 x) ∧ Pl L y x ∧ w' = w := by
  obtain ⟨a, cap, rfl, hcs⟩ := h
  replace hcs := hidden hcs
  go_enter Tryz.func26, Tryz.ntmps26
  go_wp2_with fail
  go_loopg [5] (L.length + 1) (fun gk q wr => ∃ j : Nat, j ≤ L.length ∧ gk = L.length + 1 - j ∧ q = .int .i64 j ∧ Hid ((∀ i r, i < j → L[i]? = some r → r.s ≠ y) ∧ wr = w))
  case atStart => exact ⟨0, by omega, rfl, rfl, hidden ⟨fun i r hi => by omega, rfl⟩⟩
  case round =>
    obtain ⟨j, hj, hgk, rfl, hI⟩ := hrel
    replace hgk := hidden hgk
    obtain rfl := hI.out.2
    by_cases hlt : j < L.length
    · obtain ⟨b, off, rfl, hb, hk⟩ := hcs.out (by rintro rfl; simp at hlt)
      obtain ⟨r, hr⟩ : ∃ r, L[j]? = some r := ⟨_, List.getElem?_eq_getElem hlt⟩
      obtain ⟨c0, c1⟩ := hk j r hr
      have hq := mk_beq r.s y
      replace hr := hidden hr
      clear hk c1
      by_cases e : r.s = y
      · rw [decide_eq_true e] at hq
        replace e := hidden e
        go_wp2
        go_ret
        exact ⟨_, rfl, Or.inl ⟨j, r, rfl, hr.out, e.out⟩, rfl⟩
      · rw [decide_eq_false e] at hq
        replace e := hidden e
        go_wp2
        go_roundg (L.length + 1 - (j + 1))
        case measure => rw [hgk.out]; omega
        case rel =>
          refine ⟨j + 1, hlt, rfl, by go_num, hidden ⟨fun i q hi hq => ?_, rfl⟩⟩
          by_cases e1 : i = j
          · subst e1; rw [hr.out] at hq; cases hq; exact e.out
          · exact hI.out.1 i q (by omega) hq
    · obtain rfl : j = L.length := by omega
      go_wp2
      go_ret
      refine ⟨_, rfl, Or.inr ⟨rfl, fun r hr => ?_⟩, rfl⟩
      obtain ⟨i, hi⟩ := List.getElem?_of_mem hr
      exact hI.out.1 i r (List.getElem?_eq_some_iff.1 hi).1 hi
end Go.Proofs.YtdkpffpjbpfdnaaGreatDoor
