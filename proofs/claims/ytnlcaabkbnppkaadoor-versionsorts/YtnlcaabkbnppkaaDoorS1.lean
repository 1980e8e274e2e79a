/- slices.swapRangeCmpFunc at texts. -/
import Derived.Test.YtnlcaabkbnppkaaDoorS0
namespace Go.Proofs.YtnlcaabkbnppkaaDoor
open Go Go.RowKit
set_option maxRecDepth 100000

def midD (P X Q Y R : List (List UInt8)) (i : Nat) : List (List UInt8) := P ++ (Y.take i ++ (X.drop i ++ (Q ++ (X.take i ++ (Y.drop i ++ R)))))
theorem mid_len (P X Q Y R : List (List UInt8)) (i : Nat) : (midD P X Q Y R i).length = P.length + X.length + Q.length + Y.length + R.length := by
  have h1 := congrArg List.length (List.take_append_drop i X)
  have h2 := congrArg List.length (List.take_append_drop i Y)
  rw [List.length_append] at h1 h2
  simp only [midD, List.length_append]; omega
theorem mid_step (P X Q Y R : List (List UInt8)) (N i : Nat) (hX : X.length = N) (hY : Y.length = N) (hi : i < N) :
    ∃ x y, (midD P X Q Y R i)[P.length + i]? = some x ∧ (midD P X Q Y R i)[P.length + N + Q.length + i]? = some y ∧
      ((midD P X Q Y R i).set (P.length + i) y).set (P.length + N + Q.length + i) x = midD P X Q Y R (i + 1) ∧ ((midD P X Q Y R i).set (P.length + N + Q.length + i) x).set (P.length + i) y = midD P X Q Y R (i + 1) := by
  have ex : X.drop i = X[i] :: X.drop (i + 1) := List.drop_eq_getElem_cons (by omega)
  have ey : Y.drop i = Y[i] :: Y.drop (i + 1) := List.drop_eq_getElem_cons (by omega)
  have tx : X.take (i + 1) = X.take i ++ [X[i]] := by rw [List.take_add_one, List.getElem?_eq_getElem (by omega)]; rfl
  have ty : Y.take (i + 1) = Y.take i ++ [Y[i]] := by rw [List.take_add_one, List.getElem?_eq_getElem (by omega)]; rfl
  have e1 : midD P X Q Y R i = (P ++ Y.take i) ++ X[i] :: ((X.drop (i + 1) ++ (Q ++ X.take i)) ++ Y[i] :: (Y.drop (i + 1) ++ R)) := by
    rw [midD, ex, ey]; simp only [List.append_assoc, List.cons_append]
  have e2 : midD P X Q Y R (i + 1) = (P ++ Y.take i) ++ Y[i] :: ((X.drop (i + 1) ++ (Q ++ X.take i)) ++ X[i] :: (Y.drop (i + 1) ++ R)) := by
    rw [midD, tx, ty]; simp only [List.append_assoc, List.cons_append, List.nil_append]
  have l1 : P.length + i = (P ++ Y.take i).length := by rw [List.length_append, List.length_take]; omega
  have l2 : P.length + N + Q.length + i = (P ++ Y.take i).length + 1 + (X.drop (i + 1) ++ (Q ++ X.take i)).length := by
    simp only [List.length_append, List.length_take, List.length_drop]; omega
  obtain ⟨h1, h2, h3, h4⟩ := swap_two (P ++ Y.take i) X[i] (X.drop (i + 1) ++ (Q ++ X.take i)) Y[i] (Y.drop (i + 1) ++ R) _ _ l1 l2
  exact ⟨X[i], Y[i], by rw [e1]; exact h1, by rw [e1]; exact h2, by rw [e1, e2]; exact h3, by rw [e1, e2]; exact h4⟩
set_option maxHeartbeats 8000000 in
theorem swapRange_calls (b n A B N : Nat) (P X Q Y R : List (List UInt8)) (hX : X.length = N) (hY : Y.length = N) (hA : A = P.length) (hB : B = P.length + N + Q.length) (hn : n = P.length + N + Q.length + N + R.length) (hs : n ≤ 1000) (fv : Value) (w : World) (h : TRow w b (P ++ (X ++ (Q ++ (Y ++ R))))) :
    Calls Tryd.prog 42 #[.slice (some ⟨b, 0, none⟩) n n, .int .i64 (A : Int), .int .i64 (B : Int), .int .i64 (N : Int), fv] w fun e w' => e = .returned (.tuple #[]) ∧ TRow w' b (P ++ (Y ++ (Q ++ (X ++ R)))) ∧ Apart [b] w w' := by
  have hmd := hidden (mid_step P X Q Y R N)
  have h0 := hidden (show TRow w b (midD P X Q Y R 0) from by simpa [midD] using h)
  have hE := hidden (show midD P X Q Y R N = P ++ (Y ++ (Q ++ (X ++ R))) by
    rw [midD, List.take_of_length_le (by omega), List.drop_eq_nil_of_le (by omega), List.take_of_length_le (by omega), List.drop_eq_nil_of_le (by omega)]; simp)
  have hAB := hidden (show A + N ≤ n ∧ B + N ≤ n ∧ A + N ≤ B from ⟨by omega, by omega, by omega⟩)
  rw [← hB, ← hA] at hmd
  replace hmd := hidden (fun i hi => hmd.out i hX hY hi)
  clear h hX hY hA hB hn
  go_enter Tryd.func42, Tryd.ntmps42
  go_wp2_with fail
  go_loopg [10] N (fun g si wr => ∃ i : Nat, i ≤ N ∧ g = N - i ∧ si = .int .i64 (i : Int) ∧ Hid (TRow wr b (midD P X Q Y R i) ∧ Apart [b] w wr))
  case atStart => exact ⟨0, Nat.zero_le _, rfl, rfl, hidden ⟨h0.out, Apart.refl _ _⟩⟩
  case round =>
    obtain ⟨i, hi, hg, rfl, hI⟩ := hrel
    replace hg := hidden hg
    obtain ⟨hR, hAp⟩ := hI.out
    by_cases hlt : i < N
    · have hlt' : (i : Int) < (N : Int) := by omega
      obtain ⟨x, y, m1, m2, m3, m4⟩ := hmd.out i hlt
      have q1 := hR.cell m1
      have q2 := hR.cell m2
      obtain ⟨h1, h2, h3⟩ := hAB.out
      obtain ⟨p, hp⟩ : ∃ p, A + i = p := ⟨_, rfl⟩
      obtain ⟨q, hq⟩ : ∃ q, B + i = q := ⟨_, rfl⟩
      rw [hp] at m1 m3 m4 q1
      rw [hq] at m2 m3 m4 q2
      have ep : (A : Int) + (i : Int) = (p : Int) := by omega
      have eq : (B : Int) + (i : Int) = (q : Int) := by omega
      have bp : (p : Int) < (n : Int) := by omega
      have bq : (q : Int) < (n : Int) := by omega
      have f1 := hR.free p
      have f2 := hR.free q
      have hS1 := hidden (show TRow ((wr.setCell ⟨b, p, none⟩ (.string (mkB y))).setCell ⟨b, q, none⟩ (.string (mkB x))) b (midD P X Q Y R (i + 1)) from m3 ▸ (hR.set p y).set q x)
      have hS2 := hidden (show TRow ((wr.setCell ⟨b, q, none⟩ (.string (mkB x))).setCell ⟨b, p, none⟩ (.string (mkB y))) b (midD P X Q Y R (i + 1)) from m4 ▸ (hR.set q x).set p y)
      have hA1 := hidden (fun (u v : Value) (s t : Nat) => (hAp.setCell (p := ⟨b, s, none⟩) (by simp) u).setCell (p := ⟨b, t, none⟩) (by simp) v)
      have hpq : p ≠ q := by omega
      have hqp : q ≠ p := fun e => hpq e.symm
      have g1 : (wr.setCell ⟨b, p, none⟩ (.string (mkB y))).cell? ⟨b, q, none⟩ = some (.string (mkB y)) := (World.cell?_setCell_other _ _ _ _ (by simp)).trans q2
      have g2 : (wr.setCell ⟨b, q, none⟩ (.string (mkB x))).cell? ⟨b, p, none⟩ = some (.string (mkB x)) := (World.cell?_setCell_other _ _ _ _ (by simp)).trans q1
      clear hI hR m1 m2 m3 m4 hmd hp hq h1 h2 h3
      go_upto_region 3 with fail
      go_region
      all_goals
        go_wp2
        go_roundg (N - (i + 1))
        case measure => rw [hg.out]; omega
        case rel =>
          first
            | exact ⟨i + 1, hlt, rfl, by go_num, hidden ⟨⟨hS1.out.hp⟩, (hA1.out _ _ _ _).trans (Apart.of_below (below_drewN (Below.refl _ _) 1))⟩⟩
            | exact ⟨i + 1, hlt, rfl, by go_num, hidden ⟨⟨hS2.out.hp⟩, (hA1.out _ _ _ _).trans (Apart.of_below (below_drewN (Below.refl _ _) 1))⟩⟩
    · obtain rfl : N = i := by omega
      have hF := hidden (show TRow wr b (P ++ (Y ++ (Q ++ (X ++ R)))) from hE.out ▸ hR)
      clear hI hR
      go_wp2
      go_end0
      exact ⟨rfl, hF.out, hAp⟩
end Go.Proofs.YtnlcaabkbnppkaaDoor
