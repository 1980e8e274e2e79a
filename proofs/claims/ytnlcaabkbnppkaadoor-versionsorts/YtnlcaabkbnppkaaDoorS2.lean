/- slices.rotateCmpFunc at texts: two neighbouring parts of a row change places. -/
import Derived.Test.YtnlcaabkbnppkaaDoorS1
namespace Go.Proofs.YtnlcaabkbnppkaaDoor
open Go Go.RowKit
set_option maxRecDepth 100000

/-- What holds between two rounds. -/
structure RotI (w : World) (b n M : Nat) (T : List (List UInt8)) (I J : Nat) (P X Y S : List (List UInt8)) : Prop where
  row : TRow w b (P ++ (X ++ (Y ++ S)))
  end_ : P ++ (Y ++ (X ++ S)) = T
  li : X.length = I
  lj : Y.length = J
  lp : P.length + I = M
  ln : n = P.length + I + J + S.length
set_option maxHeartbeats 8000000 in
theorem rotate_calls (b n A M B : Nat) (P X Y S : List (List UInt8)) (hA : A = P.length) (hM : M = P.length + X.length) (hB : B = P.length + X.length + Y.length) (hn : n = P.length + X.length + Y.length + S.length) (hX : 0 < X.length) (hY : 0 < Y.length) (hs : n ≤ 1000) (fv : Value) (w : World) (h : TRow w b (P ++ (X ++ (Y ++ S)))) :
    Calls Tryd.prog 36 #[.slice (some ⟨b, 0, none⟩) n n, .int .i64 (A : Int), .int .i64 (M : Int), .int .i64 (B : Int), fv] w fun e w' => e = .returned (.tuple #[]) ∧ TRow w' b (P ++ (Y ++ (X ++ S))) ∧ Apart [b] w w' := by
  obtain ⟨T, hT⟩ : ∃ T, P ++ (Y ++ (X ++ S)) = T := ⟨_, rfl⟩
  obtain ⟨I0, hI0⟩ : ∃ I, X.length = I := ⟨_, rfl⟩
  obtain ⟨J0, hJ0⟩ : ∃ J, Y.length = J := ⟨_, rfl⟩
  rw [hT]
  have hR0 := hidden (show RotI w b n M T I0 J0 P X Y S from ⟨h, hT, hI0, hJ0, by omega, by omega⟩)
  have e1 : (M : Int) - (A : Int) = (I0 : Int) := by omega
  have e2 : (B : Int) - (M : Int) = (J0 : Int) := by omega
  have hMn : M ≤ n := by omega
  have hp1 : 0 < I0 := by omega
  have hp2 : 0 < J0 := by omega
  have hIJ : I0 + J0 ≤ n := by omega
  have hA1 : A ≤ M := by omega
  have hM1 : M ≤ B := by omega
  have hB1 : B ≤ n := by omega
  clear h hX hY hA hM hB hn hI0 hJ0
  go_enter Tryd.func36, Tryd.ntmps36
  go_wp2_with fail
  go_loopg [10, 11] (I0 + J0) (fun g si sj wr => ∃ (I J : Nat) (P X Y S : List (List UInt8)), g = I + J ∧ si = .int .i64 (I : Int) ∧ sj = .int .i64 (J : Int) ∧ 0 < I ∧ 0 < J ∧ Hid (RotI wr b n M T I J P X Y S ∧ Apart [b] w wr))
  case atStart => exact ⟨I0, J0, P, X, Y, S, rfl, rfl, rfl, hp1, hp2, hidden ⟨hR0.out, Apart.refl _ _⟩⟩
  case round =>
    clear hR0 e1 e2 hA1 hM1 hB1 hIJ hp1 hp2
    obtain ⟨I, J, P, X, Y, S, hg, rfl, rfl, hi, hj, hI⟩ := hrel
    obtain ⟨hR, hAp⟩ := hI.out
    obtain ⟨r1, r2, r3, r4, r5, r6⟩ := hR
    replace hg := hidden hg
    replace hAp := hidden hAp
    have hbn : M + J ≤ n := by omega
    have hbi : I ≤ M := by omega
    obtain ⟨A, hA⟩ : ∃ A, P.length = A := ⟨_, rfl⟩
    have eA : (M : Int) - (I : Int) = (A : Int) := by omega
    have hAn : A ≤ n := by omega
    clear hI
    by_cases hij : (I : Int) = (J : Int)
    · obtain rfl : I = J := by omega
      clear hij
      have kS := hidden (fun (wx : World) (hx : TRow wx b (P ++ (X ++ ([] ++ (Y ++ S))))) => swapRange_calls b n A M I P X [] Y S r3 (by omega) hA.symm (by simp; omega) (by simp; omega) hs fv wx hx)
      have kT := hidden (kS.out wr (by simpa using r1))
      have hfin := hidden (show P ++ (Y ++ ([] ++ (X ++ S))) = T by simpa using r2)
      clear kS r1 r2 r3 r4 r5 r6 hA
      go_wp2_with fail
      refine kT.out.mono ?_
      rintro e w1 ⟨rfl, hr1, ha1⟩
      have hE := hidden (show TRow w1 b T ∧ Apart [b] w w1 from ⟨hfin.out ▸ hr1, hAp.out.trans ha1⟩)
      clear hr1 ha1
      go_wp2
      go_end0
      exact ⟨rfl, hE.out.1, hE.out.2⟩
    · by_cases hlt : (J : Int) < (I : Int)
      · -- the first part is longer
        have hX1 : (X.take J).length = J := by rw [List.length_take]; omega
        have hX2 : (X.drop J).length = I - J := by rw [List.length_drop]; omega
        have kS := hidden (fun (wx : World) (hx : TRow wx b (P ++ (X.take J ++ (X.drop J ++ (Y ++ S))))) => swapRange_calls b n A M J P (X.take J) (X.drop J) Y S hX1 r4 hA.symm (by omega) (by omega) hs fv wx hx)
        have kT := hidden (kS.out wr (by have := r1; rwa [← List.take_append_drop J X, List.append_assoc] at this))
        have hnew := hidden (fun (wx : World) (hx : TRow wx b (P ++ (Y ++ (X.drop J ++ (X.take J ++ S))))) => (show RotI wx b n M T (I - J) J (P ++ Y) (X.drop J) (X.take J) S from
          ⟨by simpa using hx, by rw [← r2]; conv => rhs; rw [← List.take_append_drop J X]
                                 simp only [List.append_assoc], hX2, hX1, by rw [List.length_append]; omega, by rw [List.length_append]; omega⟩))
        have eI : (I : Int) - (J : Int) = ((I - J : Nat) : Int) := by omega
        have hIJ0 : 0 < I - J := by omega
        have hms := hidden (show (I - J) + J < I + J by omega)
        generalize I - J = K at *
        clear kS r1 r2 r3 r4 r5 r6 hA hX1 hX2
        go_wp2_with fail
        refine kT.out.mono ?_
        rintro e w1 ⟨rfl, hr1, ha1⟩
        have hE := hidden (And.intro (hnew.out w1 hr1) (hAp.out.trans ha1))
        clear hr1 ha1
        go_wp2
        go_roundg (K + J)
        case measure => rw [hg.out]; exact hms.out
        case rel => exact ⟨K, J, _, _, _, _, rfl, rfl, rfl, hIJ0, hj, hidden hE.out⟩
      · -- the second part is longer
        have hY1 : (Y.take (J - I)).length = J - I := by rw [List.length_take]; omega
        have hY2 : (Y.drop (J - I)).length = I := by rw [List.length_drop]; omega
        obtain ⟨B, hB⟩ : ∃ B : Nat, (M : Int) + (J : Int) - (I : Int) = (B : Int) := ⟨A + J, by omega⟩
        have kS := hidden (fun (wx : World) (hx : TRow wx b (P ++ (X ++ (Y.take (J - I) ++ (Y.drop (J - I) ++ S))))) => swapRange_calls b n A B I P X (Y.take (J - I)) (Y.drop (J - I)) S r3 hY2 hA.symm (by omega) (by omega) hs fv wx hx)
        have kT := hidden (kS.out wr (by
          have := r1
          rw [← List.take_append_drop (J - I) Y] at this
          simpa only [List.append_assoc] using this))
        have hnew := hidden (fun (wx : World) (hx : TRow wx b (P ++ (Y.drop (J - I) ++ (Y.take (J - I) ++ (X ++ S))))) => (show RotI wx b n M T I (J - I) P (Y.drop (J - I)) (Y.take (J - I)) (X ++ S) from
          ⟨hx, by
            rw [← r2]
            conv => rhs; rw [← List.take_append_drop (J - I) Y]
            simp only [List.append_assoc], hY2, hY1, by omega, by rw [List.length_append]; omega⟩))
        have eJ : (J : Int) - (I : Int) = ((J - I : Nat) : Int) := by omega
        have hIJ0 : 0 < J - I := by omega
        have hms := hidden (show I + (J - I) < I + J by omega)
        generalize J - I = K at *
        have hMJ : (M : Int) + (J : Int) ≤ 1000 := by omega
        clear kS r1 r2 r3 r4 r5 r6 hA hY1 hY2
        go_wp2_with fail
        refine kT.out.mono ?_
        rintro e w1 ⟨rfl, hr1, ha1⟩
        have hE := hidden (And.intro (hnew.out w1 hr1) (hAp.out.trans ha1))
        clear hr1 ha1
        go_wp2
        go_roundg (I + K)
        case measure => rw [hg.out]; exact hms.out
        case rel => exact ⟨I, K, _, _, _, _, rfl, rfl, rfl, hi, hIJ0, hidden hE.out⟩
end Go.Proofs.YtnlcaabkbnppkaaDoor
