/- VersionNumbers answers true, whatever it is given, and changes nothing that was there. -/
import Derived.Test.YtpminhgkacgplaaDoorVP
import Derived.Test.YtpminhgkacgplaaDoorVM
import Derived.Test.YtpminhgkacgplaaDoorV7
namespace Go.Proofs.YtpminhgkacgplaaDoor
open Go Go.RowKit
set_option maxRecDepth 100000

theorem mk_app (x y : List UInt8) : mkB x ++ mkB y = mkB (x ++ y) := by
  apply ByteArray.ext
  rw [ByteArray.data_append]
  simp [mkB]
set_option maxHeartbeats 4000000 in
theorem zeros_calls (n : Int) (N : Nat) (hN : bits .and .i64 n 15 = (N : Int)) (hb : N ≤ 15) (w : World) :
    Calls Tryd.prog 21 #[.int .i64 n] w fun e w' => e = .returned (.string (mkB (List.replicate N 48))) ∧ Below w.heap.size w w' := by
  obtain ⟨C, hC, hmk⟩ := make_fill N (by omega) w
  have hF0 := hidden (show FillAt w.heap.size N 0 48 (w.alloc (.cells C 5)) from ⟨C, one_new _ _, hC, fun j hj => absurd hj (Nat.not_lt_zero j)⟩)
  have hB0 := hidden (show Below w.heap.size w (w.alloc (.cells C 5)) from (Below.refl _ _).alloc (Nat.le_refl _) _)
  replace hC := hidden hC
  go_enter Tryd.func21, Tryd.ntmps21
  go_wp2_with fail
  go_loopg [10] N (fun gk i wr => ∃ k : Nat, k ≤ N ∧ gk = N - k ∧ i = .int .i64 (k : Int) ∧ Hid (FillAt w.heap.size N k 48 wr ∧ Below w.heap.size w wr))
  case atStart => exact ⟨0, Nat.zero_le _, rfl, rfl, hidden ⟨hF0.out, hB0.out⟩⟩
  case round =>
    obtain ⟨k, hk, hg, rfl, hV⟩ := hrel
    replace hg := hidden hg
    by_cases hlt : k < N
    · have hlt' : (k : Int) < (N : Int) := by omega
      obtain ⟨u, hu⟩ := hV.out.1.cell hlt
      have hf := hV.out.1.free k
      have hE := hidden (And.intro (hV.out.1.put hlt) (hV.out.2.setCell (p := ⟨w.heap.size, k, none⟩) (Nat.le_refl _) (.int .u8 48)))
      clear hV hmk
      go_wp2
      go_roundg (N - (k + 1))
      case measure => rw [hg.out]; omega
      case rel => exact ⟨k + 1, hlt, rfl, by simp, hidden hE.out⟩
    · obtain rfl : k = N := by omega
      have hcv := conv_bytes _ _ _ (hV.out.1.bytes (by omega) (by omega))
      rw [ofB_fill] at hcv
      have hB := hidden hV.out.2
      clear hV hmk
      go_wp2
      go_ret
      exact ⟨rfl, hB.out⟩
theorem map3_calls (k : Int) (w : World) : Calls Tryd.prog 22 #[.int .i64 k] w fun e w' => e = .returned (.int .i64 (if k = 0 then 1 else k)) ∧ w' = w := by
  by_cases h : k = 0
  · rw [if_pos h]
    go_enter Tryd.func22, Tryd.ntmps22
    go_wp2
    go_ret
    exact ⟨rfl, rfl⟩
  · rw [if_neg h]
    go_enter Tryd.func22, Tryd.ntmps22
    go_wp2
    go_ret
    exact ⟨rfl, rfl⟩
theorem mask_nat (x : Int) (m : Nat) (hm : m < 4611686018427387904) : ∃ u : Nat, bits .and .i64 x (m : Int) = (u : Int) ∧ u ≤ m := by
  have h := and_low x m hm
  exact ⟨(bits .and .i64 x (m : Int)).toNat, by omega, by omega⟩
theorem mask_lit (x : Int) (m : Int) (h0 : 0 ≤ m) (hm : m < 4611686018427387904) : ∃ u : Nat, bits .and .i64 x m = (u : Int) ∧ (u : Int) ≤ m := by
  obtain ⟨k, rfl⟩ := Int.eq_ofNat_of_zero_le h0
  obtain ⟨u, h1, h2⟩ := mask_nat x k (by omega)
  exact ⟨u, h1, by omega⟩
set_option maxHeartbeats 8000000 in
theorem versionNumbers_calls (a b p q : Int) (head : List UInt8) (w : World) : Calls Tryd.prog 8 #[.int .i64 a, .int .i64 b, .int .i64 p, .int .i64 q, .string (mkB head)] w fun e w' => e = .returned (.bool true) ∧ Below w.heap.size w w' := by
  have kA := hidden (fun w => awake_calls w)
  by_cases b1 : 100 < head.length
  · have s1 := size_big head 100 b1
    go_enter Tryd.func8, Tryd.ntmps8
    go_wp2_with fail
    refine (kA.out w).mono ?_
    rintro e w1 ⟨rfl, hB⟩
    go_wp2
    go_ret
    exact ⟨rfl, hB⟩
  have s1 := size_few head 100 b1
  obtain ⟨u, hu, hub⟩ := mask_lit a 16777215 (by decide) (by decide)
  obtain ⟨v, hv, hvb⟩ := mask_lit b 16777215 (by decide) (by decide)
  obtain ⟨n, hn, hnb⟩ := mask_lit p 15 (by decide) (by decide)
  obtain ⟨m, hm, hmb⟩ := mask_lit q 15 (by decide) (by decide)
  have kU := hidden (fun w => num_nat u (by omega) w)
  have kV := hidden (fun w => num_nat v (by omega) w)
  have kZ := hidden (fun w => zeros_calls p n hn (by omega) w)
  have kY := hidden (fun w => zeros_calls q m hm (by omega) w)
  have kM := hidden (fun k w => map3_calls k w)
  have lu := decDigits_len u (by omega)
  have lv := decDigits_len v (by omega)
  obtain ⟨c1, c2⟩ := cmp_numbers head n m u v
  have e1 : mkB head ++ ⟨#[46]⟩ = mkB (head ++ [46]) := mk_app head [46]
  have e2 : mkB (head ++ [46]) ++ mkB (List.replicate n 48) = mkB ((head ++ [46]) ++ List.replicate n 48) := mk_app _ _
  have e3 : mkB ((head ++ [46]) ++ List.replicate n 48) ++ mkB (Lib.decDigits u) = mkB (head ++ 46 :: (List.replicate n 48 ++ Lib.decDigits u)) := by rw [mk_app]; simp
  have f2 : mkB (head ++ [46]) ++ mkB (List.replicate m 48) = mkB ((head ++ [46]) ++ List.replicate m 48) := mk_app _ _
  have f3 : mkB ((head ++ [46]) ++ List.replicate m 48) ++ mkB (Lib.decDigits v) = mkB (head ++ 46 :: (List.replicate m 48 ++ Lib.decDigits v)) := by rw [mk_app]; simp
  have e4 : mkB (head ++ 46 :: (List.replicate n 48 ++ Lib.decDigits u)) ++ ⟨#[46, 49]⟩ = mkB ((head ++ 46 :: (List.replicate n 48 ++ Lib.decDigits u)) ++ [46, 49]) := mk_app _ [46, 49]
  have z0 := mk_size head
  have z1 : (mkB (head ++ [46])).size = head.length + 1 := by rw [mk_size]; simp
  have z2 : (mkB (List.replicate n 48)).size = n := by rw [mk_size]; simp
  have y2 : (mkB (List.replicate m 48)).size = m := by rw [mk_size]; simp
  have z3 : (mkB ((head ++ [46]) ++ List.replicate n 48)).size = head.length + 1 + n := by rw [mk_size]; simp; omega
  have y3 : (mkB ((head ++ [46]) ++ List.replicate m 48)).size = head.length + 1 + m := by rw [mk_size]; simp; omega
  have z4 : (mkB (Lib.decDigits u)).size = (Lib.decDigits u).length := mk_size _
  have y4 : (mkB (Lib.decDigits v)).size = (Lib.decDigits v).length := mk_size _
  have z5 : (mkB (head ++ 46 :: (List.replicate n 48 ++ Lib.decDigits u))).size = head.length + 1 + n + (Lib.decDigits u).length := by rw [mk_size]; simp; omega
  have k1 := hidden (fun w => compare_calls (head ++ 46 :: (List.replicate n 48 ++ Lib.decDigits u)) (head ++ 46 :: (List.replicate m 48 ++ Lib.decDigits v)) w (by simp; omega) (by simp; omega))
  have k2 := hidden (fun w => compare_calls ((head ++ 46 :: (List.replicate n 48 ++ Lib.decDigits u)) ++ [46, 49]) (head ++ 46 :: (List.replicate m 48 ++ Lib.decDigits v)) w (by simp; omega) (by simp; omega))
  rw [c1] at k1
  rw [c2] at k2
  clear c1 c2
  generalize (head ++ 46 :: (List.replicate n 48 ++ Lib.decDigits u)) ++ [46, 49] = X2 at *
  generalize head ++ 46 :: (List.replicate n 48 ++ Lib.decDigits u) = X1 at *
  generalize head ++ 46 :: (List.replicate m 48 ++ Lib.decDigits v) = Y1 at *
  generalize (head ++ [46]) ++ List.replicate n 48 = X0 at *
  generalize (head ++ [46]) ++ List.replicate m 48 = Y0 at *
  generalize head ++ [46] = H at *
  generalize Lib.decDigits u = du at *
  generalize Lib.decDigits v = dv' at *
  generalize List.replicate n (48 : UInt8) = zn at *
  generalize List.replicate m (48 : UInt8) = zm at *
  replace b1 := hidden b1
  go_enter Tryd.func8, Tryd.ntmps8
  go_wp2_with fail
  refine (kZ.out _).mono ?_
  rintro e w1 ⟨rfl, hb1⟩
  replace hb1 := hidden hb1
  go_wp2_with fail
  refine (kU.out _).mono ?_
  rintro e w2 ⟨rfl, rfl⟩
  go_wp2_with fail
  refine (kY.out _).mono ?_
  rintro e w3 ⟨rfl, hb3⟩
  replace hb3 := hidden (hb1.out.trans (hb3.mono hb1.out.size))
  go_wp2_with fail
  refine (kV.out _).mono ?_
  rintro e w4 ⟨rfl, rfl⟩
  clear kZ kU kY kV hb1
  go_upto_region 8 with fail
  have hz : ((u : Int) < (v : Int) ∧ Lib.compareInt (u : Int) (v : Int) = -1) ∨ ((v : Int) < (u : Int) ∧ Lib.compareInt (u : Int) (v : Int) = 1) ∨ ((u : Int) = (v : Int) ∧ Lib.compareInt (u : Int) (v : Int) = 0) := by
    rcases cI_rng (u : Int) (v : Int) with h | h | h
    · exact Or.inl ⟨cI_lt.1 h, h⟩
    · exact Or.inr (Or.inr ⟨cI_eq.1 h, h⟩)
    · exact Or.inr (Or.inl ⟨cI_gt.1 h, h⟩)
  rcases hz with ⟨hc, hz⟩ | ⟨hc, hz⟩ | ⟨hc, hz⟩
  all_goals
    rw [hz] at k1 k2
    clear hz
    go_upto_region 12 with fail
    go_wp2_with fail
    refine (k1.out _).mono ?_
    rintro e w5 ⟨rfl, hb5⟩
    replace hb5 := hidden (hb3.out.trans (hb5.mono hb3.out.size))
    go_wp2_with fail
    refine (k2.out _).mono ?_
    rintro e w6 ⟨rfl, hb6⟩
    replace hb6 := hidden (hb5.out.trans (hb6.mono hb5.out.size))
    go_wp2_with fail
    refine (kM.out _ _).mono ?_
    rintro e w7 ⟨rfl, rfl⟩
    go_wp2_with fail
    refine (kA.out _).mono ?_
    rintro e w8 ⟨rfl, hb8⟩
    replace hb8 := hidden (hb6.out.trans (hb8.mono hb6.out.size))
    go_wp2
    go_ret
    exact ⟨rfl, hb8.out⟩
end Go.Proofs.YtpminhgkacgplaaDoor
