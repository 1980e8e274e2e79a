/- ConfParses answers true, whatever it is given, and changes nothing that was there. -/
import Derived.Test.YtfoamhkgdlebdaaGreatDoorZT
import Derived.Test.YtfoamhkgdlebdaaGreatDoorZN
namespace Go.Proofs.YtfoamhkgdlebdaaGreatDoor
open Go.RowKit Go.Extern.Stop Go.Stop Go.Extern
set_option maxRecDepth 100000

theorem cp_great (s : List UInt8) (w : World) (hg : GT w) (hG : Ground w) (h1 : 5000 < s.length) :
    Calls Tryz.prog 4 #[.string (mkB s)] w fun e w' => e = .returned (.bool true) ∧ Below w.heap.size w w' := by
  have hz : ((mkB s).size : Int) = (s.length : Int) := by rw [mk_size]
  have hI : (5000 : Int) < (s.length : Int) := by omega
  have kA := hidden (awake_calls w hg hG)
  clear hg hG h1
  generalize (s.length : Int) = n at *
  generalize mkB s = S at *
  go_enter Tryz.func4, Tryz.ntmps4
  go_wp2_with fail
  refine kA.out.mono ?_
  rintro e w1 ⟨rfl, hb⟩
  replace hb := hidden hb
  go_wp2
  go_ret
  exact ⟨rfl, hb.out⟩
/-- An entry that a statement keeps. -/
theorem en_box (w : World) (x : En) (v : Value) : ∃ w', w.alloc (.cells #[.string (mkB x.ver), .string (mkB x.kn), .string (mkB x.ks), v, .string (mkB x.op)] 29) = w' ∧ Below w.heap.size w w' ∧ EnAt w' w.heap.size x v :=
  ⟨_, rfl, (Below.refl _ _).alloc (Nat.le_refl _) _, ⟨by simp, by simp, by simp, by simp, by simp⟩⟩
/-- The cells of an entry that says nothing. -/
structure E0At (w : World) (b : Nat) : Prop where
  c0 : w.cell? ⟨b, 0, none⟩ = some (.string ⟨#[]⟩)
  c1 : w.cell? ⟨b, 1, none⟩ = some (.string ⟨#[]⟩)
  c2 : w.cell? ⟨b, 2, none⟩ = some (.string ⟨#[]⟩)
  c3 : w.cell? ⟨b, 3, none⟩ = some (.slice none 0 0)
  c4 : w.cell? ⟨b, 4, none⟩ = some (.string ⟨#[]⟩)
theorem EnAt.zero {w : World} {b : Nat} (h : EnAt w b e0 (.slice none 0 0)) : E0At w b := ⟨h.c0, h.c1, h.c2, h.c3, h.c4⟩
set_option maxHeartbeats 4000000 in
theorem cp_long (s : List UInt8) (w : World) (hg : GT w) (hG : Ground w) (h1 : 2000 < s.length) (h2 : s.length ≤ 5000) :
    Calls Tryz.prog 4 #[.string (mkB s)] w fun e w' => e = .returned (.bool true) ∧ Below w.heap.size w w' := by
  have hz : ((mkB s).size : Int) = (s.length : Int) := by rw [mk_size]
  have hI : ¬ (5000 : Int) < (s.length : Int) := by omega
  have kP := hidden (parse_long s w h1 hg)
  have kR := hidden (fun wx => rparse_long s wx h1)
  have kU := hidden (fun wx => refsame_calls e0 e0 nilE nilE wx (BlobsAt.nil _ _ _) (BlobsAt.nil _ _ _) (by decide))
  rw [(sameE_iff e0 e0).2 rfl] at kU
  rw [enV0] at kP kR kU
  have kA := hidden (fun (wx : World) (hx : Below w.heap.size w wx) => awake_calls wx (hg.below hx) (hG.below hx))
  have kI := hidden (fun (wx : World) (b : Nat) (hx : Below w.heap.size w wx) (hE : PErr wx b ⟨#[]⟩ (num 2)) => law_is 2 rfl wx sConf ⟨#[]⟩ [] (flt b) hE.chain (hg.below hx))
  clear hg hG h1 h2
  generalize (s.length : Int) = n at *
  generalize mkB s = S at *
  go_enter Tryz.func4, Tryz.ntmps4
  go_upto_region 3 with fail
  go_wp2_with fail
  refine kP.out.mono ?_
  rintro e w1 ⟨b1, rfl, hE1, hb1⟩
  dsimp only
  obtain ⟨w2, hw2, hb2, hN2⟩ := en_box w1 e0 (.slice none 0 0)
  have hB2 := hidden (hb1.trans (hb2.mono hb1.size))
  have hE2 := hidden (hE1.below hb2)
  replace hN2 := hidden hN2
  replace hw2 := hidden (show w1.alloc (.cells #[.string ⟨#[]⟩, .string ⟨#[]⟩, .string ⟨#[]⟩, .slice none 0 0, .string ⟨#[]⟩] 29) = w2 from hw2)
  clear kP hE1 hb1 hb2
  go_upto_region 4 with fail
  rw [hw2.out]
  clear hw2
  go_wp2_with fail
  refine (kR.out w2).mono ?_
  rintro e w3 ⟨rfl, hb3⟩
  dsimp only
  obtain ⟨w4, hw4, hb4, hN4⟩ := en_box w3 e0 (.slice none 0 0)
  have hb24 := hb3.trans (hb4.mono hb3.size)
  have hB4 := hidden (hB2.out.trans (hb24.mono hB2.out.size))
  have hE4 := hidden (hE2.out.below hb24)
  have hM4 := hidden (hN2.out.below hb24)
  replace hN4 := hidden hN4
  replace hw4 := hidden (show w3.alloc (.cells #[.string ⟨#[]⟩, .string ⟨#[]⟩, .string ⟨#[]⟩, .slice none 0 0, .string ⟨#[]⟩] 29) = w4 from hw4)
  clear kR hb3 hb4 hb24 hN2 hE2 hB2
  go_upto_region 5 with fail
  rw [hw4.out]
  clear hw4
  go_upto_region 8 with fail
  go_wp2_with fail
  refine (kI.out w4 b1 hB4.out hE4.out).mono ?_
  rintro e w5 ⟨rfl, hb5⟩
  obtain ⟨c0, c1, c2, c3, c4⟩ := (hM4.out.below hb5).zero
  obtain ⟨d0, d1, d2, d3, d4⟩ := (hN4.out.below hb5).zero
  have hB5 := hidden (hB4.out.trans (hb5.mono hB4.out.size))
  clear kI hb5 hM4 hN4 hB4 hE4
  go_wp2_with fail
  refine (kU.out w5).mono ?_
  rintro e w6 ⟨rfl, hb6⟩
  have hB6 := hidden (hB5.out.trans (hb6.mono hB5.out.size))
  clear kU hb6 hB5 c0 c1 c2 c3 c4 d0 d1 d2 d3 d4
  go_wp2_with fail
  refine (kA.out w6 hB6.out).mono ?_
  rintro e w7 ⟨rfl, hb7⟩
  have hB7 := hidden (hB6.out.trans (hb7.mono hB6.out.size))
  clear kA hb7 hB6
  go_wp2
  go_ret
  exact ⟨rfl, hB7.out⟩
set_option maxHeartbeats 4000000 in
theorem cp_bad (s : List UInt8) (w : World) (hg : GT w) (hG : Ground w) (h2 : s.length ≤ 2000) (k : Nat) (hr : readL (linesB s) 0 e0 = .inl k) :
    Calls Tryz.prog 4 #[.string (mkB s)] w fun e w' => e = .returned (.bool true) ∧ Below w.heap.size w w' := by
  have hz : ((mkB s).size : Int) = (s.length : Int) := by rw [mk_size]
  have hI : ¬ (5000 : Int) < (s.length : Int) := by omega
  have kP := hidden (parse_bad s k w h2 hr hg hG)
  have hk : k ≤ 3000 := by have h1 := readL_bound _ _ _ _ hr; have h3 := lines_len s; omega
  have kR := hidden (fun wx => (rparse_calls s wx h2).mono fun _ _ h => by rw [hr] at h; exact h)
  have kN := hidden (fun wx => num_nat k (by omega) wx)
  have kU := hidden (fun wx => refsame_calls e0 e0 nilE nilE wx (BlobsAt.nil _ _ _) (BlobsAt.nil _ _ _) (by decide))
  rw [(sameE_iff e0 e0).2 rfl] at kU
  rw [enV0] at kP kU
  have kA := hidden (fun (wx : World) (hx : Below w.heap.size w wx) => awake_calls wx (hg.below hx) (hG.below hx))
  have kI := hidden (fun (wx : World) (b : Nat) (hx : Below w.heap.size w wx) (hE : PErr wx b (itoaB k) (lnE k)) => itoa_nat k ▸ law_isw k wx sConf (itoaB k) b hE.lt hE.c0 hE.c1 hE.c2 (hg.below hx))
  clear hg hG h2 hr hk
  generalize (s.length : Int) = n at *
  generalize mkB s = S at *
  generalize mkB (Lib.decDigits k) = NM at *
  go_enter Tryz.func4, Tryz.ntmps4
  go_upto_region 3 with fail
  go_wp2_with fail
  refine kP.out.mono ?_
  rintro e w1 ⟨b1, rfl, hE1, hb1⟩
  dsimp only
  obtain ⟨w2, hw2, hb2, hN2⟩ := en_box w1 e0 (.slice none 0 0)
  have hB2 := hidden (hb1.trans (hb2.mono hb1.size))
  have hE2 := hidden (hE1.below hb2)
  replace hN2 := hidden hN2
  replace hw2 := hidden (show w1.alloc (.cells #[.string ⟨#[]⟩, .string ⟨#[]⟩, .string ⟨#[]⟩, .slice none 0 0, .string ⟨#[]⟩] 29) = w2 from hw2)
  clear kP hE1 hb1 hb2
  go_upto_region 4 with fail
  rw [hw2.out]
  clear hw2
  go_wp2_with fail
  refine (kR.out w2).mono ?_
  rintro e w3 ⟨he3, hb3⟩
  rw [enV0] at he3
  subst he3
  dsimp only
  obtain ⟨w4, hw4, hb4, hN4⟩ := en_box w3 e0 (.slice none 0 0)
  have hb24 := hb3.trans (hb4.mono hb3.size)
  have hB4 := hidden (hB2.out.trans (hb24.mono hB2.out.size))
  have hE4 := hidden (hE2.out.below hb24)
  have hM4 := hidden (hN2.out.below hb24)
  replace hN4 := hidden hN4
  replace hw4 := hidden (show w3.alloc (.cells #[.string ⟨#[]⟩, .string ⟨#[]⟩, .string ⟨#[]⟩, .slice none 0 0, .string ⟨#[]⟩] 29) = w4 from hw4)
  clear kR hb3 hb4 hb24 hN2 hE2 hB2
  go_upto_region 5 with fail
  rw [hw4.out]
  clear hw4
  go_wp2_with fail
  refine (kN.out w4).mono ?_
  rintro e w5 ⟨rfl, hw5⟩
  subst w5
  go_upto_region 8 with fail
  go_wp2_with fail
  refine (kI.out w4 b1 hB4.out hE4.out).mono ?_
  rintro e w5 ⟨rfl, hb5⟩
  obtain ⟨c0, c1, c2, c3, c4⟩ := (hM4.out.below hb5).zero
  obtain ⟨d0, d1, d2, d3, d4⟩ := (hN4.out.below hb5).zero
  have hB5 := hidden (hB4.out.trans (hb5.mono hB4.out.size))
  clear kI hb5 hM4 hN4 hB4 hE4 kN
  go_wp2_with fail
  refine (kU.out w5).mono ?_
  rintro e w6 ⟨rfl, hb6⟩
  have hB6 := hidden (hB5.out.trans (hb6.mono hB5.out.size))
  clear kU hb6 hB5 c0 c1 c2 c3 c4 d0 d1 d2 d3 d4
  go_wp2_with fail
  refine (kA.out w6 hB6.out).mono ?_
  rintro e w7 ⟨rfl, hb7⟩
  have hB7 := hidden (hB6.out.trans (hb7.mono hB6.out.size))
  clear kA hb7 hB6
  go_wp2
  go_ret
  exact ⟨rfl, hB7.out⟩
set_option maxHeartbeats 8000000 in
theorem cp_good (s : List UInt8) (w : World) (hg : GT w) (hG : Ground w) (h2 : s.length ≤ 2000) (x : En) (hr : readL (linesB s) 0 e0 = .inr x) :
    Calls Tryz.prog 4 #[.string (mkB s)] w fun e w' => e = .returned (.bool true) ∧ Below w.heap.size w w' := by
  have hz : ((mkB s).size : Int) = (s.length : Int) := by rw [mk_size]
  have hI : ¬ (5000 : Int) < (s.length : Int) := by omega
  have ho : OkE x := readL_ok _ _ _ _ pre0 hr
  have hsz := ho.sizes
  have kP := hidden (parse_good s x w h2 hr)
  have kR := hidden (fun wx => (rparse_calls s wx h2).mono fun _ _ h => by rw [hr] at h; exact h)
  have kQ := hidden (fun wx => parse_good (printL x) x wx (print_len ho) (read_print ho))
  have kT := hidden (fun (wx : World) (v : Value) (hv : BlobsAt wx v x.ex) => print_good x v wx hv ((ok_iff x).2 ho) hsz)
  have kU := hidden (fun (wx : World) (v u : Value) (hv : BlobsAt wx v x.ex) (hu : BlobsAt wx u x.ex) => refsame_calls x x v u wx hv hu (by have := hsz.2.2.2.2.1; omega))
  rw [(sameE_iff x x).2 rfl] at kU
  have kL := hidden (fun (wx : World) => law_is_nil sConf ⟨#[]⟩ wx)
  have kA := hidden (fun (wx : World) (hx : Below w.heap.size w wx) => awake_calls wx (hg.below hx) (hG.below hx))
  unfold enV at kT kU
  clear hg hG h2 hr ho hsz
  generalize (s.length : Int) = n at *
  generalize mkB s = S at *
  generalize mkB (printL x) = PT at *
  go_enter Tryz.func4, Tryz.ntmps4
  go_upto_region 3 with fail
  go_wp2_with fail
  refine kP.out.mono ?_
  rintro e w1 ⟨v1, rfl, hO1, hb1⟩
  obtain ⟨a1, k1, rfl⟩ := hO1.form
  obtain ⟨L, hL⟩ : ∃ L, x.ex.length = L := ⟨_, rfl⟩
  dsimp only [enV]
  obtain ⟨w2, hw2, hb2, hN2⟩ := en_box w1 x (.slice a1 x.ex.length k1)
  have hB2 := hidden (hb1.trans (hb2.mono hb1.size))
  have hA2 := hidden ((hO1.below hb2).at)
  rw [hL] at hw2 hN2 hA2 ⊢
  replace hN2 := hidden hN2
  replace hw2 := hidden hw2
  clear kP hO1 hb1 hb2
  go_upto_region 4 with fail
  rw [hw2.out]
  clear hw2
  go_wp2_with fail
  refine (kR.out w2).mono ?_
  rintro e w3 ⟨v3, rfl, hO3, hb3⟩
  obtain ⟨a3, k3, rfl⟩ := hO3.form
  dsimp only [enV]
  obtain ⟨w4, hw4, hb4, hN4⟩ := en_box w3 x (.slice a3 x.ex.length k3)
  have hb24 := hb3.trans (hb4.mono hb3.size)
  have hB4 := hidden (hB2.out.trans (hb24.mono hB2.out.size))
  have hA4 := hidden ((hO3.below hb4).at)
  have hA2' := hidden (hA2.out.below hb24)
  have hM4 := hidden (hN2.out.below hb24)
  rw [hL] at hw4 hN4 hA4 ⊢
  replace hN4 := hidden hN4
  replace hw4 := hidden hw4
  clear kR hb3 hb4 hb24 hN2 hB2 hO3 hA2
  go_upto_region 5 with fail
  rw [hw4.out]
  clear hw4
  obtain ⟨c0, c1, c2, c3, c4⟩ := hM4.out
  obtain ⟨d0, d1, d2, d3, d4⟩ := hN4.out
  have kU4 := hidden (kU.out w4 _ _ hA2'.out hA4.out)
  go_upto_region 8 with fail
  go_wp2_with fail
  refine (kL.out w4).mono ?_
  rintro e w5 ⟨rfl, hw5⟩
  subst w5
  go_wp2_with fail
  refine kU4.out.mono ?_
  rintro e w6 ⟨rfl, hb6⟩
  have hB6 := hidden (hB4.out.trans (hb6.mono hB4.out.size))
  have hA6 := hidden (hA2'.out.below hb6)
  have hA7 := hidden (hA4.out.below hb6)
  have hN6 := hidden (hN4.out.below hb6)
  have kT6 := hidden (kT.out w6 _ hA6.out)
  clear c0 c1 c2 c3 c4 d0 d1 d2 d3 d4 kU4 kL
  obtain ⟨c0, c1, c2, c3, c4⟩ := hM4.out.below hb6
  clear hb6 hM4 hN4 hA4 hA2' hB4 kT
  go_upto_region 12 with fail
  go_wp2_with fail
  refine kT6.out.mono ?_
  rintro e w7 ⟨rfl, hb7⟩
  have hB7 := hidden (hB6.out.trans (hb7.mono hB6.out.size))
  have hA8 := hidden (hA7.out.below hb7)
  have hN7 := hidden (hN6.out.below hb7)
  dsimp only
  clear c0 c1 c2 c3 c4 hb7 kT6 hB6 hA6 hA7 hN6
  go_upto_region 13 with fail
  go_wp2_with fail
  refine (kQ.out w7).mono ?_
  rintro e w8 ⟨v8, rfl, hO8, hb8⟩
  obtain ⟨a8, k8, rfl⟩ := hO8.form
  dsimp only [enV]
  obtain ⟨w9, hw9, hb9, hN9⟩ := en_box w8 x (.slice a8 x.ex.length k8)
  have hb79 := hb8.trans (hb9.mono hb8.size)
  have hB9 := hidden (hB7.out.trans (hb79.mono hB7.out.size))
  have hA9 := hidden ((hO8.below hb9).at)
  have hA10 := hidden (hA8.out.below hb79)
  obtain ⟨c0, c1, c2, c3, c4⟩ := hN7.out.below hb79
  rw [hL] at hw9 hN9 hA9 ⊢
  obtain ⟨d0, d1, d2, d3, d4⟩ := hN9
  have kU9 := hidden (kU.out w9 _ _ hA10.out hA9.out)
  replace hw9 := hidden hw9
  clear hb8 hb9 hb79 hO8 hA8 hN7 hB7 kQ kU
  go_upto_region 14 with fail
  rw [hw9.out]
  clear hw9
  go_wp2_with fail
  refine kU9.out.mono ?_
  rintro e w10 ⟨rfl, hb⟩
  have hBX := hidden (hB9.out.trans (hb.mono hB9.out.size))
  clear hb kU9 c0 c1 c2 c3 c4 d0 d1 d2 d3 d4 hA9 hA10 hB9
  go_wp2_with fail
  refine (kA.out w10 hBX.out).mono ?_
  rintro e w11 ⟨rfl, hb⟩
  have hBY := hidden (hBX.out.trans (hb.mono hBX.out.size))
  clear hb kA hBX
  go_wp2
  go_ret
  exact ⟨rfl, hBY.out⟩
theorem confParses_calls (S : ByteArray) (w : World) (hg : GT w) (hG : Ground w) :
    Calls Tryz.prog 4 #[.string S] w fun e w' => e = .returned (.bool true) ∧ Below w.heap.size w w' := by
  obtain ⟨s, rfl⟩ : ∃ s, S = mkB s := ⟨_, (mk_back S).symm⟩
  by_cases h1 : 5000 < s.length
  · exact cp_great s w hg hG h1
  · by_cases h2 : 2000 < s.length
    · exact cp_long s w hg hG h2 (by omega)
    · cases hr : readL (linesB s) 0 e0 with
      | inl k => exact cp_bad s w hg hG (by omega) k hr
      | inr x => exact cp_good s w hg hG (by omega) x hr
end Go.Proofs.YtfoamhkgdlebdaaGreatDoor
