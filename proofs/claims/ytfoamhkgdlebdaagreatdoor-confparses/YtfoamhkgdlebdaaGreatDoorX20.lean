/- The statements' awake and small. -/
import Derived.Test.YtfoamhkgdlebdaaGreatDoorX19
import Derived.BigQuiet
namespace Go.Proofs.YtfoamhkgdlebdaaGreatDoor
open Go.RowKit Go.Extern.Stop Go.Stop Go.Extern
set_option maxRecDepth 100000

theorem lit0 : (⟨#[107, 101, 114, 110, 101, 108, 32, 107, 32, 48, 48, 48, 48, 48, 48, 48, 48, 48, 48, 48, 48, 48, 48, 48, 48, 10, 35, 32, 110, 111, 116, 101, 10, 118, 101, 114, 115, 105, 111, 110, 32, 49, 46, 50]⟩ : ByteArray) = mkB aw0 := rfl
theorem lit1 : (⟨#[118, 101, 114, 115, 105, 111, 110, 32, 49]⟩ : ByteArray) = mkB aw1 := rfl
theorem itoa0 : itoaB 0 = ⟨#[48]⟩ := by decide +kernel
abbrev zEn : Obj := .cells #[.string ⟨#[]⟩, .string ⟨#[]⟩, .string ⟨#[]⟩, .slice none 0 0, .string ⟨#[]⟩] 29
set_option maxHeartbeats 8000000 in
theorem awake_calls (w : World) (hg : GT w) (hG : Ground w) :
    Calls Tryz.prog 9 #[] w fun e w' => e = .returned (.bool true) ∧ Below w.heap.size w w' := by
  have kP := hidden (parse_good aw0 awE w (by decide) aw_read)
  rw [← lit0] at kP
  have kR := hidden (fun (v : Value) (wx : World) (hv : BlobsAt wx v []) => print_good awE v wx hv ((ok_iff _).2 aw_ok) aw_ok.sizes)
  have kB := hidden (fun (wx : World) (hx : Below w.heap.size w wx) => parse_bad aw1 0 wx (by decide) aw_read1 (hg.below hx) (hG.below hx))
  rw [← lit1] at kB
  rw [aw_print] at kR
  have kI := hidden (fun (wx : World) (b : Nat) (hx : Below w.heap.size w wx) (hE : PErr wx b (itoaB (0 : Nat)) (lnE (0 : Nat))) => law_isw (0 : Nat) wx sConf (itoaB (0 : Nat)) b hE.lt hE.c0 hE.c1 hE.c2 (hg.below hx))
  rw [show itoaB ((0 : Nat) : Int) = ⟨#[48]⟩ from itoa0] at kB kI
  unfold enV at *
  have q0 : ((mkB awE.ver).toList == [49, 46, 50]) = true := by rw [mk_toList]; decide
  have q1 : ((mkB awE.kn).toList == [107]) = true := by rw [mk_toList]; decide
  have q2 : ((mkB aw2).toList == [118, 101, 114, 115, 105, 111, 110, 32, 49, 46, 50, 10, 107, 101, 114, 110, 101, 108, 32, 107, 32, 48, 48, 48, 48, 48, 48, 48, 48, 48, 48, 48, 48, 48, 48, 48, 48, 10]) = true := by rw [mk_toList]; decide
  clear hg hG
  go_enter Tryz.func9, Tryz.ntmps9
  go_wp2_with fail
  refine kP.out.mono ?_
  rintro e w1 ⟨v, rfl, hO, hb1⟩
  obtain ⟨a, c, rfl⟩ := hO.form
  dsimp only
  replace hO := hidden hO
  replace hb1 := hidden hb1
  clear kP
  go_upto_region 2 with fail
  obtain ⟨w2, hw2, hb2, hX⟩ : ∃ w2, w1.alloc (.cells #[.string (mkB awE.ver), .string (mkB awE.kn), .string (mkB awE.ks), .slice a awE.ex.length c, .string (mkB awE.op)] 29) = w2 ∧ Below w1.heap.size w1 w2 ∧ EnAt w2 w1.heap.size awE (.slice a awE.ex.length c) := ⟨_, rfl, (Below.refl _ _).alloc (Nat.le_refl _) _, ⟨by simp, by simp, by simp, by simp, by simp⟩⟩
  have hB2 := hb1.out.trans (hb2.mono hb1.out.size)
  have kR2 := hidden (kR.out _ w2 ((hO.out.below hb2).at))
  have q := hX
  have x0 := hX.c0
  have x1 := hX.c1
  have x2 := hX.c2
  have x3 := hX.c3
  have x4 := hX.c4
  rw [hw2]
  clear hw2 kR hO hb1 hb2
  replace q := hidden q
  replace hB2 := hidden hB2
  replace hX := hidden hX
  go_wp2_with fail
  refine kR2.out.mono ?_
  rintro e w3 ⟨rfl, hb3⟩
  have hB3 := hB2.out.trans (hb3.mono hB2.out.size)
  have kB3 := hidden (kB.out w3 hB3)
  have hX3 := hidden (hX.out.below hb3)
  replace hB3 := hidden hB3
  clear kR2 kB hb3 hB2 hX x0 x1 x2 x3 x4 q
  dsimp only
  go_wp2_with fail
  refine kB3.out.mono ?_
  rintro e w4 ⟨b, rfl, hE, hb4⟩
  have hB4 := hB3.out.trans (hb4.mono hB3.out.size)
  have hX4 := hX3.out.below hb4
  obtain ⟨w5, hw5, hb5⟩ : ∃ w5, w4.alloc zEn = w5 ∧ Below w4.heap.size w4 w5 := ⟨_, rfl, (Below.refl _ _).alloc (Nat.le_refl _) _⟩
  have hB5 := hB4.trans (hb5.mono hB4.size)
  have kI5 := hidden (kI.out w5 b hB5 (hE.below hb5))
  have hX5 := hX4.below hb5
  have y0 := hX5.c0
  have y1 := hX5.c1
  replace hw5 := hidden hw5
  replace hB5 := hidden hB5
  clear kI kB3 hb4 hB4 hX4 hb5 hX3 hX5 hE hB3
  dsimp only
  go_upto_region 4 with fail
  have e1 : ∀ v : Value, (.cells #[.string (mkB e0.ver), .string (mkB e0.kn), .string (mkB e0.ks), v, .string (mkB e0.op)] 29 : Obj) = .cells #[.string ⟨#[]⟩, .string ⟨#[]⟩, .string ⟨#[]⟩, v, .string ⟨#[]⟩] 29 := fun _ => rfl
  try rw [e1]
  rw [hw5.out]
  clear hw5 e1
  go_wp2_with fail
  refine kI5.out.mono ?_
  rintro e w6 ⟨rfl, hb6⟩
  have hB6 := hidden (hB5.out.trans (hb6.mono hB5.out.size))
  clear hb6 hB5 kI5
  go_wp2
  go_ret
  exact ⟨rfl, hB6.out⟩
/-- What small lets by. -/
structure SmallE (x : En) : Prop where
  ver : x.ver.length ≤ 500
  kn : x.kn.length ≤ 500
  ks : x.ks.length ≤ 500
  op : x.op.length ≤ 500
  ex : x.ex.length ≤ 20
end Go.Proofs.YtfoamhkgdlebdaaGreatDoor
