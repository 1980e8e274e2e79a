/- The statements' awake and small. -/
import Derived.Test.YtdiplnaphdppbaaGreatDoorX19
import Derived.BigQuiet
namespace Go.Proofs.YtdiplnaphdppbaaGreatDoor
open Go.RowKit Go.Extern.Stop Go.Stop Go.Extern
set_option maxRecDepth 100000

theorem lit0 : (⟨#[107, 101, 114, 110, 101, 108, 32, 107, 32, 48, 48, 48, 48, 48, 48, 48, 48, 48, 48, 48, 48, 48, 48, 48, 48, 10, 35, 32, 110, 111, 116, 101, 10, 118, 101, 114, 115, 105, 111, 110, 32, 49, 46, 50]⟩ : ByteArray) = mkB aw0 := rfl
theorem lit1 : (⟨#[118, 101, 114, 115, 105, 111, 110, 32, 49]⟩ : ByteArray) = mkB aw1 := rfl
theorem itoa0 : itoaB 0 = ⟨#[48]⟩ := by decide +kernel
abbrev zEn : Obj := .cells #[.string ⟨#[]⟩, .string ⟨#[]⟩, .string ⟨#[]⟩, .slice none 0 0, .string ⟨#[]⟩] 27
set_option maxHeartbeats 8000000 in
theorem awake_calls (w : World) (hg : GT w) (hG : Ground w) :
    Calls Tryz.prog 6 #[] w fun e w' => e = .returned (.bool true) ∧ Below w.heap.size w w' := by
  have kP := hidden (parse_good aw0 awE w (by decide) aw_read)
  rw [← lit0] at kP
  have kR := hidden (fun (v : Value) (wx : World) (hv : BlobsAt wx v []) => print_good awE v wx hv ((ok_iff _).2 aw_ok) aw_ok.sizes)
  have kB := hidden (fun (wx : World) (hx : Below w.heap.size w wx) => parse_bad aw1 0 wx (by decide) aw_read1 (hg.below hx) (hG.below hx))
  rw [← lit1] at kB
  rw [aw_print] at kR
  have kI := hidden (fun (wx : World) (b : Nat) (hx : Below w.heap.size w wx) (hE : PErr wx b (itoaB (0 : Nat)) (lnE (0 : Nat))) => law_isw (0 : Nat) wx sConf (itoaB (0 : Nat)) b hE.lt hE.c0 hE.c1 hE.c2 (hg.below hx))
  rw [show itoaB ((0 : Nat) : Int) = ⟨#[48]⟩ from itoa0] at kB kI
  unfold enV at *
  have q0 : ((mkB awE.ver).toList == [49, 46, 50]) = true := by rw [mk_toList]; decide
  have q1 : ((mkB awE.kn).toList == [107]) = true := by rw [mk_toList]; decide
  have q2 : ((mkB aw2).toList == [118, 101, 114, 115, 105, 111, 110, 32, 49, 46, 50, 10, 107, 101, 114, 110, 101, 108, 32, 107, 32, 48, 48, 48, 48, 48, 48, 48, 48, 48, 48, 48, 48, 48, 48, 48, 48, 10]) = true := by rw [mk_toList]; decide
  clear hg hG
  go_enter Tryz.func6, Tryz.ntmps6
  go_wp2_with fail
  refine kP.out.mono ?_
  rintro e w1 ⟨v, rfl, hO, hb1⟩
  obtain ⟨a, c, rfl⟩ := hO.form
  dsimp only
  replace hO := hidden hO
  replace hb1 := hidden hb1
  clear kP
  go_upto_region 2 with fail
  obtain ⟨w2, hw2, hb2, hX⟩ : ∃ w2, w1.alloc (.cells #[.string (mkB awE.ver), .string (mkB awE.kn), .string (mkB awE.ks), .slice a awE.ex.length c, .string (mkB awE.op)] 27) = w2 ∧ Below w1.heap.size w1 w2 ∧ EnAt w2 w1.heap.size awE (.slice a awE.ex.length c) := ⟨_, rfl, (Below.refl _ _).alloc (Nat.le_refl _) _, ⟨by simp, by simp, by simp, by simp, by simp⟩⟩
  have hB2 := hb1.out.trans (hb2.mono hb1.out.size)
  have kR2 := hidden (kR.out _ w2 ((hO.out.below hb2).at))
  have q := hX
  have x0 := hX.c0
  have x1 := hX.c1
  have x2 := hX.c2
  have x3 := hX.c3
  have x4 := hX.c4
  rw [hw2]
  clear hw2 kR hO hb1 hb2
  replace q := hidden q
  replace hB2 := hidden hB2
  replace hX := hidden hX
  go_wp2_with fail
  refine kR2.out.mono ?_
  rintro e w3 ⟨rfl, hb3⟩
  have hB3 := hB2.out.trans (hb3.mono hB2.out.size)
  have kB3 := hidden (kB.out w3 hB3)
  have hX3 := hidden (hX.out.below hb3)
  replace hB3 := hidden hB3
  clear kR2 kB hb3 hB2 hX x0 x1 x2 x3 x4 q
  dsimp only
  go_wp2_with fail
  refine kB3.out.mono ?_
  rintro e w4 ⟨b, rfl, hE, hb4⟩
  have hB4 := hB3.out.trans (hb4.mono hB3.out.size)
  have hX4 := hX3.out.below hb4
  obtain ⟨w5, hw5, hb5⟩ : ∃ w5, w4.alloc zEn = w5 ∧ Below w4.heap.size w4 w5 := ⟨_, rfl, (Below.refl _ _).alloc (Nat.le_refl _) _⟩
  have hB5 := hB4.trans (hb5.mono hB4.size)
  have kI5 := hidden (kI.out w5 b hB5 (hE.below hb5))
  have hX5 := hX4.below hb5
  have y0 := hX5.c0
  have y1 := hX5.c1
  replace hw5 := hidden hw5
  replace hB5 := hidden hB5
  clear kI kB3 hb4 hB4 hX4 hb5 hX3 hX5 hE hB3
  dsimp only
  go_upto_region 4 with fail
  have e1 : ∀ v : Value, (.cells #[.string (mkB e0.ver), .string (mkB e0.kn), .string (mkB e0.ks), v, .string (mkB e0.op)] 27 : Obj) = .cells #[.string ⟨#[]⟩, .string ⟨#[]⟩, .string ⟨#[]⟩, v, .string ⟨#[]⟩] 27 := fun _ => rfl
  try rw [e1]
  rw [hw5.out]
  clear hw5 e1
  go_wp2_with fail
  refine kI5.out.mono ?_
  rintro e w6 ⟨rfl, hb6⟩
  have hB6 := hidden (hB5.out.trans (hb6.mono hB5.out.size))
  clear hb6 hB5 kI5
  go_wp2
  go_ret
  exact ⟨rfl, hB6.out⟩
/-- What small lets by. -/
structure SmallE (x : En) : Prop where
  ver : x.ver.length ≤ 500
  kn : x.kn.length ≤ 500
  ks : x.ks.length ≤ 500
  op : x.op.length ≤ 500
  ex : x.ex.length ≤ 20
def SmallEnd (e : Ending) (x : En) : Prop := ∃ q, e = .returned (.bool q) ∧ (q = true → SmallE x)
set_option maxHeartbeats 8000000 in
theorem small_calls (x : En) (v : Value) (w : World) (hv : BlobsAt w v x.ex) :
    Calls Tryz.prog 13 #[enV x v] w fun e w' => SmallEnd e x ∧ Below w.heap.size w w' := by
  obtain ⟨a, cap, rfl, hcap, hrest⟩ := (id hv : BlobsAt w v x.ex)
  obtain ⟨w1, hw1, hN, hB1⟩ : ∃ w1, w.alloc (.cells #[.string (mkB x.ver), .string (mkB x.kn), .string (mkB x.ks), .slice a x.ex.length cap, .string (mkB x.op)] 27) = w1 ∧ EnAt w1 w.heap.size x (.slice a x.ex.length cap) ∧ Below w.heap.size w w1 := ⟨_, rfl, ⟨by simp, by simp, by simp, by simp, by simp⟩, (Below.refl _ _).alloc (Nat.le_refl _) _⟩
  have c0 := hN.c0
  have c1 := hN.c1
  have c2 := hN.c2
  have c3 := hN.c3
  have c4 := hN.c4
  have hlt := hN.lt
  obtain ⟨L, hL⟩ : ∃ L, x.ex.length = L := ⟨_, rfl⟩
  have hc := hidden (And.intro hB1 hrest)
  unfold enV
  rw [hL] at c3 hw1 hcap ⊢
  replace hL := hidden hL
  replace hw1 := hidden hw1
  clear hv hN hB1 hrest
  go_enter Tryz.func13, Tryz.ntmps13
  go_upto_region 1 with fail
  rw [hw1.out]
  clear hw1
  go_wp2_with fail
  go_loopg [3, 4] 22 (fun gk m i wr => ∃ (k : Nat) (s : Int), k ≤ 21 ∧ gk = 22 - k ∧ i = .int .i64 (k : Int) ∧ m = .int .i64 s ∧ 0 ≤ s ∧ s ≤ 1000 * k ∧ Hid (Below w1.heap.size w1 wr))
  case atStart => exact ⟨0, 0, by omega, rfl, rfl, rfl, by omega, by omega, hidden (Below.refl _ _)⟩
  case round =>
    obtain ⟨k, s, hk, hg, rfl, rfl, hs0, hs1, hV⟩ := hrel
    replace hg := hidden hg
    have d0 := (hV.out.cell (p := ⟨w.heap.size, 0, none⟩) hlt).trans c0
    have d1 := (hV.out.cell (p := ⟨w.heap.size, 1, none⟩) hlt).trans c1
    have d2 := (hV.out.cell (p := ⟨w.heap.size, 2, none⟩) hlt).trans c2
    have d3 := (hV.out.cell (p := ⟨w.heap.size, 3, none⟩) hlt).trans c3
    have d4 := (hV.out.cell (p := ⟨w.heap.size, 4, none⟩) hlt).trans c4
    clear c0 c1 c2 c3 c4
    by_cases hgo : k < L ∧ k ≤ 20
    · obtain ⟨hlt', hk20⟩ := hgo
      have hk20' : (k : Int) ≤ 20 := by omega
      obtain ⟨p, hp⟩ : ∃ p, x.ex[k]? = some p := ⟨_, List.getElem?_eq_getElem (by rw [hL.out]; exact hlt')⟩
      obtain ⟨bb, off, rfl, hbb, hcells⟩ := hc.out.2 (by intro e; rw [e] at hp; simp at hp)
      obtain ⟨y0, y1⟩ := hcells k p hp
      have gy : ∀ (g j : Nat) (u : Value), g < w.heap.size → w.cell? ⟨g, j, none⟩ = some u → wr.cell? ⟨g, j, none⟩ = some u := fun g j u hg h => (hV.out.cell (p := ⟨g, j, none⟩) (Nat.lt_of_lt_of_le hg hc.out.1.size)).trans ((hc.out.1.cell (p := ⟨g, j, none⟩) hg).trans h)
      have z0 := gy _ _ _ hbb y0
      have z1 := gy _ _ _ hbb y1
      obtain ⟨m1, hm1, hm10, hm11⟩ : ∃ m, min ((mkB p.1).size : Int) 500 = m ∧ 0 ≤ m ∧ m ≤ 500 := ⟨_, rfl, by omega, by omega⟩
      obtain ⟨m2, hm2, hm20, hm21⟩ : ∃ m, min ((mkB p.2).size : Int) 500 = m ∧ 0 ≤ m ∧ m ≤ 500 := ⟨_, rfl, by omega, by omega⟩
      clear y0 y1 gy hcells hp
      go_upto_region 5 with fail
      have o1 : wrap64 (s + m1) = s + m1 := by unfold wrap64; omega
      have o2 : wrap64 (s + m1 + m2) = s + m1 + m2 := by unfold wrap64; omega
      go_quiet (fail)
      have hb4 : Hid (Below w1.heap.size w1 (wr.drewN nq)) := hidden (below_drewN hV.out nq)
      generalize wr.drewN nq = w5 at hb4 ⊢
      clear z0 z1 hV d0 d1 d2 d3 d4 hc
      go_wp2
      go_roundg (22 - (k + 1))
      case measure => rw [hg.out]; omega
      case rel => exact ⟨k + 1, s + m1 + m2, by omega, rfl, by simp, by simp, by omega, by omega, hb4⟩
    · have hB := hidden (hc.out.1.trans (hV.out.mono hc.out.1.size))
      have hno : ¬ ((k : Int) < (L : Int) ∧ (k : Int) ≤ 20) := fun h => hgo ⟨by omega, by omega⟩
      clear hc hV hgo
      have hcase : ¬ (k : Int) < (L : Int) ∨ (k : Int) < (L : Int) ∧ ¬ (k : Int) ≤ 20 := by omega
      clear hno
      rcases hcase with n1 | ⟨n1, n2⟩
      · by_cases e1 : (L : Int) ≤ 20
        · skip
          by_cases e2 : s ≤ 4000
          · skip
            by_cases e3 : ((mkB x.ver).size : Int) ≤ 500
            · skip
              by_cases e4 : ((mkB x.op).size : Int) ≤ 500
              · skip
                by_cases e5 : ((mkB x.kn).size : Int) ≤ 500
                · skip
                  by_cases e6 : ((mkB x.ks).size : Int) ≤ 500
                  · skip
                    have hq := hidden (show SmallE x from ⟨by rw [mk_size] at e3; omega, by rw [mk_size] at e5; omega, by rw [mk_size] at e6; omega, by rw [mk_size] at e4; omega, by rw [hL.out]; omega⟩)
                    go_wp2
                    go_ret
                    exact ⟨⟨true, rfl, fun _ => hq.out⟩, hB.out⟩
                  · go_wp2
                    go_ret
                    exact ⟨⟨false, rfl, fun h => by cases h⟩, hB.out⟩
                · go_wp2
                  go_ret
                  exact ⟨⟨false, rfl, fun h => by cases h⟩, hB.out⟩
              · go_wp2
                go_ret
                exact ⟨⟨false, rfl, fun h => by cases h⟩, hB.out⟩
            · go_wp2
              go_ret
              exact ⟨⟨false, rfl, fun h => by cases h⟩, hB.out⟩
          · go_wp2
            go_ret
            exact ⟨⟨false, rfl, fun h => by cases h⟩, hB.out⟩
        · go_wp2
          go_ret
          exact ⟨⟨false, rfl, fun h => by cases h⟩, hB.out⟩
      · have e1 : ¬ (L : Int) ≤ 20 := by omega
        go_wp2
        go_ret
        exact ⟨⟨false, rfl, fun h => by cases h⟩, hB.out⟩
end Go.Proofs.YtdiplnaphdppbaaGreatDoor
