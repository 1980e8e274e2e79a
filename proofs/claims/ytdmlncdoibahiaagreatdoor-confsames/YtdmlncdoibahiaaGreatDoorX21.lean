/- The walk of ConfApart. -/
import Derived.Test.YtdmlncdoibahiaaGreatDoorX20
namespace Go.Proofs.YtdmlncdoibahiaaGreatDoor
open Go.RowKit Go.Extern.Stop Go.Stop Go.Extern
set_option maxRecDepth 100000

theorem print_inj {x y : En} (hx : OkE x) (hy : OkE y) : (printL x == printL y) = sameE x y := by
  by_cases h : x = y
  · subst h
    rw [(sameE_iff x x).2 rfl]; simp
  · have h1 : sameE x y = false := by
      cases hs : sameE x y with
      | false => rfl
      | true => exact absurd ((sameE_iff x y).1 hs) h
    rw [h1]
    apply beq_eq_false_iff_ne.2
    intro e
    have a := read_print hx
    rw [e, read_print hy] at a
    cases a
    exact h rfl
/-- Two boxes. -/
structure Bx2 (w wx : World) (x y : En) (v u : Value) : Prop where
  x : EnAt wx w.heap.size x v
  y : EnAt wx (w.heap.size + 1) y u
  bl : Below w.heap.size w wx
theorem Bx2.next {w wx w' : World} {x y : En} {v u : Value} (h : Bx2 w wx x y v u) (hb : Below wx.heap.size wx w') : Bx2 w w' x y v u := ⟨h.x.below hb, h.y.below hb, h.bl.trans (hb.mono h.bl.size)⟩
set_option maxHeartbeats 8000000 in
theorem confApart_calls (x y : En) (v u : Value) (w : World) (hv : BlobsAt w v x.ex) (hu : BlobsAt w u y.ex) (hg : GT w) (hG : Ground w) :
    Calls Tryz.prog 3 #[enV x v, enV y u] w fun e w' => e = .returned (.bool true) ∧ Below w.heap.size w w' := by
  obtain ⟨a, cap, rfl, -⟩ := (id hv : BlobsAt w v x.ex)
  obtain ⟨a', cap', rfl, -⟩ := (id hu : BlobsAt w u y.ex)
  obtain ⟨w1, hw1, hX⟩ : ∃ w1, (w.alloc (.cells #[.string (mkB x.ver), .string (mkB x.kn), .string (mkB x.ks), .slice a x.ex.length cap, .string (mkB x.op)] 26)).alloc (.cells #[.string (mkB y.ver), .string (mkB y.kn), .string (mkB y.ks), .slice a' y.ex.length cap', .string (mkB y.op)] 26) = w1 ∧ Bx2 w w1 x y (.slice a x.ex.length cap) (.slice a' y.ex.length cap') :=
    ⟨_, rfl, ⟨by simp, by simp, by simp, by simp, by simp⟩, ⟨by simp, by simp, by simp, by simp, by simp⟩, ((Below.refl _ _).alloc (Nat.le_refl _) _).alloc (by simp) _⟩
  have kA := hidden (fun (wx : World) (hx : Bx2 w wx x y (.slice a x.ex.length cap) (.slice a' y.ex.length cap')) => awake_calls wx (hg.below hx.bl) (hG.below hx.bl))
  have kS := hidden (fun (wx : World) (hx : Bx2 w wx x y (.slice a x.ex.length cap) (.slice a' y.ex.length cap')) => small_calls x _ wx (hv.below hx.bl))
  have kT := hidden (fun (wx : World) (hx : Bx2 w wx x y (.slice a x.ex.length cap) (.slice a' y.ex.length cap')) => small_calls y _ wx (hu.below hx.bl))
  have kO := hidden (fun (wx : World) (hx : Bx2 w wx x y (.slice a x.ex.length cap) (.slice a' y.ex.length cap')) (hs : SmallE x) => refok_calls x _ wx (hv.below hx.bl) (by have := hs.ex; omega))
  have kP := hidden (fun (wx : World) (hx : Bx2 w wx x y (.slice a x.ex.length cap) (.slice a' y.ex.length cap')) (hs : SmallE y) => refok_calls y _ wx (hu.below hx.bl) (by have := hs.ex; omega))
  have kQ := hidden (fun (wx : World) (hx : Bx2 w wx x y (.slice a x.ex.length cap) (.slice a' y.ex.length cap')) (ho : OkE x) => print_good x _ wx (hv.below hx.bl) ((ok_iff x).2 ho) ho.sizes)
  have kR := hidden (fun (wx : World) (hx : Bx2 w wx x y (.slice a x.ex.length cap) (.slice a' y.ex.length cap')) (ho : OkE y) => print_good y _ wx (hu.below hx.bl) ((ok_iff y).2 ho) ho.sizes)
  have kU := hidden (fun (wx : World) (hx : Bx2 w wx x y (.slice a x.ex.length cap) (.slice a' y.ex.length cap')) (ho : OkE x) => refsame_calls x y _ _ wx (hv.below hx.bl) (hu.below hx.bl) (by have := ho.few; omega))
  have hI := hidden (fun (hx : OkE x) (hy : OkE y) => print_inj hx hy)
  have hcx := hidden (show ∀ wx, Bx2 w wx x y (.slice a x.ex.length cap) (.slice a' y.ex.length cap') → _ from fun wx h => (And.intro h.x.c0 (And.intro h.x.c1 (And.intro h.x.c2 (And.intro h.x.c3 (And.intro h.x.c4 (And.intro h.y.c0 (And.intro h.y.c1 (And.intro h.y.c2 (And.intro h.y.c3 h.y.c4))))))))))
  replace hw1 := hidden hw1
  replace hX := hidden hX
  have hok := hidden (And.intro (ok_iff x).1 (ok_iff y).1)
  generalize okE x = o1 at kO hok
  generalize okE y = o2 at kP hok
  generalize sameE x y = sm at kU hI
  have e1 : ((mkB (printL x)).toList == (mkB (printL y)).toList) = (printL x == printL y) := by rw [mk_toList, mk_toList]
  generalize (printL x == printL y) = pe at e1 hI
  clear hv hu hg hG
  unfold enV at *
  go_enter Tryz.func3, Tryz.ntmps3
  go_upto_region 1 with fail
  rw [hw1.out]
  clear hw1
  have kc := hidden (kS.out w1 hX.out)
  obtain ⟨c0_, c1_, c2_, c3_, c4_, b0_, b1_, b2_, b3_, b4_⟩ := hcx.out w1 hX.out
  go_wp2_with fail
  refine kc.out.mono ?_
  rintro e w2 ⟨⟨q, rfl, hq⟩, hb⟩
  have hX2 := hidden (hX.out.next hb)
  clear hb kc c0_ c1_ c2_ c3_ c4_ b0_ b1_ b2_ b3_ b4_
  cases q
  · clear hq
    have kA_ := hidden (kA.out w2 hX2.out)
    clear kA kS kT kO kP kQ kR kU
    go_wp2_with fail
    refine kA_.out.mono ?_
    rintro e wz ⟨rfl, hbz⟩
    have hZ := hidden (hX2.out.next hbz)
    clear hbz kA_
    go_wp2
    go_ret
    exact ⟨rfl, hZ.out.bl⟩
  · have hs1 : SmallE x := hq rfl
    clear hq
    have kc := hidden (kT.out w2 hX2.out)
    obtain ⟨c0_, c1_, c2_, c3_, c4_, b0_, b1_, b2_, b3_, b4_⟩ := hcx.out w2 hX2.out
    go_wp2_with fail
    refine kc.out.mono ?_
    rintro e w3 ⟨⟨q, rfl, hq⟩, hb⟩
    have hX3 := hidden (hX2.out.next hb)
    clear hb kc c0_ c1_ c2_ c3_ c4_ b0_ b1_ b2_ b3_ b4_
    cases q
    · clear hq
      have kA_ := hidden (kA.out w3 hX3.out)
      clear kA kS kT kO kP kQ kR kU
      go_wp2_with fail
      refine kA_.out.mono ?_
      rintro e wz ⟨rfl, hbz⟩
      have hZ := hidden (hX3.out.next hbz)
      clear hbz kA_
      go_wp2
      go_ret
      exact ⟨rfl, hZ.out.bl⟩
    · have hs2 : SmallE y := hq rfl
      clear hq
      have kc := hidden (kO.out w3 hX3.out hs1)
      obtain ⟨c0_, c1_, c2_, c3_, c4_, b0_, b1_, b2_, b3_, b4_⟩ := hcx.out w3 hX3.out
      go_wp2_with fail
      refine kc.out.mono ?_
      rintro e w4 ⟨rfl, hb⟩
      have hX4 := hidden (hX3.out.next hb)
      clear hb kc c0_ c1_ c2_ c3_ c4_ b0_ b1_ b2_ b3_ b4_
      cases o1
      · have kA_ := hidden (kA.out w4 hX4.out)
        clear kA kS kT kO kP kQ kR kU
        go_wp2_with fail
        refine kA_.out.mono ?_
        rintro e wz ⟨rfl, hbz⟩
        have hZ := hidden (hX4.out.next hbz)
        clear hbz kA_
        go_wp2
        go_ret
        exact ⟨rfl, hZ.out.bl⟩
      · have ho1 := hok.out.1 rfl
        have kc := hidden (kP.out w4 hX4.out hs2)
        obtain ⟨c0_, c1_, c2_, c3_, c4_, b0_, b1_, b2_, b3_, b4_⟩ := hcx.out w4 hX4.out
        go_wp2_with fail
        refine kc.out.mono ?_
        rintro e w5 ⟨rfl, hb⟩
        have hX5 := hidden (hX4.out.next hb)
        clear hb kc c0_ c1_ c2_ c3_ c4_ b0_ b1_ b2_ b3_ b4_
        cases o2
        · have kA_ := hidden (kA.out w5 hX5.out)
          clear kA kS kT kO kP kQ kR kU
          go_wp2_with fail
          refine kA_.out.mono ?_
          rintro e wz ⟨rfl, hbz⟩
          have hZ := hidden (hX5.out.next hbz)
          clear hbz kA_
          go_wp2
          go_ret
          exact ⟨rfl, hZ.out.bl⟩
        · have ho2 := hok.out.2 rfl
          have kc := hidden (kQ.out w5 hX5.out ho1)
          obtain ⟨c0_, c1_, c2_, c3_, c4_, b0_, b1_, b2_, b3_, b4_⟩ := hcx.out w5 hX5.out
          go_wp2_with fail
          refine kc.out.mono ?_
          rintro e w6 ⟨rfl, hb⟩
          have hX6 := hidden (hX5.out.next hb)
          clear hb kc c0_ c1_ c2_ c3_ c4_ b0_ b1_ b2_ b3_ b4_
          dsimp only
          have kc := hidden (kR.out w6 hX6.out ho2)
          obtain ⟨c0_, c1_, c2_, c3_, c4_, b0_, b1_, b2_, b3_, b4_⟩ := hcx.out w6 hX6.out
          go_wp2_with fail
          refine kc.out.mono ?_
          rintro e w7 ⟨rfl, hb⟩
          have hX7 := hidden (hX6.out.next hb)
          clear hb kc c0_ c1_ c2_ c3_ c4_ b0_ b1_ b2_ b3_ b4_
          dsimp only
          have kc := hidden (kU.out w7 hX7.out ho1)
          obtain ⟨c0_, c1_, c2_, c3_, c4_, b0_, b1_, b2_, b3_, b4_⟩ := hcx.out w7 hX7.out
          have hpe := hI.out ho1 ho2
          subst hpe
          have hself : (pe == pe) = true := by simp
          go_wp2_with fail
          refine kc.out.mono ?_
          rintro e w8 ⟨rfl, hb⟩
          have hX8 := hidden (hX7.out.next hb)
          clear hb kc c0_ c1_ c2_ c3_ c4_ b0_ b1_ b2_ b3_ b4_ hcx
          replace hI := True.intro
          have kA_ := hidden (kA.out w8 hX8.out)
          clear kA kS kT kO kP kQ kR kU
          go_wp2_with fail
          refine kA_.out.mono ?_
          rintro e wz ⟨rfl, hbz⟩
          have hZ := hidden (hX8.out.next hbz)
          clear hbz kA_
          go_wp2
          go_ret
          exact ⟨rfl, hZ.out.bl⟩
end Go.Proofs.YtdmlncdoibahiaaGreatDoor
