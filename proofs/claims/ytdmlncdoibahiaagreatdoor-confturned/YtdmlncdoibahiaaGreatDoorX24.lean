/- The walk of ConfPrints. -/
import Derived.Test.YtdmlncdoibahiaaGreatDoorX23
import Derived.Lib.QuietBelow
import Derived.BigQuiet
namespace Go.Proofs.YtdmlncdoibahiaaGreatDoor
open Go.RowKit Go.Extern.Stop Go.Stop Go.Extern
set_option maxRecDepth 100000

/-- One box. -/
structure Bx1 (w wx : World) (x : En) (v : Value) : Prop where
  x : EnAt wx w.heap.size x v
  bl : Below w.heap.size w wx
theorem Bx1.next {w wx w' : World} {x : En} {v : Value} (h : Bx1 w wx x v) (hb : Below wx.heap.size wx w') : Bx1 w w' x v := ⟨h.x.below hb, h.bl.trans (hb.mono h.bl.size)⟩
set_option maxHeartbeats 8000000 in
theorem confPrints_calls (x : En) (v : Value) (w : World) (hv : BlobsAt w v x.ex) (hg : GT w) (hG : Ground w) :
    Calls Tryz.prog 5 #[enV x v] w fun e w' => e = .returned (.bool true) ∧ Below w.heap.size w w' := by
  obtain ⟨a, cap, rfl, -⟩ := (id hv : BlobsAt w v x.ex)
  obtain ⟨w1, hw1, hX⟩ : ∃ w1, w.alloc (.cells #[.string (mkB x.ver), .string (mkB x.kn), .string (mkB x.ks), .slice a x.ex.length cap, .string (mkB x.op)] 26) = w1 ∧ Bx1 w w1 x (.slice a x.ex.length cap) :=
    ⟨_, rfl, ⟨by simp, by simp, by simp, by simp, by simp⟩, (Below.refl _ _).alloc (Nat.le_refl _) _⟩
  have kA := hidden (fun (wx : World) (hx : Bx1 w wx x (.slice a x.ex.length cap)) => awake_calls wx (hg.below hx.bl) (hG.below hx.bl))
  have kS := hidden (fun (wx : World) (hx : Bx1 w wx x (.slice a x.ex.length cap)) => small_calls x _ wx (hv.below hx.bl))
  have kO := hidden (fun (hs : SmallE x) (wx : World) (hx : Bx1 w wx x (.slice a x.ex.length cap)) => ok_entry x _ wx (hv.below hx.bl) (by have := hs.ex; omega))
  have kP := hidden (fun (hs : SmallE x) (wx : World) (hx : Bx1 w wx x (.slice a x.ex.length cap)) => refok_calls x _ wx (hv.below hx.bl) (by have := hs.ex; omega))
  have kQ := hidden (fun (ho : OkE x) (wx : World) (hx : Bx1 w wx x (.slice a x.ex.length cap)) => print_good x _ wx (hv.below hx.bl) ((ok_iff x).2 ho) ho.sizes)
  have kQn := hidden (fun (hs : SmallE x) (ho : okE x = false) (wx : World) (hx : Bx1 w wx x (.slice a x.ex.length cap)) => print_bad x _ wx (hv.below hx.bl) (by have := hs.ex; omega) ho)
  have kR := hidden (fun (ho : OkE x) (wx : World) (hx : Bx1 w wx x (.slice a x.ex.length cap)) => refprint_good x _ wx (hv.below hx.bl) ho)
  have kRn := hidden (fun (hs : SmallE x) (ho : okE x = false) (wx : World) (hx : Bx1 w wx x (.slice a x.ex.length cap)) => refprint_bad x _ wx (hv.below hx.bl) (by have := hs.ex; omega) ho)
  have kL := hidden (fun (wx : World) (b : Nat) (hx : Bx1 w wx x (.slice a x.ex.length cap)) (hE : PErr wx b ⟨#[]⟩ (num 1)) => law_is 1 rfl wx sConf ⟨#[]⟩ [] (flt b) hE.chain (hg.below hx.bl))
  have kG := hidden (fun (ho : OkE x) (wx : World) => parse_good (printL x) x wx (print_len ho) (read_print ho))
  have kU := hidden (fun (ho : OkE x) (u : Value) (wx : World) (hx : Bx1 w wx x (.slice a x.ex.length cap)) (hu : BlobsAt wx u x.ex) => refsame_calls x x u _ wx hu (hv.below hx.bl) (by have := ho.few; omega))
  rw [(sameE_iff x x).2 rfl] at kU
  have hcx := hidden (fun (wx : World) (h : Bx1 w wx x (.slice a x.ex.length cap)) => And.intro h.x.c0 (And.intro h.x.c1 (And.intro h.x.c2 (And.intro h.x.c3 h.x.c4))))
  have hok := hidden (ok_iff x).1
  obtain ⟨o1, ho1⟩ : ∃ o, okE x = o := ⟨_, rfl⟩
  rw [ho1] at kO kP hok
  have hself : ((mkB (printL x)).toList == (mkB (printL x)).toList) = true := by simp
  replace hw1 := hidden hw1
  replace hX := hidden hX
  replace ho1 := hidden ho1
  clear hv hg hG
  unfold enV at *
  go_enter Tryz.func5, Tryz.ntmps5
  go_upto_region 1 with fail
  rw [hw1.out]
  clear hw1
  have kc := hidden (kS.out w1 hX.out)
  obtain ⟨c0, c1, c2, c3, c4⟩ := hcx.out w1 hX.out
  go_wp2_with fail
  refine kc.out.mono ?_
  rintro e w2 ⟨⟨q, rfl, hq⟩, hb⟩
  have hX2 := hidden (hX.out.next hb)
  clear hb kc c0 c1 c2 c3 c4
  cases q
  · clear hq
    have kA2 := hidden (kA.out w2 hX2.out)
    go_wp2_with fail
    refine kA2.out.mono ?_
    rintro e w3 ⟨rfl, hb⟩
    have hX3 := hidden (hX2.out.next hb)
    clear hb
    go_wp2
    go_ret
    exact ⟨rfl, hX3.out.bl⟩
  · have hs : SmallE x := hq rfl
    clear hq
    cases o1
    · have kc := hidden (kQn.out hs ho1.out w2 hX2.out)
      obtain ⟨c0, c1, c2, c3, c4⟩ := hcx.out w2 hX2.out
      go_wp2_with fail
      refine kc.out.mono ?_
      rintro e w3 ⟨b, rfl, hE, hb⟩
      have hX3 := hidden (hX2.out.next hb)
      clear hb kc c0 c1 c2 c3 c4
      dsimp only
      have kc := hidden (kRn.out hs ho1.out w3 hX3.out)
      obtain ⟨c0, c1, c2, c3, c4⟩ := hcx.out w3 hX3.out
      go_wp2_with fail
      refine kc.out.mono ?_
      rintro e w4 ⟨rfl, hb⟩
      have hX4 := hidden (hX3.out.next hb)
      have hE4 := hidden (hE.below hb)
      clear hb kc hE
      dsimp only
      obtain ⟨c0, c1, c2, c3, c4⟩ := hcx.out w4 hX4.out
      go_upto_region 5 with fail
      have cO : ∀ d os, Calls Tryz.prog 15 #[Value.agg #[Value.string (mkB x.ver), Value.string (mkB x.kn), Value.string (mkB x.ks), Value.slice a x.ex.length cap, Value.string (mkB x.op)]] (Go.Sort.grow (redrawn w4 d) os) fun e w'' => e = .returned (.bool false) ∧ ∃ p : Regrown, w'' = Go.Sort.grow (redrawn w4 p.d) p.os := fun d os => Calls.regrown_of (kO.out hs _ (hX4.out.next (below_regrown w4 d os)))
      have cP : ∀ d os, Calls Tryz.prog 10 #[Value.agg #[Value.string (mkB x.ver), Value.string (mkB x.kn), Value.string (mkB x.ks), Value.slice a x.ex.length cap, Value.string (mkB x.op)]] (Go.Sort.grow (redrawn w4 d) os) fun e w'' => e = .returned (.bool false) ∧ ∃ p : Regrown, w'' = Go.Sort.grow (redrawn w4 p.d) p.os := fun d os => Calls.regrown_of (kP.out hs _ (hX4.out.next (below_regrown w4 d os)))
      replace cO := hidden cO
      replace cP := hidden cP
      have r0 := cell_regrown c0
      have r1 := cell_regrown c1
      have r2 := cell_regrown c2
      have r3 := cell_regrown c3
      have r4 := cell_regrown c4
      refine wp_region_quiet_below (by kernel_rfl) (by kernel_rfl) ?_
      repeat (go_big_quiet_step (first | exact cO.out _ _ | exact cP.out _ _))
      refine wpQuiet_nil ?_
      intro _ hw'
      obtain ⟨⟨dq, osq⟩, hw''⟩ := hw'
      subst hw''
      have hX5 := hidden (hX4.out.next (below_regrown w4 dq osq))
      have hE5 := hidden (hE4.out.below (below_regrown w4 dq osq))
      generalize Go.Sort.grow (redrawn w4 dq) osq = w5 at hX5 hE5 ⊢
      clear c0 c1 c2 c3 c4 r0 r1 r2 r3 r4 cO cP hX4 hE4
      have kL5 := hidden (kL.out w5 b hX5.out hE5.out)
      go_wp2_with fail
      refine kL5.out.mono ?_
      rintro e w6 ⟨rfl, hb⟩
      have hX6 := hidden (hX5.out.next hb)
      clear hb kL5 hE5
      have kA6 := hidden (kA.out w6 hX6.out)
      go_wp2_with fail
      refine kA6.out.mono ?_
      rintro e w7 ⟨rfl, hb⟩
      have hX7 := hidden (hX6.out.next hb)
      clear hb
      go_wp2
      go_ret
      exact ⟨rfl, hX7.out.bl⟩
    · have ho := hok.out rfl
      have kc := hidden (kQ.out ho w2 hX2.out)
      obtain ⟨c0, c1, c2, c3, c4⟩ := hcx.out w2 hX2.out
      go_wp2_with fail
      refine kc.out.mono ?_
      rintro e w3 ⟨rfl, hb⟩
      have hX3 := hidden (hX2.out.next hb)
      clear hb kc c0 c1 c2 c3 c4
      dsimp only
      have kc := hidden (kR.out ho w3 hX3.out)
      obtain ⟨c0, c1, c2, c3, c4⟩ := hcx.out w3 hX3.out
      go_wp2_with fail
      refine kc.out.mono ?_
      rintro e w4 ⟨rfl, hb⟩
      have hX4 := hidden (hX3.out.next hb)
      clear hb kc c0 c1 c2 c3 c4
      dsimp only
      obtain ⟨c0, c1, c2, c3, c4⟩ := hcx.out w4 hX4.out
      go_upto_region 5 with fail
      have cO : ∀ d os, Calls Tryz.prog 15 #[Value.agg #[Value.string (mkB x.ver), Value.string (mkB x.kn), Value.string (mkB x.ks), Value.slice a x.ex.length cap, Value.string (mkB x.op)]] (Go.Sort.grow (redrawn w4 d) os) fun e w'' => e = .returned (.bool true) ∧ ∃ p : Regrown, w'' = Go.Sort.grow (redrawn w4 p.d) p.os := fun d os => Calls.regrown_of (kO.out hs _ (hX4.out.next (below_regrown w4 d os)))
      have cP : ∀ d os, Calls Tryz.prog 10 #[Value.agg #[Value.string (mkB x.ver), Value.string (mkB x.kn), Value.string (mkB x.ks), Value.slice a x.ex.length cap, Value.string (mkB x.op)]] (Go.Sort.grow (redrawn w4 d) os) fun e w'' => e = .returned (.bool true) ∧ ∃ p : Regrown, w'' = Go.Sort.grow (redrawn w4 p.d) p.os := fun d os => Calls.regrown_of (kP.out hs _ (hX4.out.next (below_regrown w4 d os)))
      replace cO := hidden cO
      replace cP := hidden cP
      have r0 := cell_regrown c0
      have r1 := cell_regrown c1
      have r2 := cell_regrown c2
      have r3 := cell_regrown c3
      have r4 := cell_regrown c4
      refine wp_region_quiet_below (by kernel_rfl) (by kernel_rfl) ?_
      repeat (go_big_quiet_step (first | exact cO.out _ _ | exact cP.out _ _))
      refine wpQuiet_nil ?_
      intro _ hw'
      obtain ⟨⟨dq, osq⟩, hw''⟩ := hw'
      subst hw''
      have hX5 := hidden (hX4.out.next (below_regrown w4 dq osq))
      generalize Go.Sort.grow (redrawn w4 dq) osq = w5 at hX5 ⊢
      clear c0 c1 c2 c3 c4 r0 r1 r2 r3 r4 cO cP hX4
      have kG5 := hidden (kG.out ho w5)
      go_wp2_with fail
      refine kG5.out.mono ?_
      rintro e w6 ⟨v6, rfl, hO, hb⟩
      obtain ⟨a6, k6, rfl⟩ := hO.form
      have hX6 := hidden (hX5.out.next hb)
      replace hO := hidden hO
      clear hb kG5
      dsimp only
      go_upto_region 10 with fail
      obtain ⟨w7, hw7, hb7, hY⟩ : ∃ w7, w6.alloc (.cells #[.string (mkB x.ver), .string (mkB x.kn), .string (mkB x.ks), .slice a6 x.ex.length k6, .string (mkB x.op)] 26) = w7 ∧ Below w6.heap.size w6 w7 ∧ EnAt w7 w6.heap.size x (.slice a6 x.ex.length k6) := ⟨_, rfl, (Below.refl _ _).alloc (Nat.le_refl _) _, ⟨by simp, by simp, by simp, by simp, by simp⟩⟩
      have hX7 := hidden (hX6.out.next hb7)
      have kU7 := hidden (kU.out ho _ w7 hX7.out ((hO.out.below hb7).at))
      obtain ⟨c0, c1, c2, c3, c4⟩ := hcx.out w7 hX7.out
      have y0 := hY.c0
      have y1 := hY.c1
      have y2 := hY.c2
      have y3 := hY.c3
      have y4 := hY.c4
      rw [hw7]
      clear hw7 hb7 hY hO hX6
      go_wp2_with fail
      refine kU7.out.mono ?_
      rintro e w8 ⟨rfl, hb⟩
      have hX8 := hidden (hX7.out.next hb)
      clear hb kU7 c0 c1 c2 c3 c4 y0 y1 y2 y3 y4 hX7
      have kA8 := hidden (kA.out w8 hX8.out)
      go_wp2_with fail
      refine kA8.out.mono ?_
      rintro e w9 ⟨rfl, hb⟩
      have hX9 := hidden (hX8.out.next hb)
      clear hb
      go_wp2
      go_ret
      exact ⟨rfl, hX9.out.bl⟩
end Go.Proofs.YtdmlncdoibahiaaGreatDoor
