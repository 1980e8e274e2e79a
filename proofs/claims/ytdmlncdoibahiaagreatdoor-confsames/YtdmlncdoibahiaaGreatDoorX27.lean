/- The walk of ConfSames. -/
import Derived.Test.YtdmlncdoibahiaaGreatDoorX26
import Derived.Test.YtdmlncdoibahiaaGreatDoorX21
import Derived.Lib.QuietBelow
namespace Go.Proofs.YtdmlncdoibahiaaGreatDoor
open Go.RowKit Go.Extern.Stop Go.Stop Go.Extern
set_option maxRecDepth 100000

theorem sameE_symm (x y : En) : sameE y x = sameE x y := by
  by_cases h : x = y
  · subst h; rfl
  · have h1 : sameE x y = false := by
      cases hs : sameE x y with
      | false => rfl
      | true => exact absurd ((sameE_iff x y).1 hs) h
    have h2 : sameE y x = false := by
      cases hs : sameE y x with
      | false => rfl
      | true => exact absurd ((sameE_iff y x).1 hs).symm h
    rw [h1, h2]
set_option maxHeartbeats 16000000 in
theorem confSames_calls (x y : En) (v u : Value) (w : World) (hv : BlobsAt w v x.ex) (hf : v = .slice none 0 0 ∨ ∃ a n c, v = .slice (some a) n c) (hu : BlobsAt w u y.ex) (hg : GT w) (hG : Ground w) :
    Calls Tryz.prog 7 #[enV x v, enV y u] w fun e w' => e = .returned (.bool true) ∧ Below w.heap.size w w' := by
  obtain ⟨a, cap, rfl, -⟩ := (id hv : BlobsAt w v x.ex)
  obtain ⟨a', cap', rfl, -⟩ := (id hu : BlobsAt w u y.ex)
  obtain ⟨w1, hw1, hX⟩ : ∃ w1, (w.alloc (.cells #[.string (mkB x.ver), .string (mkB x.kn), .string (mkB x.ks), .slice a x.ex.length cap, .string (mkB x.op)] 26)).alloc (.cells #[.string (mkB y.ver), .string (mkB y.kn), .string (mkB y.ks), .slice a' y.ex.length cap', .string (mkB y.op)] 26) = w1 ∧ Bx2 w w1 x y (.slice a x.ex.length cap) (.slice a' y.ex.length cap') :=
    ⟨_, rfl, ⟨by simp, by simp, by simp, by simp, by simp⟩, ⟨by simp, by simp, by simp, by simp, by simp⟩, ((Below.refl _ _).alloc (Nat.le_refl _) _).alloc (by simp) _⟩
  have kA := hidden (fun (wx : World) (hx : Bx2 w wx x y (.slice a x.ex.length cap) (.slice a' y.ex.length cap')) => awake_calls wx (hg.below hx.bl) (hG.below hx.bl))
  have kS := hidden (fun (wx : World) (hx : Bx2 w wx x y (.slice a x.ex.length cap) (.slice a' y.ex.length cap')) => small_calls x _ wx (hv.below hx.bl))
  have kT := hidden (fun (wx : World) (hx : Bx2 w wx x y (.slice a x.ex.length cap) (.slice a' y.ex.length cap')) => small_calls y _ wx (hu.below hx.bl))
  have kB := hidden (fun (hs : SmallE x) (wx : World) (hx : Bx2 w wx x y (.slice a x.ex.length cap) (.slice a' y.ex.length cap')) => blobs_calls x _ wx (hv.below hx.bl) hf (by have := hs.ex; omega))
  have k1 := hidden (fun (hs : SmallE x) (wx : World) (hx : Bx2 w wx x y (.slice a x.ex.length cap) (.slice a' y.ex.length cap')) => same_calls x y _ _ wx (hv.below hx.bl) (hu.below hx.bl) (by have := hs.ex; omega))
  have k2 := hidden (fun (hs : SmallE x) (wx : World) (hx : Bx2 w wx x y (.slice a x.ex.length cap) (.slice a' y.ex.length cap')) => refsame_calls x y _ _ wx (hv.below hx.bl) (hu.below hx.bl) (by have := hs.ex; omega))
  have k3 := hidden (fun (hs : SmallE x) (wx : World) (hx : Bx2 w wx x y (.slice a x.ex.length cap) (.slice a' y.ex.length cap')) => same_calls x x _ _ wx (hv.below hx.bl) (hv.below hx.bl) (by have := hs.ex; omega))
  have k4 := hidden (fun (hs : SmallE y) (wx : World) (hx : Bx2 w wx x y (.slice a x.ex.length cap) (.slice a' y.ex.length cap')) => same_calls y x _ _ wx (hu.below hx.bl) (hv.below hx.bl) (by have := hs.ex; omega))
  rw [(sameE_iff x x).2 rfl] at k3
  rw [sameE_symm] at k4
  have hcx := hidden (fun (wx : World) (h : Bx2 w wx x y (.slice a x.ex.length cap) (.slice a' y.ex.length cap')) => (And.intro h.x.c0 (And.intro h.x.c1 (And.intro h.x.c2 (And.intro h.x.c3 (And.intro h.x.c4 (And.intro h.y.c0 (And.intro h.y.c1 (And.intro h.y.c2 (And.intro h.y.c3 h.y.c4))))))))))
  have hvv := hidden (fun (wx : World) (h : Bx2 w wx x y (.slice a x.ex.length cap) (.slice a' y.ex.length cap')) => hv.below h.bl)
  replace hw1 := hidden hw1
  replace hX := hidden hX
  generalize sameE x y = sm at k1 k2 k4
  clear hv hu hg hG hf
  unfold enV at *
  go_enter Tryz.func7, Tryz.ntmps7
  go_upto_region 1 with fail
  rw [hw1.out]
  clear hw1
  have kc := hidden (kS.out w1 hX.out)
  obtain ⟨c0, c1, c2, c3, c4, b0, b1, b2, b3, b4⟩ := hcx.out w1 hX.out
  go_wp2_with fail
  refine kc.out.mono ?_
  rintro e w2 ⟨⟨q, rfl, hq⟩, hb⟩
  have hX2 := hidden (hX.out.next hb)
  clear hb kc c0 c1 c2 c3 c4 b0 b1 b2 b3 b4
  cases q
  · clear hq
    have kA_ := hidden (kA.out w2 hX2.out)
    clear kA kS kT kB k1 k2 k3 k4
    go_wp2_with fail
    refine kA_.out.mono ?_
    rintro e wz ⟨rfl, hbz⟩
    have hZ := hidden (hX2.out.next hbz)
    clear hbz kA_
    go_wp2
    go_ret
    exact ⟨rfl, hZ.out.bl⟩
  · have hs1 : SmallE x := hq rfl
    clear hq
    have kc := hidden (kT.out w2 hX2.out)
    obtain ⟨c0, c1, c2, c3, c4, b0, b1, b2, b3, b4⟩ := hcx.out w2 hX2.out
    go_wp2_with fail
    refine kc.out.mono ?_
    rintro e w3 ⟨⟨q, rfl, hq⟩, hb⟩
    have hX3 := hidden (hX2.out.next hb)
    clear hb kc c0 c1 c2 c3 c4 b0 b1 b2 b3 b4
    cases q
    · clear hq
      have kA_ := hidden (kA.out w3 hX3.out)
      clear kA kS kT kB k1 k2 k3 k4
      go_wp2_with fail
      refine kA_.out.mono ?_
      rintro e wz ⟨rfl, hbz⟩
      have hZ := hidden (hX3.out.next hbz)
      clear hbz kA_
      go_wp2
      go_ret
      exact ⟨rfl, hZ.out.bl⟩
    · have hs2 : SmallE y := hq rfl
      clear hq
      have kc := hidden (kB.out hs1 w3 hX3.out)
      obtain ⟨c0, c1, c2, c3, c4, b0, b1, b2, b3, b4⟩ := hcx.out w3 hX3.out
      go_wp2_with fail
      refine kc.out.mono ?_
      rintro e w4 ⟨u5, rfl, hO, hb⟩
      have hX4 := hidden (hX3.out.next hb)
      clear hb kc c0 c1 c2 c3 c4 b0 b1 b2 b3 b4
      obtain ⟨L, hL⟩ : ∃ L, x.ex.length = L := ⟨_, rfl⟩
      have hLs : L ≤ 20 := by rw [← hL]; exact hs1.ex
      obtain ⟨g, cp, rfl, hg1, hcp, hcel⟩ : ∃ g cp, u5 = .slice (some ⟨g, 0, none⟩) (L + 1) cp ∧ g < w4.heap.size ∧ L + 1 ≤ cp ∧ ∀ k r, ((x.kn, x.ks) :: x.ex)[k]? = some r → w4.cell? ⟨g, k * 2, none⟩ = some (.string (mkB r.1)) ∧ w4.cell? ⟨g, k * 2 + 1, none⟩ = some (.string (mkB r.2)) := by
        obtain ⟨a5, c5, hv5, hc5, hx5⟩ := hO.at
        obtain ⟨b5, off5, rfl, hb5, hh⟩ := hx5 (by simp)
        rcases hO.form2 with ⟨e0, -⟩ | ⟨g, cp, hv, -, hlt, -⟩
        · rw [e0] at hv5; cases hv5
        · rw [hv] at hv5
          obtain ⟨e1, -, rfl⟩ := Value.slice.inj hv5
          simp only [Option.some.injEq, Addr.mk.injEq, and_true] at e1
          obtain ⟨rfl, rfl⟩ := e1
          refine ⟨g, cp, by rw [hv]; simp [hL], hlt, by simpa [hL] using hc5, fun k r hk => ?_⟩
          have := hh k r hk
          simpa using this
      have z0 : w4.cell? ⟨g, 0, none⟩ = some (.string (mkB x.kn)) := (hcel 0 _ rfl).1
      have z1 : w4.cell? ⟨g, 1, none⟩ = some (.string (mkB x.ks)) := (hcel 0 _ rfl).2
      have eK := fun w => neq_bl (x.kn, x.ks) (x.kn, x.ks) w
      rw [(sameB_iff _ _).2 rfl] at eK
      simp only [] at eK
      obtain ⟨c0, c1, c2, c3, c4, -, -, -, -, -⟩ := hcx.out w4 hX4.out
      rw [hL] at c3
      have hcpi : (0 : Int) < (cp : Int) := by omega
      have hL1 : (0 : Int) < (L : Int) + 1 := by omega
      replace hcel := hidden hcel
      replace hL := hidden hL
      clear hO
      go_upto_region 4 with fail
      go_quiet (fail)
      have hb5 : Below w4.heap.size w4 (w4.drewN nq) := below_drewN (Below.refl _ _) nq
      generalize w4.drewN nq = w5 at hb5 ⊢
      have hX5 := hidden (hX4.out.next hb5)
      clear z0 z1 c0 c1 c2 c3 c4 eK
      replace hb5 := hidden hb5
      go_wp2_with fail
      go_loopg [6] (L + 1) (fun gk i wr => ∃ K : Nat, 1 ≤ K ∧ K ≤ L + 1 ∧ gk = L + 2 - K ∧ i = .int .i64 (K : Int) ∧ Hid (Below w5.heap.size w5 wr))
      case atStart => exact ⟨1, Nat.le_refl _, by omega, by omega, rfl, hidden (Below.refl _ _)⟩
      case round =>
        obtain ⟨K, hK1, hK2, hg, rfl, hV⟩ := hrel
        replace hg := hidden hg
        have hX6 := hidden (hX5.out.next hV.out)
        by_cases hlt : K < L + 1
        · obtain ⟨k, hk⟩ : ∃ k, K = k + 1 := ⟨K - 1, by omega⟩
          subst hk
          have hltI : ((k + 1 : Nat) : Int) < (L : Int) + 1 := by omega
          have hm1 : ((k + 1 : Nat) : Int) - 1 = (k : Int) := by omega
          have hkL : (k : Int) < (L : Int) := by omega
          obtain ⟨p, hp⟩ : ∃ p, x.ex[k]? = some p := ⟨_, List.getElem?_eq_getElem (by rw [hL.out]; omega)⟩
          obtain ⟨bb, off, cap2, hvx, hcap2, hbb, y0, y1⟩ := (hvv.out wr hX6.out).cells hp
          obtain ⟨e1, -, e3⟩ := Value.slice.inj hvx
          subst e1 e3
          rw [hL.out] at hcap2
          have hcapI : (L : Int) ≤ (cap : Int) := by omega
          obtain ⟨q0, q1⟩ := hcel.out (k + 1) p (by simpa using hp)
          have hg5 : g < w5.heap.size := Nat.lt_of_lt_of_le hg1 hb5.out.size
          have gy : ∀ (j : Nat) (u : Value), w4.cell? ⟨g, j, none⟩ = some u → wr.cell? ⟨g, j, none⟩ = some u := fun j u h => (hV.out.cell (p := ⟨g, j, none⟩) hg5).trans ((hb5.out.cell (p := ⟨g, j, none⟩) hg1).trans h)
          have z0 := gy _ _ q0
          have z1 := gy _ _ q1
          have eY := fun w => neq_bl p p w
          rw [(sameB_iff p p).2 rfl] at eY
          obtain ⟨c0, c1, c2, c3, c4, -, -, -, -, -⟩ := hcx.out wr hX6.out
          rw [hL.out] at c3
          have hlcp : ((k + 1 : Nat) : Int) < (cp : Int) := by omega
          clear q0 q1 gy hvx hp
          go_upto_region 9 with fail
          go_quiet (fail)
          have hb6 : Hid (Below w5.heap.size w5 (wr.drewN nq)) := hidden (below_drewN hV.out nq)
          generalize wr.drewN nq = w7 at hb6 ⊢
          clear z0 z1 y0 y1 c0 c1 c2 c3 c4 eY
          go_wp2
          go_roundg (L + 2 - (k + 2))
          case measure => rw [hg.out]; omega
          case rel => exact ⟨k + 2, by omega, by omega, rfl, by simp; omega, hb6⟩
        · obtain rfl : K = L + 1 := by omega
          have hltI : ¬ ((L + 1 : Nat) : Int) < (L : Int) + 1 := by omega
          generalize wr = w6 at hX6 ⊢
          obtain ⟨c0, c1, c2, c3, c4, b0, b1, b2, b3, b4⟩ := hcx.out w6 hX6.out
          have q1 : ∀ d os, Calls Tryz.prog 21 #[Value.agg #[Value.string (mkB x.ver), Value.string (mkB x.kn), Value.string (mkB x.ks), Value.slice a x.ex.length cap, Value.string (mkB x.op)], Value.agg #[Value.string (mkB y.ver), Value.string (mkB y.kn), Value.string (mkB y.ks), Value.slice a' y.ex.length cap', Value.string (mkB y.op)]] (Go.Sort.grow (redrawn w6 d) os) fun e w'' => e = .returned (.bool sm) ∧ ∃ p : Regrown, w'' = Go.Sort.grow (redrawn w6 p.d) p.os := fun d os => Calls.regrown_of (k1.out hs1 _ (hX6.out.next (below_regrown w6 d os)))
          replace q1 := hidden q1
          have q2 : ∀ d os, Calls Tryz.prog 13 #[Value.agg #[Value.string (mkB x.ver), Value.string (mkB x.kn), Value.string (mkB x.ks), Value.slice a x.ex.length cap, Value.string (mkB x.op)], Value.agg #[Value.string (mkB y.ver), Value.string (mkB y.kn), Value.string (mkB y.ks), Value.slice a' y.ex.length cap', Value.string (mkB y.op)]] (Go.Sort.grow (redrawn w6 d) os) fun e w'' => e = .returned (.bool sm) ∧ ∃ p : Regrown, w'' = Go.Sort.grow (redrawn w6 p.d) p.os := fun d os => Calls.regrown_of (k2.out hs1 _ (hX6.out.next (below_regrown w6 d os)))
          replace q2 := hidden q2
          have q3 : ∀ d os, Calls Tryz.prog 21 #[Value.agg #[Value.string (mkB x.ver), Value.string (mkB x.kn), Value.string (mkB x.ks), Value.slice a x.ex.length cap, Value.string (mkB x.op)], Value.agg #[Value.string (mkB x.ver), Value.string (mkB x.kn), Value.string (mkB x.ks), Value.slice a x.ex.length cap, Value.string (mkB x.op)]] (Go.Sort.grow (redrawn w6 d) os) fun e w'' => e = .returned (.bool true) ∧ ∃ p : Regrown, w'' = Go.Sort.grow (redrawn w6 p.d) p.os := fun d os => Calls.regrown_of (k3.out hs1 _ (hX6.out.next (below_regrown w6 d os)))
          replace q3 := hidden q3
          have q4 : ∀ d os, Calls Tryz.prog 21 #[Value.agg #[Value.string (mkB y.ver), Value.string (mkB y.kn), Value.string (mkB y.ks), Value.slice a' y.ex.length cap', Value.string (mkB y.op)], Value.agg #[Value.string (mkB x.ver), Value.string (mkB x.kn), Value.string (mkB x.ks), Value.slice a x.ex.length cap, Value.string (mkB x.op)]] (Go.Sort.grow (redrawn w6 d) os) fun e w'' => e = .returned (.bool sm) ∧ ∃ p : Regrown, w'' = Go.Sort.grow (redrawn w6 p.d) p.os := fun d os => Calls.regrown_of (k4.out hs2 _ (hX6.out.next (below_regrown w6 d os)))
          replace q4 := hidden q4
          have q5 : ∀ d os, Calls Tryz.prog 11 #[] (Go.Sort.grow (redrawn w6 d) os) fun e w'' => e = .returned (.bool true) ∧ ∃ p : Regrown, w'' = Go.Sort.grow (redrawn w6 p.d) p.os := fun d os => Calls.regrown_of (kA.out _ (hX6.out.next (below_regrown w6 d os)))
          replace q5 := hidden q5
          have r0 := cell_regrown c0
          have r1 := cell_regrown c1
          have r2 := cell_regrown c2
          have r3 := cell_regrown c3
          have r4 := cell_regrown c4
          have r5 := cell_regrown b0
          have r6 := cell_regrown b1
          have r7 := cell_regrown b2
          have r8 := cell_regrown b3
          have r9 := cell_regrown b4
          clear kA kS kT kB k1 k2 k3 k4 hcx hvv hcel hX2 hX3 hX4 hX5 c0 c1 c2 c3 c4 b0 b1 b2 b3 b4
          go_upto_region 11 with fail
          cases sm
          · refine wp_region_quiet_below (by kernel_rfl) (by kernel_rfl) ?_
            iterate 25 (go_big_quiet_step (first | with_reducible exact q1.out _ _ | with_reducible exact q2.out _ _ | with_reducible exact q3.out _ _ | with_reducible exact q4.out _ _ | with_reducible exact q5.out _ _))
            refine wpQuiet_nil ?_
            intro _ hw'
            obtain ⟨⟨dq, osq⟩, hw''⟩ := hw'
            subst hw''
            have hX7 := hidden (hX6.out.next (below_regrown w6 dq osq))
            generalize Go.Sort.grow (redrawn w6 dq) osq = w7 at hX7 ⊢
            go_wp2
            go_ret
            exact ⟨rfl, hX7.out.bl⟩
          · refine wp_region_quiet_below (by kernel_rfl) (by kernel_rfl) ?_
            iterate 25 (go_big_quiet_step (first | with_reducible exact q1.out _ _ | with_reducible exact q2.out _ _ | with_reducible exact q3.out _ _ | with_reducible exact q4.out _ _ | with_reducible exact q5.out _ _))
            refine wpQuiet_nil ?_
            intro _ hw'
            obtain ⟨⟨dq, osq⟩, hw''⟩ := hw'
            subst hw''
            have hX7 := hidden (hX6.out.next (below_regrown w6 dq osq))
            generalize Go.Sort.grow (redrawn w6 dq) osq = w7 at hX7 ⊢
            go_wp2
            go_ret
            exact ⟨rfl, hX7.out.bl⟩
end Go.Proofs.YtdmlncdoibahiaaGreatDoor
