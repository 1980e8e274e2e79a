/- ConfParses: the document's own take of an extra blob's line, and of any line. -/
import Derived.Test.YtfoamhkgdlebdaaGreatDoorZS1
namespace Go.Proofs.YtfoamhkgdlebdaaGreatDoor
open Go.RowKit Go.Extern.Stop Go.Stop Go.Extern
set_option maxRecDepth 100000

/-- An append inside a region that draws. -/
theorem any_appendq {P : Program} {ops : Array Oper} {o : Oper} {a : Act} {w : World} {K : Act → World → Prop} {Q : Exit → Act → World → Prop} {s x : Operand} {t : TypeId} (hg : Region.wanted o (yielded ops a.tmps) = true)
    (ho : o.op = .call { callee := .builtin .append, args := #[s, x], argTypes := #[t, t] }) (v xv v' : Value) (w' : World) (hs : a.eval s = v) (hx : a.eval x = xv)
    (hr : (Builtin.append_ #[t, t] o.type #[v, xv]).run P w = .ok v' w') (h : K (a.put o.dst v') w') : if Region.wanted o (yielded ops a.tmps) = true then Oper.wp P o a w K Q else K (a.put o.dst undef) w := by
  rw [if_pos hg]
  unfold Oper.wp execOp
  simp only [ho, resolve, invoke, builtin, Sem.run_bind, Sem.run_pure, Result.andThen_ok, List.map_toArray, List.map_cons, List.map_nil, hs, hx, hr]
  exact h
section
variable (B b : Nat) (x : En) (v : Value) (w : World) (h : ESt B w b x v) (s : List UInt8) (hs : s.length ≤ 5000)
include h hs
set_option maxHeartbeats 8000000 in
theorem rt_ext (hV : afterT s kwV = none) (hO : afterT s kwO = none) (hK : afterT s kwK = none) :
    Calls Tryz.prog 20 #[.pointer (some ⟨b, 0, none⟩), .string (mkB s)] w fun e w' => e = .returned (.bool (refW x s).isSome) ∧ RTake B b w w' (refW x s) := by
  have kA := hidden (after_calls s kwV w (by omega) (by decide))
  have kA2 := hidden (after_calls s kwO w (by omega) (by decide))
  have kA3 := hidden (after_calls s kwK w (by omega) (by decide))
  have kA4 := hidden (after_calls s kwE w (by omega) (by decide))
  rw [hV] at kA
  rw [hO] at kA2
  rw [hK] at kA3
  obtain ⟨t, p0, ht, hta, htl⟩ : ∃ t p0, afterV (afterT s kwE) = .tuple #[.string (mkB t), .bool p0] ∧ (afterT s kwE = if p0 = true then some t else none) ∧ t.length ≤ 5000 := by
    cases he : afterT s kwE with
    | some t => exact ⟨t, true, rfl, by simp, by have := after_len he; omega⟩
    | none => exact ⟨[], false, rfl, by simp, by simp⟩
  rw [ht] at kA4
  have kBl := hidden (rblob_calls t w (by omega))
  have hW : refW x s = if (p0 && (rblob t).2 && decide (x.ex.length < 8)) = true then some ⟨x.ver, x.kn, x.ks, x.ex ++ [(rblob t).1], x.op⟩ else none := by
    unfold refW; rw [hV, hO, hK, hta]
    cases p0 with
    | false => simp
    | true =>
      simp only [if_true]
      rw [rblob_T]
      cases (rblob t).2 <;> simp
  have hbw := h.en.lt
  have hbB := h.hb
  have hBs := h.hs
  have hfew := h.few
  obtain ⟨a, cap, hvv⟩ := h.own.form
  subst hvv
  obtain ⟨L, hLL⟩ : ∃ L, x.ex.length = L := ⟨_, rfl⟩
  rw [hLL] at h hfew
  rw [hW, hLL]
  replace hLL := hidden hLL
  replace h := hidden h
  generalize (rblob t).2 = p2 at *
  generalize (rblob t).1 = nb at *
  clear hW hV hO hK ht hta htl
  obtain ⟨r, hr⟩ : ∃ r, (if (p0 && p2 && decide (L < 8)) = true then some (⟨x.ver, x.kn, x.ks, x.ex ++ [nb], x.op⟩ : En) else none) = r := ⟨_, rfl⟩
  rw [hr]
  replace hr := hidden hr
  unfold afterV at kA kA2 kA3
  unfold blV at kBl
  generalize mkB s = S at *
  go_enter Tryz.func20, Tryz.ntmps20
  go_wp2_with fail
  refine kA.out.mono ?_
  rintro e w1 ⟨rfl, hw1⟩
  subst w1
  dsimp only
  go_wp2_with fail
  refine kA2.out.mono ?_
  rintro e w1 ⟨rfl, hw1⟩
  subst w1
  dsimp only
  go_wp2_with fail
  refine kA3.out.mono ?_
  rintro e w1 ⟨rfl, hw1⟩
  subst w1
  dsimp only
  go_wp2_with fail
  refine kA4.out.mono ?_
  rintro e w1 ⟨rfl, hw1⟩
  subst w1
  dsimp only
  go_wp2_with fail
  refine kBl.out.mono ?_
  rintro e w1 ⟨rfl, hb1⟩
  dsimp only
  obtain ⟨w2, hw2, hb2, z0, z1⟩ : ∃ w2, w1.alloc (.cells #[.string (mkB nb.1), .string (mkB nb.2)] 26) = w2 ∧ Below w1.heap.size w1 w2 ∧ w2.cell? ⟨w1.heap.size, 0, none⟩ = some (.string (mkB nb.1)) ∧ w2.cell? ⟨w1.heap.size, 1, none⟩ = some (.string (mkB nb.2)) := ⟨_, rfl, (Below.refl _ _).alloc (Nat.le_refl _) _, by simp, by simp⟩
  have hB2 : Below w.heap.size w w2 := hb1.trans (hb2.mono hb1.size)
  have h2 := h.out.below hB2
  have c3 := h2.en.c3
  obtain ⟨wa, hwa⟩ : ∃ wa, (w2.alloc (.cells #[.string (mkB nb.1), .string (mkB nb.2)] 26)).drew = wa := ⟨_, rfl⟩
  have hbA : Below w2.heap.size w2 wa := by rw [← hwa]; exact ((Below.refl _ _).alloc (Nat.le_refl _) _).drew
  have y0 : wa.cell? ⟨w2.heap.size, 0, none⟩ = some (.string (mkB nb.1)) := by rw [← hwa]; simp
  have y1 : wa.cell? ⟨w2.heap.size, 1, none⟩ = some (.string (mkB nb.2)) := by rw [← hwa]; simp
  have hSa := h2.below hbA
  obtain ⟨v4, w4, hrun, hO4, hB4⟩ := hSa.own.push (ST := 27) Tryz.underlying27 (by kernel_rfl) nb ⟨w2.heap.size, 0, none⟩ 1 y0 (by simpa [Addr.add] using y1) (by have := hLL.out; omega) hSa.hs 27
  have c3a : (w2.alloc (.cells #[.string (mkB nb.1), .string (mkB nb.2)] 26)).cell? ⟨b, 3, none⟩ = some (.slice a L cap) := (h2.below ((Below.refl _ _).alloc (Nat.le_refl _) _)).en.c3
  have e4 : EnAt w4 b x (.slice a L cap) ∧ ∀ j, w4.frozen? ⟨b, j, none⟩ = false := ⟨⟨(hB4.cell (p := ⟨b, 0, none⟩) hbB).trans hSa.en.c0, (hB4.cell (p := ⟨b, 1, none⟩) hbB).trans hSa.en.c1, (hB4.cell (p := ⟨b, 2, none⟩) hbB).trans hSa.en.c2, (hB4.cell (p := ⟨b, 3, none⟩) hbB).trans hSa.en.c3, (hB4.cell (p := ⟨b, 4, none⟩) hbB).trans hSa.en.c4⟩, fun j => (hB4.frozen (p := ⟨b, j, none⟩) hbB).trans (hSa.fz j)⟩
  have c3' := e4.1.c3
  have f3' := e4.2 3
  obtain ⟨a4, cap4, rfl⟩ := hO4.form
  have hl4 : (x.ex ++ [nb]).length = L + 1 := by simp [hLL.out]
  rw [hl4] at hrun hO4
  rw [← hwa] at hrun
  have hB24 : Below B w2 w4 := (hbA.mono h2.hs).trans hB4
  have hkp : Kp B b w (w4.setCell ⟨b, 3, none⟩ (.slice a4 (L + 1) cap4)) := ((Kp.below (hB2.mono hBs) (Nat.le_of_lt hbB)).trans (Kp.below hB24 (Nat.le_of_lt hbB))).trans (Kp.apart ((Apart.refl [b] _).setCell (by simp) _) (Or.inl rfl) (Nat.le_of_lt hbB) (Nat.le_trans h2.hs hB24.size))
  have hst : L + 1 ≤ 8 → ESt B (w4.setCell ⟨b, 3, none⟩ (.slice a4 (L + 1) cap4)) b ⟨x.ver, x.kn, x.ks, x.ex ++ [nb], x.op⟩ (.slice a4 (L + 1) cap4) := fun h8 =>
    ⟨⟨(World.cell?_setCell_other _ _ _ _ (by simp)).trans e4.1.c0, (World.cell?_setCell_other _ _ _ _ (by simp)).trans e4.1.c1, (World.cell?_setCell_other _ _ _ _ (by simp)).trans e4.1.c2, World.cell?_setCell_same' _ _ _ (by rw [c3']; rfl), (World.cell?_setCell_other _ _ _ _ (by simp)).trans e4.1.c4⟩, fun j => by simpa using e4.2 j, hO4.keep ((Apart.refl [b] _).setCell (by simp) _) (by simp; exact hbB), by rw [hl4]; exact h8, hbB, by have := hB24.size; have := h2.hs; simp; omega⟩
  have hfin := hidden (And.intro hkp hst)
  have hne : ¬ w1.heap.size = b := by have := hb1.size; omega
  have d3 : (w4.setCell ⟨b, 3, none⟩ (.slice a4 (L + 1) cap4)).cell? ⟨b, 3, none⟩ = some (.slice a4 (L + 1) cap4) := World.cell?_setCell_same' _ _ _ (by rw [c3']; rfl)
  replace hrun := hidden hrun
  clear hkp hst h2 hB2 hb2 hb1 kBl kA kA2 kA3 kA4 hSa hbA y0 y1 hO4 hB4 e4 hB24 hwa hl4
  replace hw2 := hidden hw2
  go_upto_region 19 with fail
  rw [hw2.out]
  clear hw2
  go_region_law (refine any_appendq (s := .tmp 102) (x := .tmp 104) (t := 27) rfl rfl _ _ _ w4 rfl rfl hrun.out ?_)
  all_goals
    generalize w4.setCell ⟨b, 3, none⟩ (.slice a4 (L + 1) cap4) = w5 at *
    cases p0
    · obtain rfl : none = r := by rw [← hr.out]; simp
      go_wp2
      go_ret
      exact ⟨rfl, hfin.out.1, fun y hy => by simp at hy⟩
    · cases p2
      · obtain rfl : none = r := by rw [← hr.out]; simp
        go_wp2
        go_ret
        exact ⟨rfl, hfin.out.1, fun y hy => by simp at hy⟩
      · by_cases h8 : L < 8
        · obtain rfl : some (⟨x.ver, x.kn, x.ks, x.ex ++ [nb], x.op⟩ : En) = r := by rw [← hr.out]; simp [h8]
          have h8I : (L : Int) + 1 ≤ 8 := by omega
          have hfin2 := hidden (And.intro hfin.out.1 (hfin.out.2 h8))
          clear hr h8 hfin
          go_wp2
          go_ret
          refine ⟨rfl, hfin2.out.1, fun y hy => ?_⟩
          simp at hy
          subst hy
          exact ⟨_, hfin2.out.2⟩
        · obtain rfl : none = r := by rw [← hr.out]; simp [h8]
          have h8I : ¬ (L : Int) + 1 ≤ 8 := by omega
          clear hr h8
          go_wp2
          go_ret
          exact ⟨rfl, hfin.out.1, fun y hy => by simp at hy⟩
theorem rtake_calls :
    Calls Tryz.prog 20 #[.pointer (some ⟨b, 0, none⟩), .string (mkB s)] w fun e w' => e = .returned (.bool (refW x s).isSome) ∧ RTake B b w w' (refW x s) := by
  cases hV : afterT s kwV with
  | some t => exact rt_ver B b x v w h s hs t hV
  | none =>
    cases hO : afterT s kwO with
    | some t => exact rt_opt B b x v w h s hs t hV hO
    | none =>
      cases hK : afterT s kwK with
      | some t => exact rt_ker B b x v w h s hs t hV hO hK
      | none => exact rt_ext B b x v w h s hs hV hO hK
end
end Go.Proofs.YtfoamhkgdlebdaaGreatDoor
