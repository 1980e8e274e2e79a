/- ConfParses: the document's own take of a kernel's line. -/
import Derived.Test.YtfoamhkgdlebdaaGreatDoorZS
namespace Go.Proofs.YtfoamhkgdlebdaaGreatDoor
open Go.RowKit Go.Extern.Stop Go.Stop Go.Extern
set_option maxRecDepth 100000

section
variable (B b : Nat) (x : En) (v : Value) (w : World) (h : ESt B w b x v) (s : List UInt8) (hs : s.length ≤ 5000)
include h hs
set_option maxHeartbeats 4000000 in
theorem rt_ker (t : List UInt8) (hV : afterT s kwV = none) (hO : afterT s kwO = none) (hK : afterT s kwK = some t) :
    Calls Tryz.prog 20 #[.pointer (some ⟨b, 0, none⟩), .string (mkB s)] w fun e w' => e = .returned (.bool (refW x s).isSome) ∧ RTake B b w w' (refW x s) := by
  have kA := hidden (after_calls s kwV w (by omega) (by decide))
  have kA2 := hidden (after_calls s kwO w (by omega) (by decide))
  have kA3 := hidden (after_calls s kwK w (by omega) (by decide))
  rw [hV] at kA
  rw [hO] at kA2
  rw [hK] at kA3
  have kBl := hidden (rblob_calls t w (by have := after_len hK; omega))
  have hW : refW x s = if ((rblob t).2 && x.kn.isEmpty) = true then some ⟨x.ver, (rblob t).1.1, (rblob t).1.2, x.ex, x.op⟩ else none := by
    unfold refW; rw [hV, hO, hK]
    simp only []
    rw [rblob_T]
    cases (rblob t).2 <;> simp
  have hE : (mkB x.kn).toList.isEmpty = x.kn.isEmpty := by rw [mk_toList]
  have hbw := h.en.lt
  have hbB := h.hb
  have hBs := h.hs
  replace h := hidden h
  rw [hW]
  generalize (rblob t).2 = p2 at *
  generalize (rblob t).1 = nb at *
  generalize x.kn.isEmpty = p1 at *
  clear hW hV hO hK
  unfold afterV at kA kA2 kA3
  unfold blV at kBl
  generalize mkB s = S at *
  go_enter Tryz.func20, Tryz.ntmps20
  go_wp2_with fail
  refine kA.out.mono ?_
  rintro e w1 ⟨rfl, hw1⟩
  subst w1
  dsimp only
  go_wp2_with fail
  refine kA2.out.mono ?_
  rintro e w1 ⟨rfl, hw1⟩
  subst w1
  dsimp only
  go_wp2_with fail
  refine kA3.out.mono ?_
  rintro e w1 ⟨rfl, hw1⟩
  subst w1
  dsimp only
  go_wp2_with fail
  refine kBl.out.mono ?_
  rintro e w1 ⟨rfl, hb1⟩
  dsimp only
  obtain ⟨w2, hw2, hb2, z0, z1⟩ : ∃ w2, w1.alloc (.cells #[.string (mkB nb.1), .string (mkB nb.2)] 26) = w2 ∧ Below w1.heap.size w1 w2 ∧ w2.cell? ⟨w1.heap.size, 0, none⟩ = some (.string (mkB nb.1)) ∧ w2.cell? ⟨w1.heap.size, 1, none⟩ = some (.string (mkB nb.2)) := ⟨_, rfl, (Below.refl _ _).alloc (Nat.le_refl _) _, by simp, by simp⟩
  have hB2 : Below w.heap.size w w2 := hb1.trans (hb2.mono hb1.size)
  have h2 := h.out.below hB2
  have c1 := h2.en.c1
  have c2 := h2.en.c2
  have f1 := h2.fz 1
  have f2 := h2.fz 2
  have hT : Two w2 ((w2.setCell ⟨b, 1, none⟩ (.string (mkB nb.1))).setCell ⟨b, 1 + 1, none⟩ (.string (mkB nb.2))) b 1 nb := ⟨((Apart.refl _ _).setCell (by simp) _).setCell (by simp) _, rfl⟩
  have hkp : Kp B b w ((w2.setCell ⟨b, 1, none⟩ (.string (mkB nb.1))).setCell ⟨b, 2, none⟩ (.string (mkB nb.2))) := (Kp.below (hB2.mono hBs) (Nat.le_of_lt hbB)).trans (Kp.apart hT.ap (Or.inl rfl) (Nat.le_of_lt hbB) h2.hs)
  have hfin := hidden (show ESt B ((w2.setCell ⟨b, 1, none⟩ (.string (mkB nb.1))).setCell ⟨b, 2, none⟩ (.string (mkB nb.2))) b ⟨x.ver, nb.1, nb.2, x.ex, x.op⟩ v ∧ Kp B b w ((w2.setCell ⟨b, 1, none⟩ (.string (mkB nb.1))).setCell ⟨b, 2, none⟩ (.string (mkB nb.2))) from ⟨h2.two1 hT, hkp⟩)
  have hne : ¬ w1.heap.size = b := by have := hb1.size; omega
  clear hT hkp h2 hB2 hb2 hb1 kBl kA kA2 kA3
  replace hw2 := hidden hw2
  go_upto_region 14 with fail
  rw [hw2.out]
  clear hw2
  cases p2
  · cases p1 <;>
    · go_wp2
      go_ret
      exact ⟨rfl, hfin.out.2, fun y hy => by simp at hy⟩
  · cases p1
    · go_wp2
      go_ret
      exact ⟨rfl, hfin.out.2, fun y hy => by simp at hy⟩
    · go_wp2
      go_ret
      refine ⟨rfl, hfin.out.2, fun y hy => ?_⟩
      simp at hy
      subst hy
      exact ⟨_, hfin.out.1⟩
end
end Go.Proofs.YtfoamhkgdlebdaaGreatDoor
