/- ConfParses: the document's own take, by its words. -/
import Derived.Test.YtfoamhkgdlebdaaGreatDoorZQ2
import Derived.Deep.RegionLaw
namespace Go.Proofs.YtfoamhkgdlebdaaGreatDoor
open Go.RowKit Go.Extern.Stop Go.Stop Go.Extern
set_option maxRecDepth 100000

/-- What the document's own take leaves: the entry, if the line is one. -/
def RTake (B b : Nat) (w w' : World) (r : Option En) : Prop := Kp B b w w' ∧ ∀ y, r = some y → ∃ v', ESt B w' b y v'
theorem litV : (⟨#[118, 101, 114, 115, 105, 111, 110]⟩ : ByteArray) = mkB kwV := rfl
theorem litO : (⟨#[111, 112, 116, 105, 111, 110, 115]⟩ : ByteArray) = mkB kwO := rfl
theorem litK : (⟨#[107, 101, 114, 110, 101, 108]⟩ : ByteArray) = mkB kwK := rfl
theorem litE : (⟨#[101, 120, 116, 114, 97]⟩ : ByteArray) = mkB kwE := rfl
theorem after_len {s k t : List UInt8} (h : afterT s k = some t) : t.length ≤ s.length := by
  unfold afterT at h
  split at h
  · cases h; simp
  · cases h
section
variable (B b : Nat) (x : En) (v : Value) (w : World) (h : ESt B w b x v) (s : List UInt8) (hs : s.length ≤ 5000)
include h hs
set_option maxHeartbeats 2000000 in
theorem rt_ver (t : List UInt8) (hV : afterT s kwV = some t) :
    Calls Tryz.prog 20 #[.pointer (some ⟨b, 0, none⟩), .string (mkB s)] w fun e w' => e = .returned (.bool (refW x s).isSome) ∧ RTake B b w w' (refW x s) := by
  have kA := hidden (after_calls s kwV w (by omega) (by decide))
  rw [hV] at kA
  have kVo := hidden (refver_calls (mkB t) w)
  rw [mk_list] at kVo
  have hW : refW x s = if (x.ver.isEmpty && verB t) = true then some ⟨t, x.kn, x.ks, x.ex, x.op⟩ else none := by unfold refW; rw [hV]
  have hE : (mkB x.ver).toList.isEmpty = x.ver.isEmpty := by rw [mk_toList]
  have c0 := h.en.c0
  have f0 := h.fz 0
  have hP : Put w (w.setCell ⟨b, 0, none⟩ (.string (mkB t))) b 0 t := ⟨(Apart.refl _ _).setCell (by simp) _, rfl⟩
  have hst := h.put0 hP
  have hkp : Kp B b w (w.setCell ⟨b, 0, none⟩ (.string (mkB t))) := Kp.apart hP.ap (Or.inl rfl) (Nat.le_of_lt h.hb) h.hs
  have hfin := hidden (And.intro hst hkp)
  rw [hW]
  generalize x.ver.isEmpty = p1 at *
  generalize verB t = p2 at *
  clear hP hst hkp h hW hV
  unfold afterV at kA
  generalize mkB s = S at *
  go_enter Tryz.func20, Tryz.ntmps20
  go_wp2_with fail
  refine kA.out.mono ?_
  rintro e w1 ⟨rfl, hw1⟩
  subst w1
  dsimp only
  cases p1
  · go_wp2
    go_ret
    exact ⟨rfl, hfin.out.2, fun y hy => by simp at hy⟩
  · go_wp2_with fail
    refine kVo.out.mono ?_
    rintro e w1 ⟨rfl, hw1⟩
    subst w1
    cases p2
    · go_wp2
      go_ret
      exact ⟨rfl, hfin.out.2, fun y hy => by simp at hy⟩
    · go_wp2
      go_ret
      refine ⟨rfl, hfin.out.2, fun y hy => ?_⟩
      simp at hy
      subst hy
      exact ⟨_, hfin.out.1⟩
set_option maxHeartbeats 2000000 in
theorem rt_opt (t : List UInt8) (hV : afterT s kwV = none) (hO : afterT s kwO = some t) :
    Calls Tryz.prog 20 #[.pointer (some ⟨b, 0, none⟩), .string (mkB s)] w fun e w' => e = .returned (.bool (refW x s).isSome) ∧ RTake B b w w' (refW x s) := by
  have kA := hidden (after_calls s kwV w (by omega) (by decide))
  have kA2 := hidden (after_calls s kwO w (by omega) (by decide))
  rw [hV] at kA
  rw [hO] at kA2
  have kVo := hidden (refopt_calls t w)
  have hW : refW x s = if (x.op.isEmpty && nE t && optB t) = true then some ⟨x.ver, x.kn, x.ks, x.ex, t⟩ else none := by unfold refW; rw [hV, hO]
  have hE : (mkB x.op).toList.isEmpty = x.op.isEmpty := by rw [mk_toList]
  have hE2 : (mkB t).toList.isEmpty = t.isEmpty := by rw [mk_toList]
  have c0 := h.en.c4
  have f0 := h.fz 4
  have hP : Put w (w.setCell ⟨b, 4, none⟩ (.string (mkB t))) b 4 t := ⟨(Apart.refl _ _).setCell (by simp) _, rfl⟩
  have hst := h.put4 hP
  have hkp : Kp B b w (w.setCell ⟨b, 4, none⟩ (.string (mkB t))) := Kp.apart hP.ap (Or.inl rfl) (Nat.le_of_lt h.hb) h.hs
  have hfin := hidden (And.intro hst hkp)
  rw [hW]
  unfold nE
  generalize x.op.isEmpty = p1 at *
  generalize t.isEmpty = p3 at *
  generalize optB t = p2 at *
  clear hP hst hkp h hW hV hO
  unfold afterV at kA kA2
  generalize mkB s = S at *
  go_enter Tryz.func20, Tryz.ntmps20
  go_wp2_with fail
  refine kA.out.mono ?_
  rintro e w1 ⟨rfl, hw1⟩
  subst w1
  dsimp only
  go_wp2_with fail
  refine kA2.out.mono ?_
  rintro e w1 ⟨rfl, hw1⟩
  subst w1
  dsimp only
  cases p1
  · go_wp2
    go_ret
    exact ⟨rfl, hfin.out.2, fun y hy => by simp at hy⟩
  · cases p3
    · go_wp2_with fail
      refine kVo.out.mono ?_
      rintro e w1 ⟨rfl, hw1⟩
      subst w1
      cases p2
      · go_wp2
        go_ret
        exact ⟨rfl, hfin.out.2, fun y hy => by simp at hy⟩
      · go_wp2
        go_ret
        refine ⟨rfl, hfin.out.2, fun y hy => ?_⟩
        simp at hy
        subst hy
        exact ⟨_, hfin.out.1⟩
    · go_wp2
      go_ret
      exact ⟨rfl, hfin.out.2, fun y hy => by simp at hy⟩
end
end Go.Proofs.YtfoamhkgdlebdaaGreatDoor
