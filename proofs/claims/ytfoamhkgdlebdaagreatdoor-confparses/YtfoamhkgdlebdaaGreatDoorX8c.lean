/- conf.take: an extra blob's line. -/
import Derived.Test.YtfoamhkgdlebdaaGreatDoorX7
namespace Go.Proofs.YtfoamhkgdlebdaaGreatDoor
open Go.RowKit Go.Extern.Stop Go.Stop Go.Extern
set_option maxRecDepth 100000

set_option maxHeartbeats 8000000 in
theorem take_ext (B b : Nat) (x : En) (v : Value) (w : World) (h : ESt B w b x v) (c : UInt8) (l n s : List UInt8) (hc : c ≠ 35) (hl : l.length < 100000) (hn : (cutSp (c :: l)).1 = n) (hs : (cutSp (c :: l)).2 = s) (hw : n = kwE) (hlt : x.ex.length < 8) :
    Calls Tryz.prog 26 #[.pointer (some ⟨b, 0, none⟩), .string (mkB (c :: l))] w fun e w' => e = .returned (.bool (setB ([], []) s).isSome) ∧ TakeEnd B b w w' ((setB ([], []) s).map fun b => ⟨x.ver, x.kn, x.ks, x.ex ++ [b], x.op⟩) := by
  have kC := hidden (cut_calls (c :: l) w (by simp; omega))
  have hsl := (sp_len (c :: l)).2
  rw [hn, hs] at kC
  rw [hs] at hsl
  have hBw := h.hs
  have hbB := h.hb
  have hE : (mkB (c :: l)).toList.isEmpty = false := by rw [mk_toList]; rfl
  have hx := first_run c l
  have hy := none_run c hc
  have q1 : ((mkB n).toList == [101, 120, 116, 114, 97]) = true := by rw [mk_toList, hw]; decide
  have hs1 : s.length ≤ 100000 := by simp at hsl; omega
  obtain ⟨r, hr⟩ : ∃ r, setB ([], []) s = r := ⟨_, rfl⟩
  have kS : Hid (∀ (g j : Nat) (wx : World), wx.cell? ⟨g, j, none⟩ = some (.string (mkB [])) → wx.cell? ⟨g, j + 1, none⟩ = some (.string (mkB [])) → (∀ k, wx.frozen? ⟨g, k, none⟩ = false) → Calls Tryz.prog 47 #[.pointer (some ⟨g, j, none⟩), .string (mkB s)] wx fun e w' => e = .returned (.bool r.isSome) ∧ SetEnd wx w' g j r) := hidden (fun g j wx h0 h1 hf => by have := setBlob_calls g j ([], []) s wx h0 h1 hf hs1; rw [hr] at this; exact this)
  rw [hr]
  obtain ⟨a, cap, hvv⟩ := h.own.form
  subst hvv
  have hL : (x.ex.length : Int) < 8 := by omega
  obtain ⟨L, hLL⟩ : ∃ L, x.ex.length = L := ⟨_, rfl⟩
  rw [hLL] at h hL hlt
  replace hLL := hidden hLL
  replace h := hidden h
  clear hn hs hw hc hl hr hsl hs1
  go_enter Tryz.func26, Tryz.ntmps26
  go_upto_region 5 with (refine kC.out.mono ?_; rintro e w1 ⟨⟨tt, rfl⟩, hB1⟩; replace hB1 := hidden hB1)
  have h1 := h.out.below hB1.out
  have c3 := h1.en.c3
  have hB1s := h1.hs
  go_upto_region 10 with fail
  obtain ⟨W1, hW1⟩ : ∃ W1, w1.alloc (.cells #[.string ⟨#[]⟩, .string ⟨#[]⟩] 26) = W1 := ⟨_, rfl⟩
  have hbW : Below w1.heap.size w1 W1 := by rw [← hW1]; exact (Below.refl _ _).alloc (Nat.le_refl _) _
  have z0 : W1.cell? ⟨w1.heap.size, 0, none⟩ = some (.string (mkB [])) := by rw [← hW1]; simp; rfl
  have z1 : W1.cell? ⟨w1.heap.size, 1, none⟩ = some (.string (mkB [])) := by rw [← hW1]; simp; rfl
  have hS1 := h1.below hbW
  have hsz : B ≤ W1.heap.size := hS1.hs
  obtain ⟨v2, w2, hrun, hO2, hB2⟩ := hS1.own.push (ST := 27) Tryz.underlying27 (by kernel_rfl) ([], []) ⟨w1.heap.size, 0, none⟩ 1 z0 (by simpa [Addr.add] using z1) (by have := hLL.out; omega) hsz 27
  have hB2' : Below B w1 w2 := (hbW.mono h1.hs).trans hB2
  have e2 := hidden (show EnAt w2 b x (.slice a L cap) ∧ ∀ j, w2.frozen? ⟨b, j, none⟩ = false from ⟨⟨(hB2'.cell (p := ⟨b, 0, none⟩) hbB).trans h1.en.c0, (hB2'.cell (p := ⟨b, 1, none⟩) hbB).trans h1.en.c1, (hB2'.cell (p := ⟨b, 2, none⟩) hbB).trans h1.en.c2, (hB2'.cell (p := ⟨b, 3, none⟩) hbB).trans h1.en.c3, (hB2'.cell (p := ⟨b, 4, none⟩) hbB).trans h1.en.c4⟩, fun j => (hB2'.frozen (p := ⟨b, j, none⟩) hbB).trans (h1.fz j)⟩)
  have c3' := e2.out.1.c3
  have f3' := e2.out.2 3
  rw [← hW1] at hrun
  obtain ⟨g, cp, hv2, hg1, hg2, hg3⟩ : ∃ g cp, v2 = .slice (some ⟨g, 0, none⟩) (L + 1) cp ∧ B ≤ g ∧ g < w2.heap.size ∧ L + 1 ≤ cp := by
    obtain ⟨a', cp', hvv, hcp, -⟩ := hO2.at
    rcases hO2.form2 with ⟨-, e0⟩ | ⟨g, cp, hv, h1', h2', -⟩
    · simp at e0
    · rw [hv] at hvv
      obtain ⟨-, -, rfl⟩ := Value.slice.inj hvv
      rw [List.length_append, hLL.out] at hv hcp
      exact ⟨g, cp, hv, h1', h2', by simpa using hcp⟩
  subst hv2
  have hgb : g ≠ b := by omega
  have hS3 := hidden (show ESt B (w2.setCell ⟨b, 3, none⟩ (.slice (some ⟨g, 0, none⟩) (L + 1) cp)) b ⟨x.ver, x.kn, x.ks, x.ex ++ [([], [])], x.op⟩ (.slice (some ⟨g, 0, none⟩) (L + 1) cp) from
    ⟨⟨(World.cell?_setCell_other _ _ _ _ (by simp)).trans e2.out.1.c0, (World.cell?_setCell_other _ _ _ _ (by simp)).trans e2.out.1.c1, (World.cell?_setCell_other _ _ _ _ (by simp)).trans e2.out.1.c2, World.cell?_setCell_same' _ _ _ (by rw [c3']; rfl), (World.cell?_setCell_other _ _ _ _ (by simp)).trans e2.out.1.c4⟩, fun j => by simpa using e2.out.2 j, hO2.keep ((Apart.refl [b] _).setCell (by simp) _) (by simp; exact hbB), by simp [hLL.out]; omega, hbB, by have := hB2'.size; simp; omega⟩)
  have hB3 := hidden (show Kp B b w (w2.setCell ⟨b, 3, none⟩ (.slice (some ⟨g, 0, none⟩) (L + 1) cp)) from ((Kp.below (hB1.out.mono hBw) (Nat.le_of_lt hbB)).trans (Kp.below hB2' (Nat.le_of_lt hbB))).trans (Kp.apart ((Apart.refl [b] _).setCell (by simp) _) (Or.inl rfl) (Nat.le_of_lt hbB) (by have := hB2'.size; omega)))
  replace hrun := hidden hrun
  replace h1 := hidden h1
  clear z0 z1 hS1 hsz hB2 hbW kC hB2' hO2 hW1 e2
  go_wp2_with (at_builtin; refine wpList_append_eq _ _ 27 rfl _ _ _ w2 rfl rfl hrun.out rfl ?_)
  obtain ⟨w3, hw3⟩ : ∃ w3, w2.setCell ⟨b, 3, none⟩ (.slice (some ⟨g, 0, none⟩) (L + 1) cp) = w3 := ⟨_, rfl⟩
  rw [hw3] at hS3 hB3 ⊢
  have d3 := hS3.out.en.c3
  have dl : L < L + 1 := Nat.lt_succ_self L
  have dl1 : ((L : Int) + 1) - 1 = (L : Int) := by omega
  clear hw3 hrun c3 c3' f3' h1
  go_quiet (fail)
  have hb4 : Below w3.heap.size w3 (w3.drewN nq) := below_drewN (Below.refl _ _) nq
  generalize w3.drewN nq = w4 at hb4 ⊢
  have hS4 := hS3.out.below hb4
  have hB4 := hB3.out.trans (Kp.below (hb4.mono hS3.out.hs) (Nat.le_of_lt hbB))
  have hlast : (x.ex ++ [(([], []) : Bl)])[L]? = some ([], []) := by rw [← hLL.out]; simp
  obtain ⟨_, _, hvv, -, hce⟩ := hS4.own.at
  obtain ⟨b', off, e', hlt', hce'⟩ := hce (by simp)
  obtain ⟨ea, -, -⟩ := Value.slice.inj hvv
  rw [e'] at ea
  simp only [Option.some.injEq, Addr.mk.injEq, and_true] at ea
  obtain ⟨rfl, rfl⟩ := ea
  obtain ⟨z0, z1⟩ := hce' L _ hlast
  simp only [Nat.zero_add] at z0 z1
  have fz : ∀ k, w4.frozen? ⟨g, k, none⟩ = false := by
    rcases hS4.own.form2 with ⟨e0, -⟩ | ⟨g', cp', hv', -, -, hf'⟩
    · cases e0
    · obtain ⟨ea, -, -⟩ := Value.slice.inj hv'
      simp only [Option.some.injEq, Addr.mk.injEq, and_true] at ea
      rw [ea]; exact hf'
  have kB := hidden (kS.out g (L * 2) w4 z0 z1 fz)
  replace hS4 := hidden hS4
  replace hB4 := hidden hB4
  clear kS z0 z1 fz hce hce' hlt' e' hvv hlast d3 hS3 hB3 hb4
  go_upto_region 12 with fail
  go_wp2_with fail
  refine kB.out.mono ?_
  rintro e w5 ⟨rfl, nb, hT, hnb⟩
  have hz := hidden (show ESt B w5 b ⟨x.ver, x.kn, x.ks, x.ex ++ [nb], x.op⟩ (.slice (some ⟨g, 0, none⟩) (L + 1) cp) ∧ Kp B b w w5 from
    ⟨ESt.last (x := x) hLL.out hS4.out hg1 hT, hB4.out.trans (Kp.apart hT.ap (Or.inr hg1) (Nat.le_of_lt hbB) hS4.out.hs)⟩)
  replace hnb := hidden hnb
  clear kB hT hS4 hB4
  go_wp2
  go_ret
  refine ⟨rfl, _, _, hz.out.1, hz.out.2, fun y hy => ?_⟩
  cases r with
  | none => simp at hy
  | some q => rw [hnb.out q rfl]; simp at hy; exact hy.symm
end Go.Proofs.YtfoamhkgdlebdaaGreatDoor
