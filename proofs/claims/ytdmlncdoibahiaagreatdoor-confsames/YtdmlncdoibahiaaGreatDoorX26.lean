/- slices.Equal at blobs; conf.Same; conf.Blobs. -/
import Derived.Test.YtdmlncdoibahiaaGreatDoorX20
import Derived.BigQuiet
namespace Go.Proofs.YtdmlncdoibahiaaGreatDoor
open Go.RowKit Go.Extern.Stop Go.Stop Go.Extern
set_option maxRecDepth 100000

set_option maxHeartbeats 8000000 in
theorem equal_calls (l m : List Bl) (v u : Value) (w : World) (hv : BlobsAt w v l) (hu : BlobsAt w u m) (hl : l.length ≤ 1000000) :
    Calls Tryz.prog 41 #[v, u] w fun e w' => e = .returned (.bool (sameL l m)) ∧ Below w.heap.size w w' := by
  obtain ⟨a, cap, rfl, hcap, hrest⟩ := hv
  obtain ⟨a', cap', rfl, hcap', hrest'⟩ := hu
  obtain ⟨L, hL⟩ : ∃ L, l.length = L := ⟨_, rfl⟩
  obtain ⟨M, hM⟩ : ∃ M, m.length = M := ⟨_, rfl⟩
  obtain ⟨r, hr⟩ : ∃ r, sameL l m = r := ⟨_, rfl⟩
  rw [hL] at hcap hl ⊢
  rw [hM] at hcap' ⊢
  rw [hr]
  replace hr := hidden hr
  replace hL := hidden hL
  replace hM := hidden hM
  replace hrest := hidden hrest
  replace hrest' := hidden hrest'
  by_cases hLM : L = M
  · subst hLM
    go_enter Tryz.func41, Tryz.ntmps41
    go_wp2_with fail
    go_loopg [13] L (fun gk i wr => ∃ k : Nat, k ≤ L ∧ gk = L - k ∧ i = .int .i64 (k : Int) ∧ Hid (Below w.heap.size w wr ∧ ∀ j p q, j < k → l[j]? = some p → m[j]? = some q → sameB p q = true))
    case atStart => exact ⟨0, Nat.zero_le _, rfl, rfl, hidden ⟨Below.refl _ _, fun j _ _ hj => absurd hj (Nat.not_lt_zero j)⟩⟩
    case round =>
      obtain ⟨k, hk, hg, rfl, hV⟩ := hrel
      replace hg := hidden hg
      by_cases hlt : k < L
      · obtain ⟨p, hp⟩ : ∃ p, l[k]? = some p := ⟨_, List.getElem?_eq_getElem (by rw [hL.out]; exact hlt)⟩
        obtain ⟨q, hq⟩ : ∃ q, m[k]? = some q := ⟨_, List.getElem?_eq_getElem (by rw [hM.out]; exact hlt)⟩
        obtain ⟨bb, off, rfl, hbb, hcells⟩ := hrest.out (by intro e; rw [e] at hp; simp at hp)
        obtain ⟨bb', off', rfl, hbb', hcells'⟩ := hrest'.out (by intro e; rw [e] at hq; simp at hq)
        obtain ⟨y0, y1⟩ := hcells k p hp
        obtain ⟨y0', y1'⟩ := hcells' k q hq
        have gy : ∀ (g j : Nat) (u : Value), g < w.heap.size → w.cell? ⟨g, j, none⟩ = some u → wr.cell? ⟨g, j, none⟩ = some u := fun g j u hg h => (hV.out.1.cell (p := ⟨g, j, none⟩) hg).trans h
        have z0 := gy _ _ _ hbb y0
        have z1 := gy _ _ _ hbb y1
        have z0' := gy _ _ _ hbb' y0'
        have z1' := gy _ _ _ hbb' y1'
        have eY := fun w => neq_bl p q w
        have hbad : sameB p q = false → r = false := fun h => by rw [← hr.out, sameL_bad hp hq h]
        have hgood : sameB p q = true → ∀ j p' q', j < k + 1 → l[j]? = some p' → m[j]? = some q' → sameB p' q' = true := fun h j p' q' hj h1 h2 => by
          by_cases e : j = k
          · subst e; rw [hp] at h1; rw [hq] at h2; cases h1; cases h2; exact h
          · exact hV.out.2 j p' q' (by omega) h1 h2
        replace hbad := hidden hbad
        replace hgood := hidden hgood
        have hV1 := hidden hV.out.1
        clear y0 y1 y0' y1' gy hcells hcells' hV hp hq
        generalize sameB p q = s at eY hbad hgood
        cases s
        · have hrf := hbad.out rfl
          subst hrf
          go_upto_region 6 with fail
          go_quiet (fail)
          have hb4 : Hid (Below w.heap.size w (wr.drewN nq)) := hidden (below_drewN hV1.out nq)
          generalize wr.drewN nq = w5 at hb4 ⊢
          go_wp2
          go_ret
          exact ⟨rfl, hb4.out⟩
        · go_upto_region 6 with fail
          go_quiet (fail)
          have hb4 : Hid (Below w.heap.size w (wr.drewN nq)) := hidden (below_drewN hV1.out nq)
          generalize wr.drewN nq = w5 at hb4 ⊢
          go_wp2
          go_roundg (L - (k + 1))
          case measure => rw [hg.out]; omega
          case rel => exact ⟨k + 1, hlt, rfl, by simp, hidden ⟨hb4.out, hgood.out (by simp)⟩⟩
      · obtain rfl : k = L := by omega
        have hrf : r = true := by rw [← hr.out]; exact sameL_take (by rw [hL.out, hM.out]) k hV.out.2 (by rw [hL.out]; exact Nat.le_refl _)
        subst hrf
        have hB := hidden hV.out.1
        clear hV
        go_wp2
        go_ret
        exact ⟨rfl, hB.out⟩
  · have hrf : r = false := by rw [← hr.out]; exact sameL_len (by rw [hL.out, hM.out]; exact hLM)
    have hLM' : ¬ (L : Int) = (M : Int) := by omega
    subst hrf
    clear hLM
    go_enter Tryz.func41, Tryz.ntmps41
    go_wp2
    go_ret
    exact ⟨rfl, Below.refl _ _⟩
set_option maxHeartbeats 8000000 in
theorem same_calls (x y : En) (v u : Value) (w : World) (hv : BlobsAt w v x.ex) (hu : BlobsAt w u y.ex) (hl : x.ex.length ≤ 1000000) : Calls Tryz.prog 21 #[enV x v, enV y u] w fun e w' => e = .returned (.bool (sameE x y)) ∧ Below w.heap.size w w' := by
  obtain ⟨a, cap, rfl, -⟩ := (id hv : BlobsAt w v x.ex)
  obtain ⟨a', cap', rfl, -⟩ := (id hu : BlobsAt w u y.ex)
  obtain ⟨w1, hw1, hN, hM, hB1⟩ : ∃ w1, (w.alloc (.cells #[.string (mkB x.ver), .string (mkB x.kn), .string (mkB x.ks), .slice a x.ex.length cap, .string (mkB x.op)] 26)).alloc (.cells #[.string (mkB y.ver), .string (mkB y.kn), .string (mkB y.ks), .slice a' y.ex.length cap', .string (mkB y.op)] 26) = w1 ∧ EnAt w1 w.heap.size x (.slice a x.ex.length cap) ∧ EnAt w1 (w.heap.size + 1) y (.slice a' y.ex.length cap') ∧ Below w.heap.size w w1 :=
    ⟨_, rfl, ⟨by simp, by simp, by simp, by simp, by simp⟩, ⟨by simp, by simp, by simp, by simp, by simp⟩, ((Below.refl _ _).alloc (Nat.le_refl _) _).alloc (by simp) _⟩
  have kE := hidden (equal_calls x.ex y.ex _ _ w1 (hv.below hB1) (hu.below hB1) hl)
  have c0 := hN.c0
  have c1 := hN.c1
  have c2 := hN.c2
  have c3 := hN.c3
  have b0 := hM.c0
  have b1 := hM.c1
  have b2 := hM.c2
  have b3 := hM.c3
  have hNM := hidden (And.intro hN hM)
  have e0 : ((mkB x.ver).toList == (mkB y.ver).toList) = (x.ver == y.ver) := by rw [mk_toList, mk_toList]
  have e4 : ((mkB x.op).toList == (mkB y.op).toList) = (x.op == y.op) := by rw [mk_toList, mk_toList]
  have eK := fun w => eql_bl (x.kn, x.ks) (y.kn, y.ks) w
  obtain ⟨r, hr⟩ : ∃ r, sameE x y = r := ⟨_, rfl⟩
  have hrv : r = ((x.ver == y.ver) && sameB (x.kn, x.ks) (y.kn, y.ks) && (x.op == y.op) && sameL x.ex y.ex) := hr.symm
  rw [hr]
  generalize (x.ver == y.ver) = p0 at e0 hrv
  generalize (x.op == y.op) = p4 at e4 hrv
  generalize sameB (x.kn, x.ks) (y.kn, y.ks) = p1 at eK hrv
  generalize sameL x.ex y.ex = p3 at kE hrv
  simp only [] at eK
  unfold enV at *
  replace hrv := hidden hrv
  replace hw1 := hidden hw1
  replace hB1 := hidden hB1
  clear hv hu hN hM hr
  go_enter Tryz.func21, Tryz.ntmps21
  go_upto_region 1 with fail
  rw [hw1.out]
  clear hw1
  cases p0
  · have hrf : r = false := by rw [hrv.out]; rfl
    subst hrf
    go_wp2
    go_ret
    exact ⟨rfl, hB1.out⟩
  · cases p1
    · have hrf : r = false := by rw [hrv.out]; rfl
      subst hrf
      go_wp2
      go_ret
      exact ⟨rfl, hB1.out⟩
    · go_wp2_with fail
      refine kE.out.mono ?_
      rintro e w2 ⟨rfl, hb⟩
      have hB2 := hidden (hB1.out.trans (hb.mono hB1.out.size))
      have d4 := (hNM.out.1.below hb).c4
      have d4' := (hNM.out.2.below hb).c4
      clear hb kE c0 c1 c2 c3 b0 b1 b2 b3
      cases p3
      · have hrf : r = false := by rw [hrv.out]; simp
        subst hrf
        go_wp2
        go_ret
        exact ⟨rfl, hB2.out⟩
      · cases p4
        · have hrf : r = false := by rw [hrv.out]; rfl
          subst hrf
          go_wp2
          go_ret
          exact ⟨rfl, hB2.out⟩
        · have hrf : r = true := by rw [hrv.out]; rfl
          subst hrf
          go_wp2
          go_ret
          exact ⟨rfl, hB2.out⟩
theorem Tryz.infoBlob : (Tryz.prog.info? 23).map (fun i => (i.zero, i.size, i.bytes)) = some (some (.agg #[.string ⟨#[]⟩, .string ⟨#[]⟩]), 2, 32) := by kernel_rfl
theorem blOwn_one {base : Nat} {w : World} (b : Bl) (hb : base ≤ w.heap.size) : BlOwn base (w.alloc (.cells #[.string (mkB b.1), .string (mkB b.2)] 23)) (.slice (some ⟨w.heap.size, 0, none⟩) 1 1) [b] :=
  ⟨⟨by simp [blC], Or.inr ⟨w.heap.size, 1, _, rfl, hb, heap_alloc_new _ _, Nat.le_refl _, by first | decide | simp, by first | rfl | simp, by simp [blC]⟩⟩⟩
set_option maxHeartbeats 4000000 in
theorem blobs_calls (x : En) (v : Value) (w : World) (hv : BlobsAt w v x.ex) (hf : v = .slice none 0 0 ∨ ∃ a n c, v = .slice (some a) n c) (hl : x.ex.length ≤ 900) :
    Calls Tryz.prog 20 #[enV x v] w fun e w' => ∃ u, e = .returned u ∧ BlOwn w.heap.size w' u ((x.kn, x.ks) :: x.ex) ∧ Below w.heap.size w w' := by
  obtain ⟨a, cap, rfl, hcap, hrest⟩ := (id hv : BlobsAt w v x.ex)
  obtain ⟨w1, hw1, hN, hB1⟩ : ∃ w1, w.alloc (.cells #[.string (mkB x.ver), .string (mkB x.kn), .string (mkB x.ks), .slice a x.ex.length cap, .string (mkB x.op)] 26) = w1 ∧ EnAt w1 w.heap.size x (.slice a x.ex.length cap) ∧ Below w.heap.size w w1 := ⟨_, rfl, ⟨by simp, by simp, by simp, by simp, by simp⟩, (Below.refl _ _).alloc (Nat.le_refl _) _⟩
  obtain ⟨w2, hw2, hB2⟩ : ∃ w2, w1.alloc (.cells #[.string (mkB x.kn), .string (mkB x.ks)] 23) = w2 ∧ Below w1.heap.size w1 w2 := ⟨_, rfl, (Below.refl _ _).alloc (Nat.le_refl _) _⟩
  have hO : BlOwn w.heap.size w2 (.slice (some ⟨w1.heap.size, 0, none⟩) 1 1) [(x.kn, x.ks)] := by rw [← hw2]; exact blOwn_one (x.kn, x.ks) hB1.size
  have hB12 := hB1.trans (hB2.mono hB1.size)
  obtain ⟨u, w3, hrun, hO3, hB3⟩ : ∃ u w3, (Builtin.append_ #[24, 24] 24 #[.slice (some ⟨w1.heap.size, 0, none⟩) 1 1, .slice a x.ex.length cap]).run Tryz.prog w2 = .ok u w3 ∧ BlOwn w.heap.size w3 u ((x.kn, x.ks) :: x.ex) ∧ Below w.heap.size w2 w3 := by
    cases a with
    | none =>
      rcases hf with hf | ⟨a', n', c', hf⟩
      · obtain ⟨-, h2, h3⟩ := Value.slice.inj hf
        have he : x.ex = [] := List.length_eq_zero_iff.1 h2
        rw [h2, h3, he]
        exact ⟨_, w2, hO.append_none Tryz.underlying24 Tryz.infoBlob _, hO, Below.refl _ _⟩
      · cases hf
    | some a =>
      obtain ⟨u, w3, h1, h2, h3, -⟩ := hO.appends (ST := 24) Tryz.underlying24 Tryz.infoBlob a x.ex.length cap x.ex rfl (fun k r hr => by
        obtain ⟨b, off, e, hb, hx⟩ := hrest (by intro e; rw [e] at hr; simp at hr)
        cases e
        obtain ⟨h0, h1⟩ := hx k r hr
        have g := fun j u (h : w.cell? ⟨b, j, none⟩ = some u) => (hB12.cell (p := ⟨b, j, none⟩) hb).trans h
        have e0 := g _ _ h0
        have e1 := g _ _ h1
        rw [Go.WideShapes.add_plain, Go.WideShapes.add_plain, ← Nat.add_assoc]
        exact ⟨e0, e1⟩) (by simp; omega) hB12.size 24
      exact ⟨u, w3, h1, h2, h3⟩
  have c1 := hN.c1
  have c2 := hN.c2
  have c3 : w2.cell? ⟨w.heap.size, 3, none⟩ = some (.slice a x.ex.length cap) := (hB2.cell (p := ⟨w.heap.size, 3, none⟩) hN.lt).trans hN.c3
  have hE := hidden (And.intro hO3 (hB12.trans hB3))
  rw [← hw2] at hrun c3
  replace hrun := hidden hrun
  replace hw1 := hidden hw1
  clear hv hf hN hO hO3 hB3 hrest hB12 hB2 hw2
  unfold enV
  go_enter Tryz.func20, Tryz.ntmps20
  go_upto_region 1 with fail
  rw [hw1.out]
  clear hw1
  go_wp2_with (at_builtin; refine wpList_append_eq _ _ 24 rfl _ _ u w3 rfl rfl hrun.out rfl ?_)
  go_ret
  exact ⟨_, rfl, hE.out⟩
end Go.Proofs.YtdmlncdoibahiaaGreatDoor
