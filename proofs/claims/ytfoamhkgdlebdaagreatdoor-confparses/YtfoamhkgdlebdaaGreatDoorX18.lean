/- Entries that are the same: the document's own, and the program's. -/
import Derived.Test.YtfoamhkgdlebdaaGreatDoorX17
import Derived.BigQuiet
namespace Go.Proofs.YtfoamhkgdlebdaaGreatDoor
open Go.RowKit Go.Extern.Stop Go.Stop Go.Extern
set_option maxRecDepth 100000

def sameL : List Bl → List Bl → Bool
  | [], [] => true
  | a :: l, b :: m => sameB a b && sameL l m
  | _, _ => false
theorem sameL_iff : ∀ (l m : List Bl), sameL l m = true ↔ l = m
  | [], [] => by simp [sameL]
  | [], b :: m => by simp [sameL]
  | a :: l, [] => by simp [sameL]
  | a :: l, b :: m => by rw [sameL, Bool.and_eq_true, sameB_iff, sameL_iff l m]; simp
def sameE (x y : En) : Bool := x.ver == y.ver && sameB (x.kn, x.ks) (y.kn, y.ks) && x.op == y.op && sameL x.ex y.ex
theorem sameE_iff (x y : En) : sameE x y = true ↔ x = y := by
  obtain ⟨a1, a2, a3, a4, a5⟩ := x; obtain ⟨b1, b2, b3, b4, b5⟩ := y
  simp only [sameE, Bool.and_eq_true, sameL_iff, sameB_iff, beq_iff_eq]
  constructor
  · rintro ⟨⟨⟨rfl, h⟩, rfl⟩, rfl⟩
    cases h; rfl
  · intro h; cases h; simp
theorem sameL_take {l m : List Bl} (hn : l.length = m.length) (k : Nat) (hall : ∀ j a b, j < k → l[j]? = some a → m[j]? = some b → sameB a b = true) (hk : l.length ≤ k) : sameL l m = true := by
  rw [sameL_iff]
  apply List.ext_getElem hn
  intro i h1 h2
  exact (sameB_iff _ _).1 (hall i _ _ (by omega) (List.getElem?_eq_getElem h1) (List.getElem?_eq_getElem h2))
theorem sameL_bad {l m : List Bl} {j : Nat} {a b : Bl} (h1 : l[j]? = some a) (h2 : m[j]? = some b) (h : sameB a b = false) : sameL l m = false := by
  cases hs : sameL l m with
  | false => rfl
  | true =>
    have := (sameL_iff l m).1 hs
    rw [this, h2] at h1
    have e : b = a := by simpa using h1
    rw [e, (sameB_iff a a).2 rfl] at h; cases h
theorem sameL_len {l m : List Bl} (h : ¬ l.length = m.length) : sameL l m = false := by
  cases hs : sameL l m with
  | false => rfl
  | true => exact absurd (congrArg List.length ((sameL_iff l m).1 hs)) h
/-- The box that an argument is laid in. -/
structure BoxAt (w w1 : World) (b : Nat) (x : En) (a : Option Addr) (cap : Nat) : Prop where
  at1 : EnAt w1 b x (.slice a x.ex.length cap)
  below : Below w.heap.size w w1
set_option maxHeartbeats 8000000 in
theorem refsame_calls (x y : En) (v u : Value) (w : World) (hv : BlobsAt w v x.ex) (hu : BlobsAt w u y.ex) (hl : x.ex.length ≤ 1000000) : Calls Tryz.prog 11 #[enV x v, enV y u] w fun e w' => e = .returned (.bool (sameE x y)) ∧ Below w.heap.size w w' := by
  obtain ⟨a, cap, rfl, hcap, hrest⟩ := (id hv : BlobsAt w v x.ex)
  obtain ⟨a', cap', rfl, hcap', hrest'⟩ := (id hu : BlobsAt w u y.ex)
  obtain ⟨w1, hw1, hN, hM, hB1⟩ : ∃ w1, (w.alloc (.cells #[.string (mkB x.ver), .string (mkB x.kn), .string (mkB x.ks), .slice a x.ex.length cap, .string (mkB x.op)] 29)).alloc (.cells #[.string (mkB y.ver), .string (mkB y.kn), .string (mkB y.ks), .slice a' y.ex.length cap', .string (mkB y.op)] 29) = w1 ∧ EnAt w1 w.heap.size x (.slice a x.ex.length cap) ∧ EnAt w1 (w.heap.size + 1) y (.slice a' y.ex.length cap') ∧ Below w.heap.size w w1 :=
    ⟨_, rfl, ⟨by simp, by simp, by simp, by simp, by simp⟩, ⟨by simp, by simp, by simp, by simp, by simp⟩, ((Below.refl _ _).alloc (Nat.le_refl _) _).alloc (by simp) _⟩
  have c0 := hN.c0
  have c1 := hN.c1
  have c2 := hN.c2
  have c3 := hN.c3
  have c4 := hN.c4
  have b0 := hM.c0
  have b1 := hM.c1
  have b2 := hM.c2
  have b3 := hM.c3
  have b4 := hM.c4
  have e0 : ((mkB x.ver).toList == (mkB y.ver).toList) = (x.ver == y.ver) := by rw [mk_toList, mk_toList]
  have e4 : ((mkB x.op).toList == (mkB y.op).toList) = (x.op == y.op) := by rw [mk_toList, mk_toList]
  have eK := fun w => neq_bl (x.kn, x.ks) (y.kn, y.ks) w
  obtain ⟨L, hL⟩ : ∃ L, x.ex.length = L := ⟨_, rfl⟩
  obtain ⟨M, hM'⟩ : ∃ M, y.ex.length = M := ⟨_, rfl⟩
  obtain ⟨r, hr⟩ : ∃ r, sameE x y = r := ⟨_, rfl⟩
  have hrv : r = ((x.ver == y.ver) && sameB (x.kn, x.ks) (y.kn, y.ks) && (x.op == y.op) && sameL x.ex y.ex) := hr.symm
  rw [hr]
  generalize (x.ver == y.ver) = p0 at e0 hrv
  generalize (x.op == y.op) = p4 at e4 hrv
  generalize sameB (x.kn, x.ks) (y.kn, y.ks) = p1 at eK hrv
  simp only [] at eK
  unfold enV at *
  have hc := hidden (And.intro hB1 (And.intro hrest hrest'))
  rw [hL] at c3 hw1 hcap hl ⊢
  rw [hM'] at b3 hw1 hcap' ⊢
  replace hL := hidden hL
  replace hM' := hidden hM'
  replace hrv := hidden hrv
  replace hw1 := hidden hw1
  clear hv hu hN hM hr hB1 hrest hrest'
  go_enter Tryz.func11, Tryz.ntmps11
  go_upto_region 1 with fail
  rw [hw1.out]
  clear hw1
  cases p0
  · have hrf : r = false := by rw [hrv.out]; rfl
    subst hrf
    have hB := hidden hc.out.1
    clear hc
    go_wp2
    go_ret
    exact ⟨rfl, hB.out⟩
  · cases p1
    · have hrf : r = false := by rw [hrv.out]; rfl
      subst hrf
      have hB := hidden hc.out.1
      clear hc
      go_wp2
      go_ret
      exact ⟨rfl, hB.out⟩
    · cases p4
      · have hrf : r = false := by rw [hrv.out]; rfl
        subst hrf
        have hB := hidden hc.out.1
        clear hc
        go_wp2
        go_ret
        exact ⟨rfl, hB.out⟩
      · by_cases hLM : L = M
        · subst hLM
          have hLM : (L : Int) = (L : Int) := rfl
          go_wp2_with fail
          go_loopg [5] L (fun gk i wr => ∃ k : Nat, k ≤ L ∧ gk = L - k ∧ i = .int .i64 (k : Int) ∧ Hid (Below w1.heap.size w1 wr ∧ ∀ j p q, j < k → x.ex[j]? = some p → y.ex[j]? = some q → sameB p q = true))
          case atStart => exact ⟨0, Nat.zero_le _, rfl, rfl, hidden ⟨Below.refl _ _, fun j _ _ hj => absurd hj (Nat.not_lt_zero j)⟩⟩
          case round =>
            obtain ⟨k, hk, hg, rfl, hV⟩ := hrel
            replace hg := hidden hg
            have hb1 : w.heap.size < w1.heap.size := lt_of_cell (a := ⟨w.heap.size, 0, none⟩) c0
            have hb2 : w.heap.size + 1 < w1.heap.size := lt_of_cell (a := ⟨w.heap.size + 1, 0, none⟩) b0
            have d3 := (hV.out.1.cell (p := ⟨w.heap.size, 3, none⟩) hb1).trans c3
            have d3' := (hV.out.1.cell (p := ⟨w.heap.size + 1, 3, none⟩) hb2).trans b3
            by_cases hlt : k < L
            · obtain ⟨p, hp⟩ : ∃ p, x.ex[k]? = some p := ⟨_, List.getElem?_eq_getElem (by rw [hL.out]; exact hlt)⟩
              obtain ⟨q, hq⟩ : ∃ q, y.ex[k]? = some q := ⟨_, List.getElem?_eq_getElem (by rw [hM'.out]; exact hlt)⟩
              obtain ⟨bb, off, rfl, hbb, hcells⟩ := hc.out.2.1 (by intro e; rw [e] at hp; simp at hp)
              obtain ⟨bb', off', rfl, hbb', hcells'⟩ := hc.out.2.2 (by intro e; rw [e] at hq; simp at hq)
              obtain ⟨y0, y1⟩ := hcells k p hp
              obtain ⟨y0', y1'⟩ := hcells' k q hq
              have gy : ∀ (g j : Nat) (u : Value), g < w.heap.size → w.cell? ⟨g, j, none⟩ = some u → wr.cell? ⟨g, j, none⟩ = some u := fun g j u hg h => (hV.out.1.cell (p := ⟨g, j, none⟩) (Nat.lt_of_lt_of_le hg hc.out.1.size)).trans ((hc.out.1.cell (p := ⟨g, j, none⟩) hg).trans h)
              have z0 := gy _ _ _ hbb y0
              have z1 := gy _ _ _ hbb y1
              have z0' := gy _ _ _ hbb' y0'
              have z1' := gy _ _ _ hbb' y1'
              have eY := fun w => neq_bl p q w
              have hbad : sameB p q = false → r = false := fun h => by rw [hrv.out, sameL_bad hp hq h]; rfl
              have hgood : sameB p q = true → ∀ j p' q', j < k + 1 → x.ex[j]? = some p' → y.ex[j]? = some q' → sameB p' q' = true := fun h j p' q' hj h1 h2 => by
                by_cases e : j = k
                · subst e; rw [hp] at h1; rw [hq] at h2; cases h1; cases h2; exact h
                · exact hV.out.2 j p' q' (by omega) h1 h2
              replace hbad := hidden hbad
              replace hgood := hidden hgood
              have hV1 := hidden hV.out.1
              clear y0 y1 y0' y1' gy hcells hcells' hV hp hq c0 c1 c2 c3 c4 b0 b1 b2 b3 b4 e0 e4 eK hLM
              generalize sameB p q = s at eY hbad hgood
              cases s
              · have hrf := hbad.out rfl
                subst hrf
                have hB := hidden (hc.out.1.trans (hV1.out.mono hc.out.1.size))
                go_upto_region 6 with fail
                go_quiet (fail)
                have hb4 : Hid (Below w.heap.size w (wr.drewN nq)) := hidden (below_drewN hB.out nq)
                generalize wr.drewN nq = w5 at hb4 ⊢
                go_wp2
                go_ret
                exact ⟨rfl, hb4.out⟩
              · go_upto_region 6 with fail
                go_quiet (fail)
                have hb4 : Hid (Below w1.heap.size w1 (wr.drewN nq)) := hidden (below_drewN hV1.out nq)
                generalize wr.drewN nq = w5 at hb4 ⊢
                go_wp2
                go_roundg (L - (k + 1))
                case measure => rw [hg.out]; omega
                case rel => exact ⟨k + 1, hlt, rfl, by simp, hidden ⟨hb4.out, hgood.out (by simp)⟩⟩
            · obtain rfl : k = L := by omega
              have hrf : r = true := by rw [hrv.out, sameL_take (by rw [hL.out, hM'.out]) k hV.out.2 (by rw [hL.out]; exact Nat.le_refl _)]; rfl
              subst hrf
              have hB := hidden (hc.out.1.trans (hV.out.1.mono hc.out.1.size))
              clear hV
              go_wp2
              go_ret
              exact ⟨rfl, hB.out⟩
        · have hrf : r = false := by rw [hrv.out, sameL_len (by rw [hL.out, hM'.out]; exact hLM)]; rfl
          have hLM' : ¬ (L : Int) = (M : Int) := by omega
          subst hrf
          have hB := hidden hc.out.1
          clear hc hLM
          go_wp2
          go_ret
          exact ⟨rfl, hB.out⟩
end Go.Proofs.YtfoamhkgdlebdaaGreatDoor
