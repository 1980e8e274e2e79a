/- The document's own: which entries may be, and which are the same. -/
import Derived.Test.YtdiplnaphdppbaaGreatDoorX16
namespace Go.Proofs.YtdiplnaphdppbaaGreatDoor
open Go.RowKit Go.Extern.Stop Go.Stop Go.Extern
set_option maxRecDepth 100000

def sameB (a b : Bl) : Bool := a.1 == b.1 && a.2 == b.2
theorem sameB_iff (a b : Bl) : sameB a b = true ↔ a = b := by
  obtain ⟨a1, a2⟩ := a; obtain ⟨b1, b2⟩ := b
  simp [sameB]
theorem neq_bl (a b : Bl) (w : World) : (binOp .neq 24 (.agg #[.string (mkB a.1), .string (mkB a.2)]) (.agg #[.string (mkB b.1), .string (mkB b.2)])).run Tryz.prog w = .ok (.bool (!sameB a b)) w := by
  have e1 : ((mkB a.1).toList == (mkB b.1).toList) = (a.1 == b.1) := by rw [mk_toList, mk_toList]
  have e2 : ((mkB a.2).toList == (mkB b.2).toList) = (a.2 == b.2) := by rw [mk_toList, mk_toList]
  unfold sameB
  rw [← e1, ← e2]
  go_simp
  by_cases h1 : a.1 = b.1 <;> by_cases h2 : a.2 = b.2 <;> simp [h1, h2]
theorem eql_bl (a b : Bl) (w : World) : (binOp .eql 24 (.agg #[.string (mkB a.1), .string (mkB a.2)]) (.agg #[.string (mkB b.1), .string (mkB b.2)])).run Tryz.prog w = .ok (.bool (sameB a b)) w := by
  have e1 : ((mkB a.1).toList == (mkB b.1).toList) = (a.1 == b.1) := by rw [mk_toList, mk_toList]
  have e2 : ((mkB a.2).toList == (mkB b.2).toList) = (a.2 == b.2) := by rw [mk_toList, mk_toList]
  unfold sameB
  rw [← e1, ← e2]
  go_simp
  by_cases h1 : a.1 = b.1 <;> by_cases h2 : a.2 = b.2 <;> simp [h1, h2]
theorem BlobsAt.cells {w : World} {v : Value} {l : List Bl} (h : BlobsAt w v l) {k : Nat} {y : Bl} (hy : l[k]? = some y) : ∃ b off cap, v = .slice (some ⟨b, off, none⟩) l.length cap ∧ l.length ≤ cap ∧ b < w.heap.size ∧ w.cell? ⟨b, off + k * 2, none⟩ = some (.string (mkB y.1)) ∧ w.cell? ⟨b, off + k * 2 + 1, none⟩ = some (.string (mkB y.2)) := by
  obtain ⟨a, cap, rfl, hcap, hc⟩ := h
  obtain ⟨b, off, rfl, hb, hx⟩ := hc (by intro e; rw [e] at hy; simp at hy)
  obtain ⟨h0, h1⟩ := hx k y hy
  exact ⟨b, off, cap, rfl, hcap, hb, h0, h1⟩
set_option maxHeartbeats 8000000 in
theorem refok_calls (x : En) (v : Value) (w : World) (hv : BlobsAt w v x.ex) (hl : x.ex.length ≤ 100) : Calls Tryz.prog 14 #[enV x v] w fun e w' => e = .returned (.bool (okE x)) ∧ Below w.heap.size w w' := by
  obtain ⟨a, cap, rfl, hcap, hrest⟩ := (id hv : BlobsAt w v x.ex)
  obtain ⟨w1, hw1, hN, hB1⟩ : ∃ w1, w.alloc (.cells #[.string (mkB x.ver), .string (mkB x.kn), .string (mkB x.ks), .slice a x.ex.length cap, .string (mkB x.op)] 27) = w1 ∧ EnAt w1 w.heap.size x (.slice a x.ex.length cap) ∧ Below w.heap.size w w1 := ⟨_, rfl, ⟨by simp, by simp, by simp, by simp, by simp⟩, (Below.refl _ _).alloc (Nat.le_refl _) _⟩
  have c0 := hN.c0
  have c1 := hN.c1
  have c2 := hN.c2
  have c3 := hN.c3
  have c4 := hN.c4
  have hlt := hN.lt
  have kV := hidden (refver_calls (mkB x.ver) w1)
  rw [mk_list] at kV
  have kB := hidden (refblob_calls (x.kn, x.ks) w1)
  have kO := hidden (fun wx => refopt_calls x.op wx)
  obtain ⟨p1, h1⟩ : ∃ p, verB x.ver = p := ⟨_, rfl⟩
  obtain ⟨p2, h2⟩ : ∃ p, blobB x.kn x.ks = p := ⟨_, rfl⟩
  obtain ⟨p8, h8⟩ : ∃ p, decide (x.ex.length ≤ 8) = p := ⟨_, rfl⟩
  obtain ⟨p3, h3⟩ : ∃ p, (x.ex.any (fun b => !blobB b.1 b.2)) = p := ⟨_, rfl⟩
  obtain ⟨p4, h4⟩ : ∃ p, optB x.op = p := ⟨_, rfl⟩
  obtain ⟨r, hr⟩ : ∃ r, okE x = r := ⟨_, rfl⟩
  have hrv : r = (p1 && p2 && p8 && !p3 && p4) := by rw [← hr, okE, h1, h2, h8, h3, h4]
  rw [hr]
  rw [h1] at kV
  rw [h4] at kO
  simp only [] at kB
  rw [h2] at kB
  unfold enV blV at *
  obtain ⟨L, hL⟩ : ∃ L, x.ex.length = L := ⟨_, rfl⟩
  have hc := hidden (And.intro hB1 hrest)
  rw [hL] at c3 hw1 hcap hl h8 ⊢
  replace hL := hidden hL
  replace h3 := hidden h3
  replace hrv := hidden hrv
  replace hw1 := hidden hw1
  clear hv hN h1 h2 h4 hr hB1 hrest
  go_enter Tryz.func14, Tryz.ntmps14
  go_upto_region 1 with fail
  rw [hw1.out]
  clear hw1
  cases p1
  · have hrf : r = false := by rw [hrv.out]; rfl
    subst hrf
    have hB := hidden hc.out.1
    clear hc
    go_wp2_with (refine kV.out.mono ?_; rintro e w' ⟨rfl, rfl⟩)
    go_ret
    exact ⟨rfl, hB.out⟩
  · go_wp2_with (go_at_call 28; refine kV.out.mono ?_; rintro e w' ⟨rfl, hw⟩; subst w')
    refine kB.out.mono ?_
    rintro e w2 ⟨rfl, hb2⟩
    have g : ∀ j u, w1.cell? ⟨w.heap.size, j, none⟩ = some u → w2.cell? ⟨w.heap.size, j, none⟩ = some u := fun j u h => (hb2.cell (p := ⟨w.heap.size, j, none⟩) hlt).trans h
    have d3 := g _ _ c3
    have d4 := g _ _ c4
    have kO2 := hidden (kO.out w2)
    have hB2 := hidden (hc.out.1.trans (hb2.mono hc.out.1.size))
    replace hb2 := hidden hb2
    clear kB kO c0 c1 c2 c3 c4 g kV
    cases p2
    · have hrf : r = false := by rw [hrv.out]; rfl
      subst hrf
      clear kO2
      go_wp2
      go_ret
      exact ⟨rfl, hB2.out⟩
    · cases p8
      · have hrf : r = false := by rw [hrv.out]; rfl
        have h8' : (8 : Int) < (L : Int) := by have := of_decide_eq_false h8; omega
        subst hrf
        clear kO2 h8
        go_wp2
        go_ret
        exact ⟨rfl, hB2.out⟩
      · have h8' : ¬ (8 : Int) < (L : Int) := by have := of_decide_eq_true h8; omega
        clear h8
        cases p4
        · have hrf : r = false := by rw [hrv.out]; simp
          subst hrf
          go_wp2_with (go_at_call 30; refine kO2.out.mono ?_; rintro e w' ⟨rfl, hw⟩; subst w')
          go_ret
          exact ⟨rfl, hB2.out⟩
        · go_wp2_with (go_at_call 30; refine kO2.out.mono ?_; rintro e w' ⟨rfl, hw⟩; subst w')
          go_loopg [3] L (fun gk i wr => ∃ k : Nat, k ≤ L ∧ gk = L - k ∧ i = .int .i64 (k : Int) ∧ Hid (Below w2.heap.size w2 wr ∧ (x.ex.take k).any (fun b => !blobB b.1 b.2) = false))
          case atStart => exact ⟨0, Nat.zero_le _, rfl, rfl, hidden ⟨Below.refl _ _, rfl⟩⟩
          case round =>
            obtain ⟨k, hk, hg, rfl, hV⟩ := hrel
            replace hg := hidden hg
            have hlt2 : w.heap.size < w2.heap.size := Nat.lt_of_lt_of_le hlt hb2.out.size
            have d3' := (hV.out.1.cell (p := ⟨w.heap.size, 3, none⟩) hlt2).trans d3
            by_cases hlt' : k < L
            · obtain ⟨y, hy⟩ : ∃ y, x.ex[k]? = some y := ⟨_, List.getElem?_eq_getElem (by rw [hL.out]; exact hlt')⟩
              obtain ⟨bb, off, rfl, hbb, hcells⟩ := hc.out.2 (by intro e; rw [e] at hy; simp at hy)
              obtain ⟨y0, y1⟩ := hcells k y hy
              have hbb1 : bb < w1.heap.size := Nat.lt_of_lt_of_le hbb hc.out.1.size
              have hbb2 : bb < w2.heap.size := Nat.lt_of_lt_of_le hbb1 hb2.out.size
              have gy : ∀ j u, w.cell? ⟨bb, j, none⟩ = some u → _ := fun j u h => (hV.out.1.cell (p := ⟨bb, j, none⟩) hbb2).trans ((hb2.out.cell (p := ⟨bb, j, none⟩) hbb1).trans ((hc.out.1.cell (p := ⟨bb, j, none⟩) hbb).trans h))
              have z0 := gy _ _ y0
              have z1 := gy _ _ y1
              have kB := hidden (refblob_calls y wr)
              have hsn : (x.ex.take (k + 1)).any (fun b => !blobB b.1 b.2) = ((x.ex.take k).any (fun b => !blobB b.1 b.2) || !blobB y.1 y.2) := by rw [List.take_add_one, hy]; simp
              have hin : blobB y.1 y.2 = false → p3 = true := fun h => by rw [← h3.out]; exact List.any_eq_true.2 ⟨y, List.mem_of_getElem? hy, by simp [h]⟩
              rw [hV.out.2] at hsn
              replace hsn := hidden hsn
              replace hin := hidden hin
              have hV1 := hidden hV.out.1
              clear y0 y1 gy hcells hV hbb hbb1 hbb2 hy d4 d3 kO2
              unfold blV at kB
              generalize blobB y.1 y.2 = q at kB hsn hin
              cases q
              · have hrf : r = false := by rw [hrv.out, hin.out rfl]; rfl
                subst hrf
                go_wp2_with fail
                refine kB.out.mono ?_
                rintro e w3 ⟨rfl, hb3⟩
                have hB3 := hidden (hB2.out.trans ((hV1.out.trans (hb3.mono hV1.out.size)).mono hB2.out.size))
                clear hb3 kB z0 z1 d3'
                go_wp2
                go_ret
                exact ⟨rfl, hB3.out⟩
              · go_wp2_with fail
                refine kB.out.mono ?_
                rintro e w3 ⟨rfl, hb3⟩
                have hB3 := hidden (hV1.out.trans (hb3.mono hV1.out.size))
                clear hb3 kB z0 z1 d3'
                go_wp2
                go_roundg (L - (k + 1))
                case measure => rw [hg.out]; omega
                case rel => exact ⟨k + 1, hlt', rfl, by simp, hidden ⟨hB3.out, by rw [hsn.out]; rfl⟩⟩
            · obtain rfl : k = L := by omega
              have h3' : p3 = false := by have := hV.out.2; rw [← hL.out, List.take_length] at this; rw [← h3.out]; exact this
              have hrf : r = true := by rw [hrv.out, h3']; rfl
              subst hrf
              have hB3 := hidden (hB2.out.trans (hV.out.1.mono hB2.out.size))
              clear hV
              go_wp2
              go_ret
              exact ⟨rfl, hB3.out⟩
end Go.Proofs.YtdiplnaphdppbaaGreatDoor
