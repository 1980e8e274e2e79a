/- conf.Print. -/
import Derived.Test.YtfoamhkgdlebdaaGreatDoorX12
import Derived.Test.YtfoamhkgdlebdaaGreatDoorX11
namespace Go.Proofs.YtfoamhkgdlebdaaGreatDoor
open Go.RowKit Go.Extern.Stop Go.Stop Go.Extern
set_option maxRecDepth 100000

def headP (x : En) : List UInt8 := lineW [kwV, x.ver] ++ lineW [kwK, x.kn, x.ks]
def extraP (l : List Bl) : List UInt8 := (l.map fun b => lineW [kwE, b.1, b.2]).flatten
def optP (x : En) : List UInt8 := if x.op.isEmpty then [] else lineW [kwO, x.op]
/-- What an entry is printed as. -/
def printL (x : En) : List UInt8 := headP x ++ extraP x.ex ++ optP x
theorem extraP_snoc (l : List Bl) (k : Nat) (b : Bl) (h : l[k]? = some b) : extraP (l.take (k + 1)) = extraP (l.take k) ++ lineW [kwE, b.1, b.2] := by
  rw [List.take_add_one, h]; simp [extraP]
set_option maxHeartbeats 4000000 in
theorem print_bad (x : En) (v : Value) (w : World) (hv : BlobsAt w v x.ex) (hl : x.ex.length ≤ 100) (hok : okE x = false) :
    Calls Tryz.prog 12 #[enV x v] w fun e w' => ∃ b, e = .returned (.tuple #[.string ⟨#[]⟩, flt b]) ∧ PErr w' b ⟨#[]⟩ (num 1) ∧ Below w.heap.size w w' := by
  obtain ⟨a, cap, rfl, hrest⟩ := (id hv : BlobsAt w v x.ex)
  clear hrest
  obtain ⟨w1, hw1, hN, hB1⟩ : ∃ w1, w.alloc (.cells #[.string (mkB x.ver), .string (mkB x.kn), .string (mkB x.ks), .slice a x.ex.length cap, .string (mkB x.op)] 29) = w1 ∧ EnAt w1 w.heap.size x (.slice a x.ex.length cap) ∧ Below w.heap.size w w1 := ⟨_, rfl, ⟨by simp, by simp, by simp, by simp, by simp⟩, (Below.refl _ _).alloc (Nat.le_refl _) _⟩
  have kO := hidden (ok_entry x _ w1 (hv.below hB1) hl)
  rw [hok] at kO
  have c0 := hN.c0
  have c1 := hN.c1
  have c2 := hN.c2
  have c3 := hN.c3
  have c4 := hN.c4
  replace hw1 := hidden hw1
  replace hB1 := hidden hB1
  clear hv hl hok hN
  unfold enV at *
  go_enter Tryz.func12, Tryz.ntmps12
  go_upto_region 1 with fail
  rw [hw1.out]
  clear hw1
  go_wp2_with fail
  refine kO.out.mono ?_
  rintro e w2 ⟨rfl, hb2⟩
  have hB2 := hidden (hB1.out.trans (hb2.mono hB1.out.size))
  clear hb2 hB1 kO c0 c1 c2 c3 c4
  go_wp2_with fail
  refine (new_num sConf ⟨#[]⟩ 1 w2 rfl).mono ?_
  rintro e w' ⟨rfl, rfl⟩
  have hE := hidden (show PErr (w2.alloc (fcells sConf ⟨#[]⟩ (num 1))) w2.heap.size ⟨#[]⟩ (num 1) ∧ Below w.heap.size w (w2.alloc (fcells sConf ⟨#[]⟩ (num 1))) from ⟨⟨one_new _ _⟩, hB2.out.alloc hB2.out.size _⟩)
  clear hB2
  go_wp2
  go_ret2
  exact ⟨_, rfl, hE.out⟩
set_option maxHeartbeats 8000000 in
theorem print_good (x : En) (v : Value) (w : World) (hv : BlobsAt w v x.ex) (hok : okE x = true) (hn : x.ver.length ≤ 1000 ∧ x.kn.length ≤ 1000 ∧ x.ks.length ≤ 1000 ∧ x.op.length ≤ 1000 ∧ x.ex.length ≤ 8 ∧ ∀ b ∈ x.ex, b.1.length ≤ 1000 ∧ b.2.length ≤ 1000) :
    Calls Tryz.prog 12 #[enV x v] w fun e w' => e = .returned (.tuple #[.string (mkB (printL x)), .nilIface]) ∧ Below w.heap.size w w' := by
  obtain ⟨h1, h2, h3, h4, h5, h6⟩ := hn
  obtain ⟨a, cap, rfl, hcap, hrest⟩ := (id hv : BlobsAt w v x.ex)
  obtain ⟨w1, hw1, hN, hB1⟩ : ∃ w1, w.alloc (.cells #[.string (mkB x.ver), .string (mkB x.kn), .string (mkB x.ks), .slice a x.ex.length cap, .string (mkB x.op)] 29) = w1 ∧ EnAt w1 w.heap.size x (.slice a x.ex.length cap) ∧ Below w.heap.size w w1 := ⟨_, rfl, ⟨by simp, by simp, by simp, by simp, by simp⟩, (Below.refl _ _).alloc (Nat.le_refl _) _⟩
  have kO := hidden (ok_entry x _ w1 (hv.below hB1) (by omega))
  rw [hok] at kO
  have hel : ∀ k, (extraP (x.ex.take k)).length ≤ 20000 := fun k => by
    have h7 : ∀ l : List Bl, l.length ≤ 8 → (∀ b ∈ l, b.1.length ≤ 1000 ∧ b.2.length ≤ 1000) → (extraP l).length ≤ l.length * 2010 := by
      intro l
      induction l with
      | nil => intro _ _; simp [extraP]
      | cons b r ih =>
        intro hl hb
        have := ih (by simp at hl; omega) (fun c hc => hb c (by simp [hc]))
        have hbb := hb b (by simp)
        have e : extraP (b :: r) = lineW [kwE, b.1, b.2] ++ extraP r := by simp [extraP]
        rw [e, List.length_append, lineW_len3, List.length_cons]
        have : kwE.length = 5 := rfl
        omega
    have := h7 (x.ex.take k) (by rw [List.length_take]; omega) (fun b hb => h6 b (List.mem_of_mem_take hb))
    rw [List.length_take] at this
    omega
  have hhl : (headP x).length ≤ 4000 := by
    have e1 : kwV.length = 7 := rfl
    have e2 : kwK.length = 6 := rfl
    rw [headP, List.length_append, lineW_len2, lineW_len3]; omega
  have hh1 : (lineW [kwV, x.ver]).length ≤ 4000 := by have e1 : kwV.length = 7 := rfl; rw [lineW_len2]; omega
  have hkl := hidden h6
  have hc := hidden (And.intro hN (And.intro hB1 hrest))
  replace hel := hidden hel
  replace hhl := hidden hhl
  replace hh1 := hidden hh1
  obtain ⟨L, hL⟩ : ∃ L, x.ex.length = L := ⟨_, rfl⟩
  have c0 := hN.c0
  have c1 := hN.c1
  have c2 := hN.c2
  have c3 := hN.c3
  have c4 := hN.c4
  have hlt := hN.lt
  clear hv hok hN h6 hB1 hrest
  unfold enV at *
  rw [hL] at kO c3 hw1 hc hcap h5 ⊢
  replace hw1 := hidden hw1
  replace hL := hidden hL
  go_enter Tryz.func12, Tryz.ntmps12
  go_upto_region 1 with fail
  rw [hw1.out]
  clear hw1
  go_wp2_with fail
  refine kO.out.mono ?_
  rintro e w2 ⟨rfl, hb2⟩
  clear kO
  obtain ⟨w3, hw3, hI3, hb3⟩ : ∃ w3, w2.alloc (.cells #[.pointer none, .slice none 0 0] 63) = w3 ∧ IsB w2.heap.size w2.heap.size (Lib.byteCells []) w3 ∧ Below w2.heap.size w2 w3 := ⟨_, rfl, fresh_builder w2, (Below.refl _ _).alloc (Nat.le_refl _) _⟩
  have hlt2 : w.heap.size < w2.heap.size := Nat.lt_of_lt_of_le hlt hb2.size
  have g3 : ∀ j u, w1.cell? ⟨w.heap.size, j, none⟩ = some u → w3.cell? ⟨w.heap.size, j, none⟩ = some u := fun j u h => (hb3.cell (p := ⟨w.heap.size, j, none⟩) hlt2).trans ((hb2.cell (p := ⟨w.heap.size, j, none⟩) hlt).trans h)
  have d0 := g3 _ _ c0
  have kA := hidden (lay2 w2.heap.size w2.heap.size [] kwV x.ver _ rfl w3 hI3 hb3.size (by simp) (by decide) h1)
  have hB2 : Below w1.heap.size w1 w2 := hb2
  replace hw3 := hidden hw3
  replace hb2 := hidden hb2
  replace hb3 := hidden hb3
  replace g3 := hidden g3
  clear hI3 c0
  go_upto_region 4 with fail
  rw [hw3.out]
  clear hw3
  go_wp2_with fail
  refine kA.out.mono ?_
  rintro e w4 ⟨rfl, hI4, hb4⟩
  rw [List.nil_append] at hI4
  clear kA d0
  have g4 : ∀ j u, w1.cell? ⟨w.heap.size, j, none⟩ = some u → w4.cell? ⟨w.heap.size, j, none⟩ = some u := fun j u h => (hb4.cell (p := ⟨w.heap.size, j, none⟩) hlt2).trans (g3.out j u h)
  have d1 := g4 _ _ c1
  have d2 := g4 _ _ c2
  have hs4 : w2.heap.size ≤ w4.heap.size := Nat.le_trans hb3.out.size hb4.size
  have kA := hidden (lay3 w2.heap.size w2.heap.size _ kwK x.kn x.ks _ rfl w4 hI4 hs4 (by have := hh1.out; omega) (by decide) h2 h3)
  replace g4 := hidden g4
  replace hb4 := hidden hb4
  clear hI4 c1 c2 g3
  go_upto_region 5 with fail
  go_wp2_with fail
  refine kA.out.mono ?_
  rintro e w5 ⟨rfl, hI5, hb5⟩
  clear kA d1 d2
  have hb25 := hb3.out.trans (hb4.out.trans hb5)
  have g5 : ∀ j u, w1.cell? ⟨w.heap.size, j, none⟩ = some u → w5.cell? ⟨w.heap.size, j, none⟩ = some u := fun j u h => (hb5.cell (p := ⟨w.heap.size, j, none⟩) hlt2).trans (g4.out j u h)
  have d3 := g5 _ _ c3
  have e1 : lineW [kwV, x.ver] ++ lineW [kwK, x.kn, x.ks] = headP x := rfl
  rw [e1] at hI5
  have hs5 : w2.heap.size ≤ w5.heap.size := hb25.size
  replace hb5 := hidden hb5
  replace hb25 := hidden hb25
  replace hI5 := hidden hI5
  replace g5 := hidden g5
  replace c4 := hidden c4
  clear e1 g4 hb3 hb4 hB2 c3
  go_wp2_with fail
  go_loopg [26] L (fun g i wr => ∃ k : Nat, k ≤ L ∧ g = L - k ∧ i = .int .i64 (k : Int) ∧ Hid (Below w2.heap.size w5 wr ∧ IsB w2.heap.size w2.heap.size (Lib.byteCells (headP x ++ extraP (x.ex.take k))) wr))
  case atStart => exact ⟨0, Nat.zero_le _, rfl, rfl, hidden ⟨Below.refl _ _, by have := hI5.out; simpa [extraP] using this⟩⟩
  case round =>
    obtain ⟨k, hk, hg, rfl, hV⟩ := hrel
    replace hg := hidden hg
    have hs6 : w2.heap.size ≤ _ := Nat.le_trans hs5 hV.out.1.size
    by_cases hlt' : k < L
    · obtain ⟨y, hy⟩ : ∃ y, x.ex[k]? = some y := ⟨_, List.getElem?_eq_getElem (by rw [hL.out]; exact hlt')⟩
      obtain ⟨hy1, hy2⟩ := hkl.out y (List.mem_of_getElem? hy)
      obtain ⟨bb, off, rfl, hbb, hcells⟩ := hc.out.2.2 (by intro e; rw [e] at hy; simp at hy)
      obtain ⟨y0, y1⟩ := hcells k y hy
      have hbb1 : bb < w1.heap.size := Nat.lt_of_lt_of_le hbb hc.out.2.1.size
      have hbb2 : bb < w2.heap.size := Nat.lt_of_lt_of_le hbb1 hb2.out.size
      have gy : ∀ j u, w.cell? ⟨bb, j, none⟩ = some u → _ := fun j u h => (hV.out.1.cell (p := ⟨bb, j, none⟩) hbb2).trans ((hb25.out.cell (p := ⟨bb, j, none⟩) hbb2).trans ((hb2.out.cell (p := ⟨bb, j, none⟩) hbb1).trans ((hc.out.2.1.cell (p := ⟨bb, j, none⟩) hbb).trans h)))
      have z0 := gy _ _ y0
      have z1 := gy _ _ y1
      have hsn := hidden (extraP_snoc x.ex k y hy)
      obtain ⟨w7, hw7, hb7, t0, t1⟩ : ∃ w7, wr.alloc (.cells #[.string (mkB y.1), .string (mkB y.2)] 26) = w7 ∧ Below wr.heap.size wr w7 ∧ w7.cell? ⟨wr.heap.size, 0, none⟩ = some (.string (mkB y.1)) ∧ w7.cell? ⟨wr.heap.size, 1, none⟩ = some (.string (mkB y.2)) := ⟨_, rfl, (Below.refl _ _).alloc (Nat.le_refl _) _, by simp, by simp⟩
      have kA := hidden (lay3 w2.heap.size w2.heap.size _ kwE y.1 y.2 _ rfl w7 (hV.out.2.below hb7) (Nat.le_trans hs6 hb7.size) (by have e1 := hhl.out; have e2 := hel.out k; rw [List.length_append]; omega) (by decide) hy1 hy2)
      have hB7 := hidden (hV.out.1.trans (hb7.mono hs6))
      replace hw7 := hidden hw7
      clear y0 y1 gy hcells hV hb7 hbb hbb1 hbb2 d3 hy
      go_upto_region 9 with fail
      rw [hw7.out]
      clear hw7
      go_wp2_with fail
      refine kA.out.mono ?_
      rintro e w8 ⟨rfl, hI8, hb8⟩
      have hE := hidden (And.intro (hB7.out.trans hb8) hI8)
      clear hI8 hb8 kA hB7 t0 t1 z0 z1
      go_wp2
      go_roundg (L - (k + 1))
      case measure => rw [hg.out]; omega
      case rel => exact ⟨k + 1, hlt', rfl, by simp, hidden ⟨hE.out.1, by have := hE.out.2; rw [hsn.out, ← List.append_assoc]; exact this⟩⟩
    · obtain rfl : k = L := by omega
      have hI := hV.out.2
      rw [← hL.out, List.take_length] at hI
      have g6 := (hV.out.1.cell (p := ⟨w.heap.size, 4, none⟩) hlt2).trans (g5.out _ _ c4.out)
      have hB6 := hidden (hc.out.2.1.trans ((hb2.out.mono hc.out.2.1.size).trans (hb25.out.mono (Nat.le_of_lt hlt2) |>.trans (hV.out.1.mono (Nat.le_of_lt hlt2)))))
      have hel2 := hel.out x.ex.length
      rw [List.take_length] at hel2
      have hel3 := hhl.out
      have i0 : (mkB x.op).toList.isEmpty = x.op.isEmpty := by rw [mk_toList]
      have hlw : w.heap.size ≤ w2.heap.size := Nat.le_of_lt hlt2
      have kA := hidden (lay2 w2.heap.size w2.heap.size _ kwO x.op _ rfl _ hI hs6 (by rw [List.length_append]; omega) (by decide) h4)
      have kS := hidden (fun (l : List UInt8) (wx : World) (h : IsB w2.heap.size w2.heap.size (Lib.byteCells l) wx) (hs : w2.heap.size ≤ wx.heap.size) => Tryz.Builder_String_any_k w2.heap.size w2.heap.size _ wx h hs)
      obtain ⟨po, hpo⟩ : ∃ p, x.op.isEmpty = p := ⟨_, rfl⟩
      have hpr : printL x = (headP x ++ extraP x.ex) ++ (if po = true then [] else lineW [kwO, x.op]) := by rw [printL, optP, hpo]
      rw [hpo] at i0
      replace hI := hidden hI
      replace hpr := hidden hpr
      clear d3 hV hel2 hel3 hpo hc
      cases po
      · go_upto_region 12 with fail
        go_wp2_with fail
        refine kA.out.mono ?_
        rintro e w8 ⟨rfl, hI8, hb8⟩
        have hB8 := hidden (hB6.out.trans (hb8.mono hlw))
        have kS8 := hidden (kS.out _ w8 hI8 (Nat.le_trans hs6 hb8.size))
        clear hI8 hb8 kA kS g6 hB6
        go_wp2_with fail
        refine kS8.out.mono ?_
        rintro e w9 ⟨rfl, -, hb9, -⟩
        have hB9 := hidden (hB8.out.trans (hb9.mono hlw))
        clear hb9 hB8 kS8
        go_wp2
        go_ret2
        exact ⟨by rw [show printL x = headP x ++ (extraP x.ex ++ lineW [kwO, x.op]) by rw [hpr.out, List.append_assoc]; rfl]; rfl, hB9.out⟩
      · have kS8 := hidden (kS.out _ _ hI.out hs6)
        clear kA kS
        go_wp2_with fail
        refine kS8.out.mono ?_
        rintro e w9 ⟨rfl, -, hb9, -⟩
        have hB9 := hidden (hB6.out.trans (hb9.mono hlw))
        clear hb9 hB6 kS8
        go_wp2
        go_ret2
        exact ⟨by rw [show printL x = headP x ++ extraP x.ex by rw [hpr.out]; simp]; rfl, hB9.out⟩
end Go.Proofs.YtfoamhkgdlebdaaGreatDoor
