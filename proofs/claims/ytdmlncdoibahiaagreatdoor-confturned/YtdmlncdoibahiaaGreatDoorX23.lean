/- The document's own Print. -/
import Derived.Test.YtdmlncdoibahiaaGreatDoorX20
import Derived.BigQuiet
namespace Go.Proofs.YtdmlncdoibahiaaGreatDoor
open Go.RowKit Go.Extern.Stop Go.Stop Go.Extern
set_option maxRecDepth 100000

theorem mk_app (a b : List UInt8) : mkB a ++ mkB b = mkB (a ++ b) := by
  apply ByteArray.ext
  simp [mkB]
set_option maxHeartbeats 4000000 in
theorem refprint_bad (x : En) (v : Value) (w : World) (hv : BlobsAt w v x.ex) (hl : x.ex.length ≤ 100) (hok : okE x = false) :
    Calls Tryz.prog 16 #[enV x v] w fun e w' => e = .returned (.tuple #[.string ⟨#[]⟩, .bool false]) ∧ Below w.heap.size w w' := by
  obtain ⟨a, cap, rfl, hrest⟩ := (id hv : BlobsAt w v x.ex)
  clear hrest
  obtain ⟨w1, hw1, hN, hB1⟩ : ∃ w1, w.alloc (.cells #[.string (mkB x.ver), .string (mkB x.kn), .string (mkB x.ks), .slice a x.ex.length cap, .string (mkB x.op)] 26) = w1 ∧ EnAt w1 w.heap.size x (.slice a x.ex.length cap) ∧ Below w.heap.size w w1 := ⟨_, rfl, ⟨by simp, by simp, by simp, by simp, by simp⟩, (Below.refl _ _).alloc (Nat.le_refl _) _⟩
  have kO := hidden (refok_calls x _ w1 (hv.below hB1) hl)
  rw [hok] at kO
  have c0 := hN.c0
  have c1 := hN.c1
  have c2 := hN.c2
  have c3 := hN.c3
  have c4 := hN.c4
  replace hw1 := hidden hw1
  replace hB1 := hidden hB1
  clear hv hl hok hN
  unfold enV at *
  go_enter Tryz.func16, Tryz.ntmps16
  go_upto_region 1 with fail
  rw [hw1.out]
  clear hw1
  go_wp2_with fail
  refine kO.out.mono ?_
  rintro e w2 ⟨rfl, hb2⟩
  have hB2 := hidden (hB1.out.trans (hb2.mono hB1.out.size))
  clear hb2 hB1 kO c0 c1 c2 c3 c4
  go_wp2
  go_ret2
  exact ⟨rfl, hB2.out⟩
def l1 : List UInt8 := [118, 101, 114, 115, 105, 111, 110, 32]
def l2 : List UInt8 := [10, 107, 101, 114, 110, 101, 108, 32]
def l3 : List UInt8 := [101, 120, 116, 114, 97, 32]
def l4 : List UInt8 := [111, 112, 116, 105, 111, 110, 115, 32]
theorem bl1 : (⟨#[118, 101, 114, 115, 105, 111, 110, 32]⟩ : ByteArray) = mkB l1 := rfl
theorem bl2 : (⟨#[10, 107, 101, 114, 110, 101, 108, 32]⟩ : ByteArray) = mkB l2 := rfl
theorem bl3 : (⟨#[101, 120, 116, 114, 97, 32]⟩ : ByteArray) = mkB l3 := rfl
theorem bl4 : (⟨#[111, 112, 116, 105, 111, 110, 115, 32]⟩ : ByteArray) = mkB l4 := rfl
theorem bl5 : (⟨#[32]⟩ : ByteArray) = mkB [32] := rfl
theorem bl6 : (⟨#[10]⟩ : ByteArray) = mkB [10] := rfl
theorem head_cat (x : En) : ⟨#[118, 101, 114, 115, 105, 111, 110, 32]⟩ ++ mkB x.ver ++ ⟨#[10, 107, 101, 114, 110, 101, 108, 32]⟩ ++ mkB x.kn ++ ⟨#[32]⟩ ++ mkB x.ks ++ ⟨#[10]⟩ = mkB (headP x) := by
  rw [bl1, bl2, bl5, bl6, mk_app, mk_app, mk_app, mk_app, mk_app, mk_app]
  congr 1
  simp [headP, lineW, Lib.join, l1, l2, kwV, kwK]
theorem ex_cat (l : List UInt8) (b : Bl) : mkB l ++ ⟨#[101, 120, 116, 114, 97, 32]⟩ ++ mkB b.1 ++ ⟨#[32]⟩ ++ mkB b.2 ++ ⟨#[10]⟩ = mkB (l ++ lineW [kwE, b.1, b.2]) := by
  rw [bl3, bl5, bl6, mk_app, mk_app, mk_app, mk_app, mk_app]
  congr 1
  simp [lineW, Lib.join, l3, kwE]
theorem op_cat (l o : List UInt8) : mkB l ++ ⟨#[111, 112, 116, 105, 111, 110, 115, 32]⟩ ++ mkB o ++ ⟨#[10]⟩ = mkB (l ++ lineW [kwO, o]) := by
  rw [bl4, bl6, mk_app, mk_app, mk_app]
  congr 1
  simp [lineW, Lib.join, l4, kwO]
set_option maxHeartbeats 8000000 in
theorem refprint_good (x : En) (v : Value) (w : World) (hv : BlobsAt w v x.ex) (hok : OkE x) :
    Calls Tryz.prog 16 #[enV x v] w fun e w' => e = .returned (.tuple #[.string (mkB (printL x)), .bool true]) ∧ Below w.heap.size w w' := by
  obtain ⟨h1, h2, h3, h4, h5, h6⟩ := hok.sizes
  have hpl := print_len hok
  obtain ⟨a, cap, rfl, hcap, hrest⟩ := (id hv : BlobsAt w v x.ex)
  obtain ⟨w1, hw1, hN, hB1⟩ : ∃ w1, w.alloc (.cells #[.string (mkB x.ver), .string (mkB x.kn), .string (mkB x.ks), .slice a x.ex.length cap, .string (mkB x.op)] 26) = w1 ∧ EnAt w1 w.heap.size x (.slice a x.ex.length cap) ∧ Below w.heap.size w w1 := ⟨_, rfl, ⟨by simp, by simp, by simp, by simp, by simp⟩, (Below.refl _ _).alloc (Nat.le_refl _) _⟩
  have kO := hidden (refok_calls x _ w1 (hv.below hB1) (by omega))
  rw [(ok_iff x).2 hok] at kO
  have hkl := hidden h6
  have hc := hidden (And.intro hN (And.intro hB1 hrest))
  have hsz1 : (mkB x.ver).size ≤ 1000 := by rw [mk_size]; exact h1
  have hsz2 : (mkB x.kn).size ≤ 1000 := by rw [mk_size]; exact h2
  have hsz3 : (mkB x.ks).size ≤ 1000 := by rw [mk_size]; exact h3
  have hsz4 : (mkB x.op).size ≤ 1000 := by rw [mk_size]; exact h4
  obtain ⟨L, hL⟩ : ∃ L, x.ex.length = L := ⟨_, rfl⟩
  have c0 := hN.c0
  have c1 := hN.c1
  have c2 := hN.c2
  have c3 := hN.c3
  have c4 := hN.c4
  have hlt := hN.lt
  have hcat := hidden (head_cat x)
  clear hv hok hN h6 hB1 hrest h1 h2 h3 h4
  unfold enV at *
  rw [hL] at kO c3 hw1 hc hcap h5 ⊢
  replace hw1 := hidden hw1
  replace hL := hidden hL
  go_enter Tryz.func16, Tryz.ntmps16
  go_upto_region 1 with fail
  rw [hw1.out]
  clear hw1
  go_wp2_with fail
  refine kO.out.mono ?_
  rintro e w2 ⟨rfl, hb2⟩
  clear kO
  have g2 : ∀ j u, w1.cell? ⟨w.heap.size, j, none⟩ = some u → w2.cell? ⟨w.heap.size, j, none⟩ = some u := fun j u h => (hb2.cell (p := ⟨w.heap.size, j, none⟩) hlt).trans h
  have d0 := g2 _ _ c0
  have d1 := g2 _ _ c1
  have d2 := g2 _ _ c2
  have d3 := g2 _ _ c3
  have d4 := g2 _ _ c4
  have hlt2 : w.heap.size < w2.heap.size := Nat.lt_of_lt_of_le hlt hb2.size
  replace hb2 := hidden hb2
  clear g2 c0 c1 c2 c3 c4
  go_upto_region 4 with fail
  rw [hcat.out]
  have hbnd : Hid (∀ k, (headP x ++ extraP (x.ex.take k)).length ≤ 2000) := hidden (fun k => by
    have e2 : extraP x.ex = extraP (x.ex.take k) ++ extraP (x.ex.drop k) := by rw [extraP, extraP, extraP, ← List.flatten_append, ← List.map_append, List.take_append_drop]
    rw [printL, e2] at hpl
    simp only [List.length_append] at hpl ⊢
    omega)
  clear hcat
  go_wp2_with fail
  go_loopg [4, 5] L (fun gk s i wr => ∃ k : Nat, k ≤ L ∧ gk = L - k ∧ i = .int .i64 (k : Int) ∧ s = .string (mkB (headP x ++ extraP (x.ex.take k))) ∧ Hid (Below w2.heap.size w2 wr))
  case atStart => exact ⟨0, Nat.zero_le _, rfl, rfl, by simp [extraP], hidden (Below.refl _ _)⟩
  case round =>
    obtain ⟨k, hk, hg, rfl, rfl, hV⟩ := hrel
    replace hg := hidden hg
    have f3 := (hV.out.cell (p := ⟨w.heap.size, 3, none⟩) hlt2).trans d3
    have f4 := (hV.out.cell (p := ⟨w.heap.size, 4, none⟩) hlt2).trans d4
    have hbk := hbnd.out k
    by_cases hlt' : k < L
    · obtain ⟨y, hy⟩ : ∃ y, x.ex[k]? = some y := ⟨_, List.getElem?_eq_getElem (by rw [hL.out]; exact hlt')⟩
      obtain ⟨hy1, hy2⟩ := hkl.out y (List.mem_of_getElem? hy)
      obtain ⟨bb, off, rfl, hbb, hcells⟩ := hc.out.2.2 (by intro e; rw [e] at hy; simp at hy)
      obtain ⟨y0, y1⟩ := hcells k y hy
      have gy : ∀ (g j : Nat) (u : Value), g < w.heap.size → w.cell? ⟨g, j, none⟩ = some u → wr.cell? ⟨g, j, none⟩ = some u := fun g j u hg h => (hV.out.cell (p := ⟨g, j, none⟩) (Nat.lt_of_lt_of_le (Nat.lt_of_lt_of_le hg hc.out.2.1.size) hb2.out.size)).trans ((hb2.out.cell (p := ⟨g, j, none⟩) (Nat.lt_of_lt_of_le hg hc.out.2.1.size)).trans ((hc.out.2.1.cell (p := ⟨g, j, none⟩) hg).trans h))
      have z0 := gy _ _ _ hbb y0
      have z1 := gy _ _ _ hbb y1
      have hcat := ex_cat (headP x ++ extraP (x.ex.take k)) y
      rw [List.append_assoc, ← extraP_snoc x.ex k y hy] at hcat
      replace hcat := hidden hcat
      have sz : (mkB (headP x ++ extraP (x.ex.take k))).size ≤ 2000 := by rw [mk_size]; exact hbk
      have sz1 : (mkB y.1).size ≤ 1000 := by rw [mk_size]; exact hy1
      have sz2 : (mkB y.2).size ≤ 1000 := by rw [mk_size]; exact hy2
      generalize mkB (headP x ++ extraP (x.ex.take k)) = cur at *
      generalize mkB y.1 = s1 at *
      generalize mkB y.2 = s2 at *
      clear y0 y1 gy hcells hy hbk d0 d1 d2 d3 d4 hbb
      go_upto_region 7 with fail
      go_quiet (fail)
      have hb4 : Hid (Below w2.heap.size w2 (wr.drewN nq)) := hidden (below_drewN hV.out nq)
      generalize wr.drewN nq = w5 at hb4 ⊢
      clear z0 z1
      rw [hcat.out]
      go_wp2
      go_roundg (L - (k + 1))
      case measure => rw [hg.out]; omega
      case rel => exact ⟨k + 1, hlt', rfl, by simp, rfl, hb4⟩
    · obtain rfl : k = L := by omega
      have hB := hidden (hc.out.2.1.trans ((hb2.out.trans (hV.out.mono hb2.out.size)).mono hc.out.2.1.size))
      have hcat := hidden (op_cat (headP x ++ extraP (x.ex.take x.ex.length)) x.op)
      rw [hL.out] at hcat
      have i0 : (mkB x.op).toList.isEmpty = x.op.isEmpty := by rw [mk_toList]
      have htk : x.ex.take k = x.ex := by rw [← hL.out, List.take_length]
      have sz : (mkB (headP x ++ extraP (x.ex.take k))).size ≤ 2000 := by rw [mk_size]; exact hbk
      obtain ⟨po, hpo⟩ : ∃ p, x.op.isEmpty = p := ⟨_, rfl⟩
      have hpr : printL x = (headP x ++ extraP (x.ex.take k)) ++ (if po = true then [] else lineW [kwO, x.op]) := by rw [printL, optP, hpo, htk]
      rw [hpo] at i0
      replace hpr := hidden hpr
      generalize hcur : mkB (headP x ++ extraP (x.ex.take k)) = cur at *
      replace hcur := hidden hcur
      clear d0 d1 d2 d3 d4 hV hpo htk hbk
      cases po
      · go_upto_region 10 with fail
        rw [hcat.out]
        go_wp2
        go_ret2
        exact ⟨by rw [show printL x = headP x ++ extraP (List.take k x.ex) ++ lineW [kwO, x.op] by rw [hpr.out]; rfl]; rfl, hB.out⟩
      · go_wp2
        go_ret2
        exact ⟨by rw [show printL x = headP x ++ extraP (List.take k x.ex) by rw [hpr.out]; simp, hcur.out]; rfl, hB.out⟩
end Go.Proofs.YtdmlncdoibahiaaGreatDoor
