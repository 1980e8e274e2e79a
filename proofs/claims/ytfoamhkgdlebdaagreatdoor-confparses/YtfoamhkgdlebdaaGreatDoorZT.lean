/- ConfParses: the document's own Parse. -/
import Derived.Test.YtfoamhkgdlebdaaGreatDoorZR
import Derived.Test.YtfoamhkgdlebdaaGreatDoorZS2
namespace Go.Proofs.YtfoamhkgdlebdaaGreatDoor
open Go.RowKit Go.Extern.Stop Go.Stop Go.Extern
set_option maxRecDepth 100000

theorem results_cell_tmp2 {fn : Func} {p u z : Tmp} {ty : TypeId} (h : fn.results = #[.cell p ty, .tmp u, .tmp z]) (tmps : Array Value) (P : Program) (w : World) :
    (results fn tmps).run P w =
      ((asAddr (tmps.getD p undef)).run P w).andThen fun a w₁ => ((loadVar ty a).run P w₁).andThen fun v w₂ => .ok (.tuple #[v, tmps.getD u undef, tmps.getD z undef]) w₂ := by
  simp only [results, h]
  simp [Sem.run_bind, Result.andThen]
theorem ret_en3 {fn : Func} {p u z : Tmp} (h : fn.results = #[.cell p 29, .tmp u, .tmp z]) {tmps : Array Value} {w : World} {b : Nat} {x : En} {v : Value} (hp : tmps.getD p undef = .pointer (some ⟨b, 0, none⟩)) (hn : EnAt w b x v) :
    (results fn tmps).run Tryz.prog w = .ok (.tuple #[enV x v, tmps.getD u undef, tmps.getD z undef]) w := by
  rw [results_cell_tmp2 h, hp]
  simp [asAddr, Result.andThen, load_en hn]
/-- What the document's own Parse answers. -/
def RPEnd (w w' : World) (e : Ending) : Sum Nat En → Prop
  | .inl k => e = .returned (.tuple #[enV e0 nilE, .int .i64 (k : Int), .int .i64 30]) ∧ Below w.heap.size w w'
  | .inr x => ∃ v : Value, e = .returned (.tuple #[enV x v, .int .i64 0, .int .i64 0]) ∧ BlOwn w.heap.size w' v x.ex ∧ Below w.heap.size w w'
theorem rparse_long (s : List UInt8) (w : World) (hs : 2000 < s.length) :
    Calls Tryz.prog 10 #[.string (mkB s)] w fun e w' => e = .returned (.tuple #[enV e0 nilE, .int .i64 0, .int .i64 2]) ∧ Below w.heap.size w w' := by
  have hz : ((mkB s).size : Int) = (s.length : Int) := by rw [mk_size]
  have hs' : (2000 : Int) < (s.length : Int) := by omega
  generalize (s.length : Int) = n at hz hs'
  clear hs
  generalize mkB s = t at *
  obtain ⟨w1, hw1, hN, hf⟩ : ∃ w1, w.alloc (.cells #[.string ⟨#[]⟩, .string ⟨#[]⟩, .string ⟨#[]⟩, .slice none 0 0, .string ⟨#[]⟩] 29) = w1 ∧ EnAt w1 w.heap.size e0 nilE ∧ (∀ j, w1.frozen? ⟨w.heap.size, j, none⟩ = false) :=
    ⟨_, rfl, en_new (one_new _ _), frozen_new (one_new _ _)⟩
  have hB1 : Below w.heap.size w w1 := by rw [← hw1]; exact (Below.refl _ _).alloc (Nat.le_refl _) _
  have r0 : w1.cell? ⟨w.heap.size, 0, none⟩ = some (.string ⟨#[]⟩) := hN.c0
  have r1 : w1.cell? ⟨w.heap.size, 1, none⟩ = some (.string ⟨#[]⟩) := hN.c1
  have r2 : w1.cell? ⟨w.heap.size, 2, none⟩ = some (.string ⟨#[]⟩) := hN.c2
  have r3 : w1.cell? ⟨w.heap.size, 3, none⟩ = some (.slice none 0 0) := hN.c3
  have r4 : w1.cell? ⟨w.heap.size, 4, none⟩ = some (.string ⟨#[]⟩) := hN.c4
  have hfin := hidden (show EnAt (set5 w1 w.heap.size e0 nilE) w.heap.size e0 nilE ∧ Below w.heap.size w (set5 w1 w.heap.size e0 nilE) from ⟨set5_at hN _ _, hB1.trans ((set5_apart _ _ _ _).below (by simp) hB1.size)⟩)
  replace hw1 := hidden hw1
  clear hN hB1
  go_enter Tryz.func10, Tryz.ntmps10
  go_upto_region 1 with fail
  rw [hw1.out]
  clear hw1
  go_wp2
  (try simp only [Exit.inBlock, Exit.then])
  refine bodyPost_ret (ret_en3 (x := e0) (v := nilE) rfl rfl hfin.out.1) rfl ?_
  exact ⟨rfl, hfin.out.2⟩
structure RInv3 (w wr : World) (B g : Nat) (a : Option Addr) (ls : List (List UInt8)) (x : En) (v : Value) : Prop where
  st : ESt B wr (w.heap.size + 1) x v
  re : EnAt wr w.heap.size e0 (.slice none 0 0)
  rf : ∀ j, wr.frozen? ⟨w.heap.size, j, none⟩ = false
  bl : Below w.heap.size w wr
  gb : ls ≠ [] → g < B ∧ g ≠ w.heap.size + 1 ∧ a = some ⟨g, 0, none⟩
  li : ∀ k y, ls[k]? = some y → wr.cell? ⟨g, k, none⟩ = some (.string (mkB y))
  ks : x.kn.isEmpty = true → x.ks.isEmpty = true
theorem RInv3.next {w wr w' : World} {B g : Nat} {a : Option Addr} {ls : List (List UInt8)} {x x' : En} {v v' : Value} (h : RInv3 w wr B g a ls x v) (h2 : ESt B w' (w.heap.size + 1) x' v') (hk : Kp B (w.heap.size + 1) wr w') (hks : x'.kn.isEmpty = true → x'.ks.isEmpty = true) : RInv3 w w' B g a ls x' v' :=
  ⟨h2, ⟨(hk.bl.cell (p := ⟨w.heap.size, 0, none⟩) (Nat.lt_succ_self _)).trans h.re.c0, (hk.bl.cell (p := ⟨w.heap.size, 1, none⟩) (Nat.lt_succ_self _)).trans h.re.c1, (hk.bl.cell (p := ⟨w.heap.size, 2, none⟩) (Nat.lt_succ_self _)).trans h.re.c2, (hk.bl.cell (p := ⟨w.heap.size, 3, none⟩) (Nat.lt_succ_self _)).trans h.re.c3, (hk.bl.cell (p := ⟨w.heap.size, 4, none⟩) (Nat.lt_succ_self _)).trans h.re.c4⟩,
    fun j => (hk.bl.frozen (p := ⟨w.heap.size, j, none⟩) (Nat.lt_succ_self _)).trans (h.rf j), h.bl.trans (hk.bl.mono (Nat.le_succ _)), h.gb,
    fun k y hy => by
      have hne : ls ≠ [] := by intro e; rw [e] at hy; simp at hy
      obtain ⟨g1, g2, -⟩ := h.gb hne
      exact (cell_heap (hk.kp g g1 g2) k).trans (h.li k y hy), hks⟩
theorem refW_ks {e e' : En} {s : List UInt8} (h : refW e s = some e') (hk : e.kn.isEmpty = true → e.ks.isEmpty = true) : e'.kn.isEmpty = true → e'.ks.isEmpty = true := by
  unfold refW at h
  split at h
  · split at h
    · cases h; exact hk
    · cases h
  · split at h
    · split at h
      · cases h; exact hk
      · cases h
    · split at h
      · split at h
        · rename_i bq hb
          split at h
          · cases h
            intro he
            exfalso
            unfold blobT at hb
            split at hb
            · split at hb
              · rename_i h3
                cases hb
                obtain ⟨g1, -⟩ := blob_parts h3
                simp at he
                exact g1 he
              · cases hb
            · cases hb
          · cases h
        · cases h
      · split at h
        · split at h
          · split at h
            · cases h; exact hk
            · cases h
          · cases h
        · cases h
theorem two_heap0 (w : World) (o1 o2 : Obj) : ((w.alloc o1).alloc o2).heap[w.heap.size]? = some o1 := by
  show ((w.heap.push o1).push o2)[w.heap.size]? = some o1
  rw [Array.getElem?_push, if_neg (by simp), Array.getElem?_push, if_pos rfl]
theorem two_heap1 (w : World) (o1 o2 : Obj) : ((w.alloc o1).alloc o2).heap[w.heap.size + 1]? = some o2 := by
  show ((w.heap.push o1).push o2)[w.heap.size + 1]? = some o2
  rw [Array.getElem?_push, if_pos (by simp)]
set_option maxHeartbeats 8000000 in
theorem rparse_calls (s : List UInt8) (w : World) (hs : s.length ≤ 2000) :
    Calls Tryz.prog 10 #[.string (mkB s)] w fun e w' => RPEnd w w' e (readL (linesB s) 0 e0) := by
  have hz : ((mkB s).size : Int) = (s.length : Int) := by rw [mk_size]
  have hs' : ¬ (2000 : Int) < (s.length : Int) := by omega
  obtain ⟨L, hL⟩ : ∃ L, linesR s = L := ⟨_, rfl⟩
  obtain ⟨n, hn⟩ : ∃ n, L.length = n := ⟨_, rfl⟩
  have hsub : ∀ y ∈ L, y ∈ linesB s := by
    intro y hy
    rw [← hL] at hy
    unfold linesR at hy
    split at hy
    · exact List.dropLast_subset _ hy
    · exact hy
  have hline : ∀ y ∈ L, y.length ≤ 5000 := fun y hy => by have := lines_each s y (hsub y hy); omega
  have hnl : n ≤ 10000 := by
    have h1 := lines_len s
    have h2 : (linesR s).length ≤ (linesB s).length := by unfold linesR; split <;> simp
    rw [hL, hn] at h2; omega
  obtain ⟨r, hr⟩ : ∃ r, readL L 0 e0 = r := ⟨_, rfl⟩
  have kS := hidden (fun wx => rlines_calls s wx hs)
  rw [← readL_lines s]
  rw [hL] at kS ⊢
  rw [hr]
  generalize (s.length : Int) = sl at hz hs'
  clear hs hL hsub
  generalize mkB s = t at *
  obtain ⟨w2, hw2, hI2⟩ : ∃ w2, ((w.alloc (.cells #[.string ⟨#[]⟩, .string ⟨#[]⟩, .string ⟨#[]⟩, .slice none 0 0, .string ⟨#[]⟩] 29)).alloc (.cells #[.string ⟨#[]⟩, .string ⟨#[]⟩, .string ⟨#[]⟩, .slice none 0 0, .string ⟨#[]⟩] 29)) = w2 ∧ w2.heap.size = w.heap.size + 2 ∧ EnAt w2 w.heap.size e0 (.slice none 0 0) ∧ EnAt w2 (w.heap.size + 1) e0 (.slice none 0 0) ∧ (∀ j, w2.frozen? ⟨w.heap.size, j, none⟩ = false) ∧ (∀ j, w2.frozen? ⟨w.heap.size + 1, j, none⟩ = false) ∧ Below w.heap.size w w2 := by
    have h0' : ((w.alloc (.cells #[.string ⟨#[]⟩, .string ⟨#[]⟩, .string ⟨#[]⟩, .slice none 0 0, .string ⟨#[]⟩] 29)).alloc (.cells #[.string ⟨#[]⟩, .string ⟨#[]⟩, .string ⟨#[]⟩, .slice none 0 0, .string ⟨#[]⟩] 29)).heap[w.heap.size]? = some (.cells #[.string ⟨#[]⟩, .string ⟨#[]⟩, .string ⟨#[]⟩, .slice none 0 0, .string ⟨#[]⟩] 29) := two_heap0 w _ _
    have h1' : ((w.alloc (.cells #[.string ⟨#[]⟩, .string ⟨#[]⟩, .string ⟨#[]⟩, .slice none 0 0, .string ⟨#[]⟩] 29)).alloc (.cells #[.string ⟨#[]⟩, .string ⟨#[]⟩, .string ⟨#[]⟩, .slice none 0 0, .string ⟨#[]⟩] 29)).heap[w.heap.size + 1]? = some (.cells #[.string ⟨#[]⟩, .string ⟨#[]⟩, .string ⟨#[]⟩, .slice none 0 0, .string ⟨#[]⟩] 29) := two_heap1 w _ _
    exact ⟨_, rfl, by simp, en_new h0', en_new h1', frozen_new h0', frozen_new h1', ((Below.refl _ _).alloc (Nat.le_refl _) _).alloc (by simp) _⟩
  replace hw2 := hidden hw2
  replace hI2 := hidden hI2
  replace hr := hidden hr
  replace hn := hidden hn
  replace hline := hidden hline
  go_enter Tryz.func10, Tryz.ntmps10
  go_upto_region 4 with fail
  rw [hw2.out]
  clear hw2
  go_wp2_with fail
  refine (kS.out _).mono ?_
  rintro e w3 ⟨vl, rfl, hK3, hB3⟩
  obtain ⟨g, a, cl, hvl, hgb, hgc⟩ : ∃ g a c, vl = .slice a L.length c ∧ (L ≠ [] → w2.heap.size ≤ g ∧ g < w3.heap.size ∧ a = some ⟨g, 0, none⟩) ∧ ∀ k y, L[k]? = some y → w3.cell? ⟨g, k, none⟩ = some (.string (mkB y)) := by
    rcases hK3.row.2 with ⟨hv, h0⟩ | ⟨g, cap, cur, hv, h1, hh, rest⟩
    · have hL0 : L = [] := List.length_eq_zero_iff.1 h0
      exact ⟨0, none, 0, by rw [hv, h0], fun h => absurd hL0 h, fun k y hy => by rw [hL0] at hy; simp at hy⟩
    · refine ⟨g, _, cap, hv, fun _ => ⟨h1, ?_, rfl⟩, fun k y hy => ?_⟩
      · rcases Nat.lt_or_ge g w3.heap.size with h | h
        · exact h
        · rw [Array.getElem?_eq_none h] at hh; cases hh
      · have hk := (List.getElem?_eq_some_iff.1 hy).1
        subst hv
        have hc := hK3.row.cellAt k (show k < L.length * 1 by omega)
        rw [hc]
        simp [hy, encT]
  obtain ⟨i1, i2, i3, i4, i5, i6⟩ := hI2.out
  have hI := hidden (show RInv3 w w3 w3.heap.size g a L e0 (.slice none 0 0) from
    ⟨⟨i3.below hB3, fun j => (hB3.frozen (p := ⟨w.heap.size + 1, j, none⟩) i3.lt).trans (i5 j), BlOwn.nil _ _, by simp [e0], by have := hB3.size; omega, Nat.le_refl _⟩, i2.below hB3, fun j => (hB3.frozen (p := ⟨w.heap.size, j, none⟩) i2.lt).trans (i4 j), i6.trans (hB3.mono i6.size),
      fun hne => by obtain ⟨q1, q2, q3⟩ := hgb hne; exact ⟨q2, by omega, q3⟩, hgc, fun _ => rfl⟩)
  rw [hn.out] at hvl
  subst hvl
  clear kS hz hs' hK3 hB3 hgb hgc i1 i2 i3 i4 i5 i6 hI2
  generalize w3.heap.size = B at hI
  go_wp2_with fail
  go_loopg [7] n (fun gk i wr => ∃ (k : Nat) (x : En) (v : Value), k ≤ n ∧ gk = n - k ∧ i = .int .i64 (k : Int) ∧ Hid (RInv3 w wr B g a L x v ∧ readL (L.drop k) k x = r))
  case atStart => exact ⟨0, e0, .slice none 0 0, Nat.zero_le _, rfl, rfl, hidden ⟨hI.out, hr.out⟩⟩
  case round =>
    obtain ⟨k, x, v, hk, hg, rfl, hV⟩ := hrel
    replace hg := hidden hg
    by_cases hlt : k < n
    · have hltI : (k : Int) < (n : Int) := by omega
      obtain ⟨y, hy⟩ : ∃ y, L[k]? = some y := ⟨_, List.getElem?_eq_getElem (by rw [hn.out]; exact hlt)⟩
      have hyl := hline.out y (List.mem_of_getElem? hy)
      have cl := hV.out.1.li k y hy
      obtain ⟨-, -, rfl⟩ := hV.out.1.gb (by intro e; rw [e] at hy; simp at hy)
      have hstep : readL (L.drop k) k x = match takeL x y with | none => .inl (k + 1) | some e' => readL (L.drop (k + 1)) (k + 1) e' := by
        have hd : L.drop k = y :: L.drop (k + 1) := by
          have hlt' : k < L.length := by rw [hn.out]; exact hlt
          rw [List.drop_eq_getElem_cons hlt']
          rw [List.getElem?_eq_getElem hlt'] at hy
          simp at hy
          rw [hy]
        rw [hd]
        conv => lhs; unfold readL
        cases takeL x y <;> rfl
      rw [hV.out.2] at hstep
      replace hstep := hidden hstep
      replace hy := hidden hy
      cases y with
      | nil =>
        have hE : (mkB []).toList.isEmpty = true := by rw [mk_toList]; rfl
        have hfin := hidden (show RInv3 w wr B g (some ⟨g, 0, none⟩) L x v ∧ readL (L.drop (k + 1)) (k + 1) x = r from ⟨hV.out.1, hstep.out.symm⟩)
        clear hV hstep hyl
        generalize mkB [] = Y at *
        go_wp2
        go_roundg (n - (k + 1))
        case measure => rw [hg.out]; omega
        case rel => exact ⟨k + 1, _, _, hlt, rfl, by go_num, hfin⟩
      | cons c l =>
        have hE : (mkB (c :: l)).toList.isEmpty = false := by rw [mk_toList]; rfl
        have hx := first_run c l
        by_cases hc : c = 35
        · have hcI : ((c.toNat : Nat) : Int) = 35 := by rw [hc]; rfl
          have hfin := hidden (show RInv3 w wr B g (some ⟨g, 0, none⟩) L x v ∧ readL (L.drop (k + 1)) (k + 1) x = r from ⟨hV.out.1, by
            have := hstep.out
            rw [hc, takeL, if_pos (by decide)] at this
            exact this.symm⟩)
          clear hV hstep hyl
          generalize mkB (c :: l) = Y at *
          go_wp2
          go_roundg (n - (k + 1))
          case measure => rw [hg.out]; omega
          case rel => exact ⟨k + 1, _, _, hlt, rfl, by go_num, hfin⟩
        · have hcI : ¬ ((c.toNat : Nat) : Int) = 35 := by
            intro e
            exact hc (UInt8.toNat_inj.1 (by have : c.toNat = 35 := by omega
                                            rw [this]; rfl))
          have kT := hidden (rtake_calls B (w.heap.size + 1) x v wr hV.out.1.st (c :: l) hyl)
          have hst2 := hstep.out
          rw [take_ref hV.out.1.ks hc] at hst2
          replace hst2 := hidden hst2
          have hks := hidden (fun (e' : En) (h : refW x (c :: l) = some e') => refW_ks h hV.out.1.ks)
          clear hstep hyl
          generalize refW x (c :: l) = q at *
          generalize mkB (c :: l) = Y at *
          go_upto_region 9 with fail
          go_wp2_with fail
          refine kT.out.mono ?_
          rintro e w4 ⟨rfl, hK, hS⟩
          have hres := hidden (show EnAt w4 w.heap.size e0 (.slice none 0 0) ∧ (∀ j, w4.frozen? ⟨w.heap.size, j, none⟩ = false) ∧ Below w.heap.size w w4 from
            ⟨⟨(hK.bl.cell (p := ⟨w.heap.size, 0, none⟩) (Nat.lt_succ_self _)).trans hV.out.1.re.c0, (hK.bl.cell (p := ⟨w.heap.size, 1, none⟩) (Nat.lt_succ_self _)).trans hV.out.1.re.c1, (hK.bl.cell (p := ⟨w.heap.size, 2, none⟩) (Nat.lt_succ_self _)).trans hV.out.1.re.c2, (hK.bl.cell (p := ⟨w.heap.size, 3, none⟩) (Nat.lt_succ_self _)).trans hV.out.1.re.c3, (hK.bl.cell (p := ⟨w.heap.size, 4, none⟩) (Nat.lt_succ_self _)).trans hV.out.1.re.c4⟩,
              fun j => (hK.bl.frozen (p := ⟨w.heap.size, j, none⟩) (Nat.lt_succ_self _)).trans (hV.out.1.rf j), hV.out.1.bl.trans (hK.bl.mono (Nat.le_succ _))⟩)
          cases q with
          | none =>
            have hre : r = .inl (k + 1) := hst2.out
            have r0 : w4.cell? ⟨w.heap.size, 0, none⟩ = some (.string ⟨#[]⟩) := hres.out.1.c0
            have r1 : w4.cell? ⟨w.heap.size, 1, none⟩ = some (.string ⟨#[]⟩) := hres.out.1.c1
            have r2 : w4.cell? ⟨w.heap.size, 2, none⟩ = some (.string ⟨#[]⟩) := hres.out.1.c2
            have r3 : w4.cell? ⟨w.heap.size, 3, none⟩ = some (.slice none 0 0) := hres.out.1.c3
            have r4 : w4.cell? ⟨w.heap.size, 4, none⟩ = some (.string ⟨#[]⟩) := hres.out.1.c4
            have rf := hres.out.2.1
            have hfin := hidden (show EnAt (set5 w4 w.heap.size e0 nilE) w.heap.size e0 nilE ∧ Below w.heap.size w (set5 w4 w.heap.size e0 nilE) from ⟨set5_at hres.out.1 _ _, hres.out.2.2.trans ((set5_apart _ _ _ _).below (by simp) hres.out.2.2.size)⟩)
            replace hre := hidden hre
            clear hV hst2 hks hK hS hres kT cl
            go_wp2
            (try simp only [Exit.inBlock, Exit.then])
            refine bodyPost_ret (ret_en3 (x := e0) (v := nilE) rfl rfl hfin.out.1) rfl ?_
            rw [hre.out]
            exact ⟨by simp, hfin.out.2⟩
          | some e' =>
            obtain ⟨v', hS'⟩ := hS e' rfl
            have hfin := hidden (show RInv3 w w4 B g (some ⟨g, 0, none⟩) L e' v' ∧ readL (L.drop (k + 1)) (k + 1) e' = r from ⟨hV.out.1.next hS' hK (hks.out e' rfl), hst2.out.symm⟩)
            clear hV hst2 hks hK hS hS' hres kT cl
            go_wp2
            go_roundg (n - (k + 1))
            case measure => rw [hg.out]; omega
            case rel => exact ⟨k + 1, _, _, hlt, rfl, by go_num, hfin⟩
    · obtain rfl : k = n := by omega
      have hltI : ¬ (k : Int) < (k : Int) := by omega
      have hres : (if (x.ver.isEmpty || x.kn.isEmpty) = true then Sum.inl 0 else Sum.inr x) = r := by
        rw [← hV.out.2, ← hn.out, List.drop_length]; rfl
      obtain ⟨va, vc, rfl⟩ := hV.out.1.st.own.form
      have c0 := hV.out.1.st.en.c0
      have c1 := hV.out.1.st.en.c1
      have c2 := hV.out.1.st.en.c2
      have c3 := hV.out.1.st.en.c3
      have c4 := hV.out.1.st.en.c4
      have r0 : wr.cell? ⟨w.heap.size, 0, none⟩ = some (.string ⟨#[]⟩) := hV.out.1.re.c0
      have r1 : wr.cell? ⟨w.heap.size, 1, none⟩ = some (.string ⟨#[]⟩) := hV.out.1.re.c1
      have r2 : wr.cell? ⟨w.heap.size, 2, none⟩ = some (.string ⟨#[]⟩) := hV.out.1.re.c2
      have r3 : wr.cell? ⟨w.heap.size, 3, none⟩ = some (.slice none 0 0) := hV.out.1.re.c3
      have r4 : wr.cell? ⟨w.heap.size, 4, none⟩ = some (.string ⟨#[]⟩) := hV.out.1.re.c4
      have f0 := hV.out.1.rf
      have i0 : (mkB x.ver).toList.isEmpty = x.ver.isEmpty := by rw [mk_toList]
      have i1 : (mkB x.kn).toList.isEmpty = x.kn.isEmpty := by rw [mk_toList]
      have hE := hidden (show EnAt (set5 wr w.heap.size x (.slice va x.ex.length vc)) w.heap.size x (.slice va x.ex.length vc) ∧ BlOwn w.heap.size (set5 wr w.heap.size x (.slice va x.ex.length vc)) (.slice va x.ex.length vc) x.ex ∧ Below w.heap.size w (set5 wr w.heap.size x (.slice va x.ex.length vc)) from by
        obtain ⟨h1, h2, h3⟩ := en_end (w := w) (x := x) (v := .slice va x.ex.length vc) hV.out.1.re hV.out.1.st.own (by have := hV.out.1.st.hb; omega) hV.out.1.bl (Nat.le_refl _)
        exact ⟨h1, h2.mono (by have := hV.out.1.st.hb; omega), h3⟩)
      have hZ := hidden (show EnAt (set5 wr w.heap.size e0 nilE) w.heap.size e0 nilE ∧ Below w.heap.size w (set5 wr w.heap.size e0 nilE) from ⟨set5_at hV.out.1.re _ _, hV.out.1.bl.trans ((set5_apart _ _ _ _).below (by simp) hV.out.1.bl.size)⟩)
      clear hV hI
      cases hv0 : x.ver.isEmpty
      · rw [hv0] at i0 hres
        cases hv1 : x.kn.isEmpty
        · rw [hv1] at i1 hres
          have hres' : r = .inr x := by simpa using hres.symm
          replace hres' := hidden hres'
          clear hres hv0 hv1
          go_wp2
          (try simp only [Exit.inBlock, Exit.then])
          refine bodyPost_ret (ret_en3 (x := x) rfl rfl hE.out.1) rfl ?_
          rw [hres'.out]
          exact ⟨.slice va x.ex.length vc, by simp, hE.out.2.1, hE.out.2.2⟩
        · rw [hv1] at i1 hres
          have hres' : r = .inl 0 := by simpa using hres.symm
          replace hres' := hidden hres'
          clear hres hv0 hv1
          go_wp2
          (try simp only [Exit.inBlock, Exit.then])
          refine bodyPost_ret (ret_en3 (x := e0) (v := nilE) rfl rfl hZ.out.1) rfl ?_
          rw [hres'.out]
          exact ⟨by simp, hZ.out.2⟩
      · rw [hv0] at i0 hres
        have hres' : r = .inl 0 := by simpa using hres.symm
        replace hres' := hidden hres'
        clear hres hv0 i1
        go_wp2
        (try simp only [Exit.inBlock, Exit.then])
        refine bodyPost_ret (ret_en3 (x := e0) (v := nilE) rfl rfl hZ.out.1) rfl ?_
        rw [hres'.out]
        exact ⟨by simp, hZ.out.2⟩
end Go.Proofs.YtfoamhkgdlebdaaGreatDoor
