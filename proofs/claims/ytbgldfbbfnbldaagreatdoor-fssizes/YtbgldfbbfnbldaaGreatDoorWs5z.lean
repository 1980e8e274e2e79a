/- FsSizes answers true, whatever it is given, and changes nothing that was there. -/
import Derived.Test.YtbgldfbbfnbldaaGreatDoorGWt
import Derived.Test.YtbgldfbbfnbldaaGreatDoorWs3z
import Derived.Deep.CutBlock
namespace Go.Proofs.YtbgldfbbfnbldaaGreatDoor
open Go.RowKit Go.Extern.Stop Go.Stop Go.Extern Go.Maps Go.Sort Go.Shelf
set_option maxRecDepth 1000000

/-- A list of numbers that came in. -/
def IntsIn (w : World) (v : Value) (zs : List Int) : Prop :=
  ∃ a cap, v = .slice a zs.length cap ∧ zs.length ≤ maxLen ∧ (zs ≠ [] → ∃ b off, a = some ⟨b, off, none⟩ ∧ b < w.heap.size ∧ ∀ k, k < zs.length → w.cell? ⟨b, off + k, none⟩ = some (.int .i64 (zs.getD k 0)))
theorem wp_lastF {P : Program} {c : Code} {Q : Exit → Act → World → Prop} {a : Act} {w : World} (h : Code.wp P c (Exit.then (fun a w => Q .normal a w) Q) a w) : Code.wp P c Q a w := wp_mono h (fun e a w h => by cases e <;> exact h)
set_option maxHeartbeats 8000000 in
theorem fsSizes_calls (v : Value) (zs : List Int) (w : World) (hv : IntsIn w v zs) (hG : Ground w) (hGT : GT w) :
    Calls Tryz.prog 3 #[v] w fun e w' => e = .returned (.bool true) ∧ Below w.heap.size w w' := by
  have kM := hidden (New11_calls fmt220 w hG)
  obtain ⟨a, vcap, rfl, hmax, hc⟩ := hv
  have kc := hidden (fun (wx : World) (hx : Below w.heap.size w wx) (k : Nat) (hk : k < zs.length) => show ∃ b off, a = some ⟨b, off, none⟩ ∧ wx.cell? ⟨b, off + k, none⟩ = some (.int .i64 (zs.getD k 0)) from by
    obtain ⟨b, off, ha, hb, hcell⟩ := hc (by intro e; rw [e] at hk; simp at hk)
    exact ⟨b, off, ha, (hx.cell (p := ⟨b, off + k, none⟩) hb).trans (hcell k hk)⟩)
  have hmax2 : (zs.length : Int) ≤ 9223372036854775807 := by unfold maxLen at hmax; omega
  replace hGT := hidden hGT
  clear hG hc hmax
  generalize zs.length = L at *
  go_enter Tryz.func3, Tryz.ntmps3
  go_wp2_with fail
  refine (kM.out).mono ?_
  rintro ev w1 ⟨E, fb, hb, xb, rfl, hN⟩
  have hw0 := hidden hN.w0
  have hR1 := hidden (show SzR fb hb xb E 6000 none w1 from ⟨hN.z, hN.no, hN.x1, hN.xn, hN.tn, hN.k⟩)
  clear hN kM
  go_wp2_with fail
  go_loopg [4] 13 (fun gk q wr => ∃ (i : Nat) (E' : TE) (o : Option (List Int)), i ≤ 12 ∧ gk = 13 - i ∧ q = .int .i64 i ∧ Hid (E'.w0 = w) ∧ Hid (SzR fb hb xb E' (6000 + 5000 * i) o wr))
  case atStart => exact ⟨0, E, none, by omega, rfl, rfl, hw0, hR1⟩
  case round =>
    obtain ⟨i, E', o, hi, hgk, rfl, hw', hI⟩ := hrel
    replace hgk := hidden hgk
    clear hw0 hR1
    clear E
    rename TE => E
    have hBw := hidden (show Below w.heap.size w wr from by have := hI.out.st.lts.2.2; rw [hw'.out] at this; exact this)
    by_cases hlt : i < L ∧ i < 12
    · obtain ⟨hl1, hl2⟩ := hlt
      obtain ⟨lb, lo, rfl, hcl⟩ := kc.out _ hBw.out i hl1
      generalize zs.getD i 0 = x at hcl
      have hal : 0 ≤ bits .and .i64 x 65535 ∧ bits .and .i64 x 65535 ≤ 65535 := and_low x 65535 (by decide)
      obtain ⟨n, hn, hnb⟩ : ∃ n : Nat, (bits .and .i64 x 65535).tmod 4001 = (n : Int) ∧ n ≤ 4000 := by
        have e : (bits .and .i64 x 65535).tmod 4001 = bits .and .i64 x 65535 % 4001 := Int.tmod_eq_emod_of_nonneg hal.1
        refine ⟨((bits .and .i64 x 65535) % 4001).toNat, ?_, by omega⟩
        rw [e]
        omega
      clear hal
      go_upto_region 8 with fail
      clear hn hcl
      refine sz8 wr fb hb xb E (6000 + 5000 * i) i n o hnb (hidden (by omega)) hI _ _ _ _ _ _ _ _ _ _ _ _ _ _ _ _ _ _ _ _ _ _ _ _ _ _ _ _ _ _ _ _ _ _ _ _ _ _ _ _ _ _ _ _ _ _ _ _ _ _ _ _ _ _ _ _ _ _ _ _ _ _ _ _ _ _ _ _ _ _ _ _ _ _ _ _ _ _ _ _ _ _ _ _ _ _ _ _ _ _ _ _ _ _ _ _ _ _ _ _ _ _ _ _ _ _ _ _ _ _ _ _ _ _ _ _ _ (hidden ?kk8) (hidden ?qp8)
      case qp8 => exact fun _ a a' _ h e => by cases a; cases a'; cases e; exact h
      case kk8 =>
        intro v31 v32 v33 v34 v35 v36 v37 v38 v39 w2 hR2
        obtain ⟨ys, hys⟩ : ∃ ys, ys = text11 (i : Int) n := ⟨_, rfl⟩
        have hyl : ys.length = n := by rw [hys]; exact text11_len _ _
        rw [← hys] at hR2
        have kG := hidden (sz_get hR2 (by omega))
        have c2 := hR2.x1
        have l2 := lt_of_cell (a := ⟨xb, 1, none⟩) c2
        have hlow := hidden (show ∀ k ∈ [E.d, E.g, E.mb, fb], k < w2.heap.size from by
          obtain ⟨⟨h1, h2, -, -, h3, -⟩, h4, -⟩ := hR2.st.lts
          intro k hk
          simp at hk
          rcases hk with rfl | rfl | rfl | rfl
          · exact h1
          · exact h2
          · exact h3
          · exact h4)
        clear hR2 hBw
        dsimp only
        go_wp2_with fail
        refine (kG.out).mono ?_
        rintro ev w3 ⟨bv, rfl, hO3, hR3, hT3⟩
        obtain ⟨ba, bc, rfl, -⟩ := ownV_at hO3
        have hBs := hT3.size
        obtain ⟨B, hB⟩ : ∃ B, w2.heap.size = B := ⟨_, rfl⟩
        rw [hB] at hO3 hlow hBs
        have kR := sz_room hR3 (by omega)
        rw [hyl] at kR hO3 ⊢
        replace kR := hidden kR
        have c3 := hR3.x1
        have l3 := lt_of_cell (a := ⟨xb, 1, none⟩) c3
        replace hO3 := hidden hO3
        replace hBs := hidden hBs
        clear hR3 hB kG c2 l2 hT3
        go_wp2_with fail
        refine (kR.out).mono ?_
        rintro ev w4 ⟨f, CI, hf, rfl, hR4, hT4⟩
        obtain ⟨FI, hFI⟩ : ∃ FI : Int, (f : Int) = FI := ⟨_, rfl⟩
        rw [hFI] at hf ⊢
        have hO4 := hO3.out.keep hT4 hlow.out
        obtain ⟨w5, hw5, hB5, hr5⟩ : ∃ w5, w4.alloc (Obj.cells #[.int .i64 FI, .int .i64 0, .int .i64 CI, .int .i64 113] 38) = w5 ∧ Below w4.heap.size w4 w5 ∧ RmAt w5 w4.heap.size FI 0 CI 113 := ⟨_, rfl, (Below.refl _ _).alloc (Nat.le_refl _) _, rm_new _ _ _ _ _⟩
        have hrb : B ≤ w4.heap.size := Nat.le_trans hBs.out hT4.size
        have hR5 := hR4.below hB5
        have hO5 := hO4.below hB5
        have kS := sz_stat hR5 (by omega)
        rw [hyl] at kS
        replace kS := hidden kS
        have c5 := hR5.x1
        have l5 := lt_of_cell (a := ⟨xb, 1, none⟩) c5
        unfold rmV
        replace hf := hidden hf
        replace hFI := hidden hFI
        clear hR4 hT4 hO4 hO3 kR hR5 c3 l3 hBs hB5
        replace hO5 := hidden hO5
        replace hw5 := hidden hw5
        go_upto_region 12 with fail
        rw [hw5.out]
        clear hw5
        generalize w4.heap.size = rb at *
        replace hr5 := hidden hr5
        go_wp2_with fail
        refine (kS.out).mono ?_
        rintro ev w6 ⟨rfl, hR6, hT6⟩
        have hO6 := hO5.out.keep hT6 hlow.out
        have hr6 := hr5.out.keep hT6 (fun hm => by have := hlow.out _ hm; omega)
        obtain ⟨w7, hw7, hB7, hs7⟩ : ∃ w7, w6.alloc (Obj.cells #[.bool false, .int .i64 (n : Nat), .int .i64 0] 42) = w7 ∧ Below w6.heap.size w6 w7 ∧ InAt w7 w6.heap.size false (n : Nat) 0 := ⟨_, rfl, (Below.refl _ _).alloc (Nat.le_refl _) _, in_new _ _ _ _⟩
        have hsb : B ≤ w6.heap.size := by have := hr6.lt; omega
        have hR7 := hidden (hR6.below hB7)
        have hS7 := hidden (show SzT xb fb rb w6.heap.size B (.slice ba n bc) ys FI CI (n : Nat) w7 from ⟨hR7.out.x1, hr6.below hB7, hs7, hO6.below hB7, hrb, hsb⟩)
        unfold inV
        clear hR6 hT6 hO6 hO5 kS c5 l5 hr6 hr5 hB7 hs7
        replace hw7 := hidden hw7
        go_upto_region 13 with fail
        rw [hw7.out]
        clear hw7
        generalize w6.heap.size = sb at *
        refine sz13 w7 fb hb xb rb sb B _ _ i n ba bc ys FI CI (blk (n : Int)) (ofBytes ys) hnb (hidden (by omega)) hR7 (hidden hys) (hidden rfl) (hidden rfl) (hidden (by have := hf.out; omega)) hlow hS7 _ _ _ _ _ _ _ _ _ _ _ _ _ _ _ _ _ _ _ _ _ _ _ _ _ _ _ _ _ _ _ _ _ _ _ _ _ _ _ _ _ _ _ _ _ _ _ _ _ _ _ _ _ _ _ _ _ _ _ _ _ _ _ _ _ _ _ _ _ _ _ _ _ _ _ _ _ _ _ _ _ _ _ _ _ _ _ _ _ _ _ _ _ _ _ _ _ _ _ _ _ _ _ _ _ _ _ _ _ _ _ (hidden ?kk13) (hidden ?qp13)
        case qp13 => exact fun _ a a' _ h e => by cases a; cases a'; cases e; exact h
        case kk13 =>
          intro v65 v66 v67 v68 v69 v70 v71 v72 v73 v74 v75 v76 v77 v78 v79 v80 v81 v82 v83 v84 v85 v86 v87 v88 v89 v90 v91 v92 v93 v94 v95 v96 v97 v98 v99 v100 v101 v102 v103 v104 v105 v106 w8 hR8
          replace hR8 := hidden hR8
          clear hR7 hS7
          dsimp only
          go_wp2
          go_roundg (13 - (i + 1))
          case measure => rw [hgk.out]; omega
          case rel => exact ⟨i + 1, E.rest.rest.rest.rest.rest, some ys, by omega, rfl, by go_num, hidden hw'.out, hidden (by have e : 6000 + 5000 * (i + 1) = 6000 + 5000 * i + 1000 + 1000 + 1000 + 1000 + 1000 := (by omega); rw [e]; exact hR8.out)⟩
    · have hGT' : Hid (GT E.w0) := hidden (by rw [hw'.out]; exact hGT.out)
      by_cases hl0 : i < L
      · have hl1 : (i : Int) < (L : Int) := by omega
        have hl2 : ¬ (i : Int) < 12 := by omega
        replace hlt := hidden hlt
        go_upto_region 15 with fail
        refine sz15 wr fb hb xb E (6000 + 5000 * i) o hGT' hI _ _ _ _ _ _ _ _ _ _ _ _ _ _ _ _ _ _ _ _ _ _ _ _ _ _ _ _ _ _ _ _ _ _ _ _ _ _ _ _ _ _ _ _ _ _ _ _ _ _ _ _ _ _ _ _ _ _ _ _ _ _ _ _ _ _ _ _ _ _ _ _ _ _ _ _ _ _ _ _ _ _ _ _ _ _ _ _ _ _ _ _ _ _ _ _ _ _ _ _ _ _ _ _ _ _ _ _ _ _ _ _ _ _ _ _ _ _ _ (hidden ?kk15) (hidden ?qp15)
        case qp15 => exact fun _ a a' _ h e => by cases a; cases a'; cases e; exact h
        case kk15 =>
          intro v108 v109 v110 v111 v112 v113 v114 v115 v116 v117 w8 hB8
          rw [hw'.out] at hB8
          replace hB8 := hidden hB8
          dsimp only
          go_wp2
          go_ret
          exact ⟨rfl, hB8.out⟩
      · have hl1 : ¬ (i : Int) < (L : Int) := by omega
        replace hlt := hidden hlt
        go_upto_region 15 with fail
        refine sz15 wr fb hb xb E (6000 + 5000 * i) o hGT' hI _ _ _ _ _ _ _ _ _ _ _ _ _ _ _ _ _ _ _ _ _ _ _ _ _ _ _ _ _ _ _ _ _ _ _ _ _ _ _ _ _ _ _ _ _ _ _ _ _ _ _ _ _ _ _ _ _ _ _ _ _ _ _ _ _ _ _ _ _ _ _ _ _ _ _ _ _ _ _ _ _ _ _ _ _ _ _ _ _ _ _ _ _ _ _ _ _ _ _ _ _ _ _ _ _ _ _ _ _ _ _ _ _ _ _ _ _ _ _ (hidden ?kk15) (hidden ?qp15)
        case qp15 => exact fun _ a a' _ h e => by cases a; cases a'; cases e; exact h
        case kk15 =>
          intro v108 v109 v110 v111 v112 v113 v114 v115 v116 v117 w8 hB8
          rw [hw'.out] at hB8
          replace hB8 := hidden hB8
          dsimp only
          go_wp2
          go_ret
          exact ⟨rfl, hB8.out⟩
end Go.Proofs.YtbgldfbbfnbldaaGreatDoor
