/- Layer 10's own listing. -/
import Derived.Test.YtdkpffpjbpfdnaaGreatDoorDx2z
import Derived.BigQuiet
namespace Go.Proofs.YtdkpffpjbpfdnaaGreatDoor
open Go.RowKit Go.Extern.Stop Go.Stop Go.Extern Go.Maps Go.Sort Go.Shelf
set_option maxRecDepth 100000

theorem bdN (B : Nat) (w : World) (n : Nat) : Below B w (w.drewN n) := ⟨rfl, rfl, rfl, Nat.le_refl _, fun _ _ => rfl⟩
set_option maxHeartbeats 4000000 in
theorem listed_calls {w : World} {v : Value} {L : List Rec} (h : RecsAt w v L) (hl : L.length ≤ 125) :
    Calls Tryz.prog 35 #[v] w fun e w' => ∃ u, e = .returned u ∧ KeptT w.heap.size w' u (sortS (L.map Rec.s)) ∧ Below w.heap.size w w' := by
  obtain ⟨a, cap, rfl, hcs⟩ := h
  replace hcs := hidden hcs
  go_enter Tryz.func35, Tryz.ntmps35
  go_wp2_with fail
  go_loopg [3, 4] (L.length + 1) (fun gk l q wr => ∃ i : Nat, i ≤ L.length ∧ gk = L.length + 1 - i ∧ q = .int .i64 i ∧ Hid (KeptT w.heap.size wr l (listS ((L.map Rec.s).take i)) ∧ Below w.heap.size w wr))
  case atStart => exact ⟨0, by omega, rfl, rfl, hidden ⟨KeptT.nil _ _, Below.refl _ _⟩⟩
  case round =>
    obtain ⟨i, hi, hgk, rfl, hI⟩ := hrel
    replace hgk := hidden hgk
    obtain ⟨i1, i2⟩ := hI.out
    clear hI
    by_cases hlt : i < L.length
    · obtain ⟨rb, off, rfl, hrb, hcell⟩ := hcs.out (by rintro rfl; simp at hlt)
      obtain ⟨r, hr⟩ : ∃ r, L[i]? = some r := ⟨_, List.getElem?_eq_getElem hlt⟩
      obtain ⟨c0, -⟩ := hcell i r hr
      replace c0 := (i2.cell (p := ⟨rb, off + i * 2, none⟩) hrb).trans c0
      have hstep : listS ((L.map Rec.s).take (i + 1)) = insS r.s (listS ((L.map Rec.s).take i)) := by
        rw [List.take_add_one, List.getElem?_map, hr]
        exact listS_snoc _ _
      have hlk : (listS ((L.map Rec.s).take i)).length = i := by rw [listS_len, List.length_take, List.length_map]; omega
      obtain ⟨ks, hks⟩ : ∃ ks, listS ((L.map Rec.s).take i) = ks := ⟨_, rfl⟩
      rw [hks] at hstep hlk i1
      obtain ⟨na, nc, hv⟩ := i1.form
      subst hv
      have hT := hidden i1.at
      have hV := hidden i1
      have hiL : (i : Int) < (L.length : Int) := by omega
      replace hstep := hidden hstep
      replace hks := hidden hks
      have hb2 := hidden i2
      have hsz := i2.size
      clear i1 i2 hcell hr
      obtain ⟨LK, hLK⟩ : ∃ LK, ks.length = LK := ⟨_, rfl⟩
      rw [hLK] at hlk
      have hLKb : LK ≤ 125 := by omega
      replace hlk := hidden hlk
      rw [hLK]
      go_upto_block 2 with fail
      go_cut [5] (fun q wx => ∃ k : Nat, q = .int .i64 k ∧ k ≤ ks.length ∧ Hid (insS r.s ks = ks.take k ++ r.s :: ks.drop k) ∧ Below wr.heap.size wr wx)
      case first =>
        go_wp2_with fail
        go_loopg [5] (LK + 1) (fun gk q wx => ∃ k : Nat, k ≤ LK ∧ gk = LK + 1 - k ∧ q = .int .i64 k ∧ Hid ((∀ j y, j < k → ks[j]? = some y → y < r.s) ∧ Below wr.heap.size wr wx))
        case atStart => exact ⟨0, by omega, rfl, rfl, hidden ⟨fun j y hj => by omega, Below.refl _ _⟩⟩
        case round =>
          obtain ⟨k, hk, hgk2, rfl, hJ⟩ := hrel
          replace hgk2 := hidden hgk2
          rename World => wx
          by_cases hkl : k < LK
          · obtain ⟨y, hy⟩ : ∃ y, ks[k]? = some y := ⟨_, List.getElem?_eq_getElem (by omega)⟩
            obtain ⟨ta, tc, te, -, hf⟩ := hT.out
            obtain ⟨rfl, -, -⟩ := Value.slice.inj te
            obtain ⟨tb, toff, rfl, htb, htc⟩ := hf (by rintro rfl; simp at hy)
            have d0 := (hJ.out.2.cell (p := ⟨tb, toff + k, none⟩) htb).trans (htc k y hy)
            have d1 := (hJ.out.2.cell (p := ⟨rb, off + i * 2, none⟩) (lt_of_cell c0)).trans c0
            have hq : Op.bytesLess (mkB y).toList (mkB r.s).toList = decide (y < r.s) := by rw [mk_toList, mk_toList, bytesLess_eq]
            have hkl2 : (k : Int) < (LK : Int) := by omega
            clear te hf htc
            by_cases hyx : y < r.s
            · rw [decide_eq_true hyx] at hq
              have hE := hidden (And.intro hyx hJ.out)
              clear hyx hJ
              replace hy := hidden hy
              go_upto_region 6 with fail
              go_quiet (fail)
              go_wp2
              go_roundg (LK + 1 - (k + 1))
              case measure => rw [hgk2.out]; omega
              case rel =>
                refine ⟨k + 1, by omega, rfl, by go_num, hidden ⟨fun j z hj hz => ?_, hE.out.2.2.trans (bdN _ wx _)⟩⟩
                by_cases e1 : j = k
                · subst e1; rw [hy.out] at hz; cases hz; exact hE.out.1
                · exact hE.out.2.1 j z (by omega) hz
            · rw [decide_eq_false hyx] at hq
              have hE := hidden (And.intro hyx hJ.out)
              clear hyx hJ
              replace hy := hidden hy
              go_upto_region 6 with fail
              go_quiet (fail)
              go_wp2
              go_meet
              case rel =>
                refine ⟨k, rfl, by omega, hidden (ins_at r.s ks k (by omega) hE.out.2.1 (fun z hz => ?_)), hE.out.2.2.trans (bdN _ wx _)⟩
                rw [hy.out] at hz; cases hz; exact hE.out.1
          · obtain rfl : k = LK := by omega
            have hkd : decide ((k : Int) < (k : Int)) = false := by simp
            go_upto_region 6 with fail
            go_quiet (fail)
            go_wp2
            go_meet
            case rel => exact ⟨k, rfl, by omega, hidden (ins_at r.s ks k (by omega) hJ.out.1 (fun z hz => by rw [List.getElem?_eq_none (by omega)] at hz; cases hz)), hJ.out.2.trans (bdN _ wx _)⟩
      case rest =>
        rename World => wx
        obtain ⟨k, rfl, hk, hins, hBx⟩ := hcut
        have hV2 := hidden (hV.out.below hBx)
        have hc2 := hidden ((hBx.cell (p := ⟨rb, off + i * 2, none⟩) (lt_of_cell c0)).trans c0)
        have hb3 := hidden (hb2.out.trans (hBx.mono hsz))
        clear hBx hV hb2
        go_upto_region 8 with fail
        subst hLK
        refine wp_last (ls_insert rb off L.length cap i k r.s na nc w.heap.size ks wx hV2 (by omega) hk hb3.out.size hiL hc2 _ _ _ _ _ _ _ _ _ _ _ _ _ _ _ _ _ _ _ _ _ _ _ _ _ _ _ _ _ _ _ _ _ _ _ _ _ _ _ _ _ _ _ _ _ (hidden ?kk) (hidden ?qp))
        case qp =>
          intro _ a a' _ h e
          cases a
          cases a'
          cases e
          exact h
        case kk =>
          intro v30 v31 v32 v33 v34 v35 v36 v37 v38 v39 v40 v41 v42 v43 v44 v45 v' w6 hE6
          rw [← hins.out, ← hstep.out] at hE6
          have hE := hidden (And.intro hE6.1 (hb3.out.trans (hE6.2.mono hb3.out.size)))
          clear hE6
          dsimp only
          go_wp2
          go_roundg (L.length + 1 - (i + 1))
          case measure => rw [hgk.out]; omega
          case rel => exact ⟨i + 1, hlt, rfl, by go_num, hidden hE.out⟩
    · obtain rfl : i = L.length := by omega
      rw [List.take_of_length_le (by rw [List.length_map]; omega), listS_sort] at i1
      have hE := hidden (And.intro i1 i2)
      clear i1 i2
      go_wp2
      go_ret
      exact ⟨_, rfl, hE.out⟩
end Go.Proofs.YtdkpffpjbpfdnaaGreatDoor
