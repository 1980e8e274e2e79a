/- DirRaw answers true, whatever it is given, and changes nothing that was there. -/
import Derived.Test.YtdkpffpjbpfdnaaGreatDoorDx6z
import Derived.Test.YtdkpffpjbpfdnaaGreatDoorDx7z
import Derived.Test.YtdkpffpjbpfdnaaGreatDoorDx8z
import Derived.Deep.CutBlock
namespace Go.Proofs.YtdkpffpjbpfdnaaGreatDoor
open Go.RowKit Go.Extern.Stop Go.Stop Go.Extern Go.Maps Go.Sort Go.Shelf
set_option maxRecDepth 1000000

theorem DB.overT {E : TE} {db : Nat} {b : List Int} {w w' : World} (h : DB E db b w) {B : Nat} (hB : E.Ahead B) (hd : db < B) (hb : Below B w w') : DB E db b w' := h.over hB hd hb
set_option maxHeartbeats 16000000 in
theorem dirRaw_calls (vn vi : Value) (ns : List (List UInt8)) (zs : List Int) (zat zby zcut : Int) (w : World) (hn : TxtsAt w vn ns) (hz : IntsIn w vi zs) (hnl : ns.length ≤ maxLen) (hG : Ground w) (hGT : GT w) :
    Calls Tryz.prog 5 #[vn, vi, .int .i64 zat, .int .u8 zby, .int .i64 zcut] w fun e w' => e = .returned (.bool true) ∧ Below w.heap.size w w' := by
  have kA := hidden (fun (wx : World) (hx : Below w.heap.size w wx) => awake10_calls wx (hG.below hx))
  have kGT := hidden (fun (wx : World) (hx : Below w.heap.size w wx) => hGT.below hx)
  have kM := hidden (made10_calls w hG)
  have hN := hidden hn
  have hZ := hidden hz
  obtain ⟨na, nc, rfl, -, -⟩ := hn
  obtain ⟨ia, ic, rfl, hzl, -⟩ := hz
  have hnl2 : (ns.length : Int) ≤ 9223372036854775807 := by unfold maxLen at hnl; omega
  have hzl2 : (zs.length : Int) ≤ 9223372036854775807 := by unfold maxLen at hzl; omega
  clear hG hGT hnl hzl
  go_enter Tryz.func5, Tryz.ntmps5
  go_wp2_with fail
  refine (kM.out).mono ?_
  rintro ev w1 ⟨jb, cb, mb, ab, tb, db, rfl, ok, -, h1, hdb, hB1⟩
  dsimp only
  have hw0 : (te10 w jb cb mb ab tb).w0 = w := rfl
  have htb : (te10 w jb cb mb ab tb).tb = tb := rfl
  generalize te10 w jb cb mb ab tb = E at ok h1 hw0 htb
  subst htb
  have hah := hidden h1.b.ahead
  have hdl : db < w1.heap.size := h1.b.lt
  replace hw0 := hidden hw0
  replace ok := hidden ok
  replace h1 := hidden h1
  have hs1 := hB1.size
  replace hB1 := hidden hB1
  clear kM
  go_upto_block 0 with fail
  go_cut [13] (fun l wx => ∃ L : List Rec, RecOwn 64 w1.heap.size wx l L ∧ GoodL L ∧ L.length ≤ 20 ∧ (∀ r ∈ L, r.id ≤ 128) ∧ Below w1.heap.size w1 wx)
  case first =>
    go_wp2_with fail
    go_loopg [13, 14] 21 (fun gk l q wr => ∃ (i : Nat) (L : List Rec), i ≤ 20 ∧ gk = 21 - i ∧ q = .int .i64 i ∧ Hid (RecOwn 64 w1.heap.size wr l L ∧ GoodL L ∧ L.length ≤ i ∧ (∀ r ∈ L, r.id ≤ 128) ∧ Below w1.heap.size w1 wr))
    case atStart => exact ⟨0, [], by omega, rfl, rfl, hidden ⟨RecOwn.nil _ _ _, ⟨fun r hr => (by cases hr), List.nodup_nil⟩, by simp, fun r hr => (by cases hr), Below.refl _ _⟩⟩
    case round =>
      obtain ⟨i, L, hi, hgk, rfl, hI⟩ := hrel
      replace hgk := hidden hgk
      by_cases c1 : i < ns.length
      rotate_left
      · have c1' : ¬ (i : Int) < (ns.length : Int) := by omega
        go_wp2
        go_meet
        case rel => exact ⟨L, hI.out.1, hI.out.2.1, by have := hI.out.2.2.1; omega, hI.out.2.2.2.1, hI.out.2.2.2.2⟩
      have c1' : (i : Int) < (ns.length : Int) := by omega
      by_cases c2 : i < zs.length
      rotate_left
      · have c2' : ¬ (i : Int) < (zs.length : Int) := by omega
        go_wp2
        go_meet
        case rel => exact ⟨L, hI.out.1, hI.out.2.1, by have := hI.out.2.2.1; omega, hI.out.2.2.2.1, hI.out.2.2.2.2⟩
      have c2' : (i : Int) < (zs.length : Int) := by omega
      by_cases c3 : i < 20
      rotate_left
      · have c3' : ¬ (i : Int) < 20 := by omega
        go_wp2
        go_meet
        case rel => exact ⟨L, hI.out.1, hI.out.2.1, by have := hI.out.2.2.1; omega, hI.out.2.2.2.1, hI.out.2.2.2.2⟩
      have c3' : (i : Int) < 20 := by omega
      obtain ⟨s, hs⟩ : ∃ s, ns[i]? = some s := ⟨_, List.getElem?_eq_getElem c1⟩
      obtain ⟨na', nc', ne, -, hnf⟩ := hN.out
      obtain ⟨rfl, -, rfl⟩ := Value.slice.inj ne
      obtain ⟨nb, noff, rfl, hnb, hncell⟩ := hnf (by rintro rfl; simp at c1)
      obtain ⟨ia', ic', ie, -, hif⟩ := hZ.out
      obtain ⟨rfl, -, rfl⟩ := Value.slice.inj ie
      obtain ⟨ib, ioff, rfl, hib, hicell⟩ := hif (by rintro rfl; simp at c2)
      have hb0 : Below w.heap.size w wr := hB1.out.trans (hI.out.2.2.2.2.mono hs1)
      have d0 := (hb0.cell (p := ⟨nb, noff + i, none⟩) hnb).trans (hncell i s hs)
      have d1 := (hb0.cell (p := ⟨ib, ioff + i, none⟩) hib).trans (hicell i c2)
      have kO := nameOk_calls (mkB s) wr
      rw [mk_list] at kO
      obtain ⟨la, lc, hlv⟩ := hI.out.1.form
      subst hlv
      have hsz := hI.out.2.2.2.2.size
      generalize zs.getD i 0 = zi at d1
      clear ne hnf ie hif hncell hicell hs hb0
      by_cases hok : okB s = true
      rotate_left
      · replace hok : okB s = false := by simpa using hok
        rw [hok] at kO
        replace kO := hidden kO
        go_wp2_with fail
        refine (kO.out).mono ?_
        rintro ev w3 ⟨rfl, hw3⟩
        subst w3
        dsimp only
        go_wp2
        go_roundg (21 - (i + 1))
        case measure => rw [hgk.out]; omega
        case rel => exact ⟨i + 1, L, by omega, rfl, by go_num, hidden ⟨hI.out.1, hI.out.2.1, by have := hI.out.2.2.1; omega, hI.out.2.2.2.1, hI.out.2.2.2.2⟩⟩
      rw [hok] at kO
      replace kO := hidden kO
      have kF := hidden (lfind_calls hI.out.1.at (by have := hI.out.2.2.1; omega) s)
      go_wp2_with fail
      refine (kO.out).mono ?_
      rintro ev w3 ⟨rfl, hw3⟩
      subst w3
      dsimp only
      go_wp2_with fail
      refine (kF.out).mono ?_
      rintro ev w3 ⟨x, rfl, hPl, hw3⟩
      subst w3
      dsimp only
      clear kO kF
      rcases hPl with ⟨k, r, rfl, hr, hrs⟩ | ⟨rfl, hno⟩
      · have hk0 : ¬ (k : Int) < 0 := by omega
        go_wp2
        go_roundg (21 - (i + 1))
        case measure => rw [hgk.out]; omega
        case rel => exact ⟨i + 1, L, by omega, rfl, by go_num, hidden ⟨hI.out.1, hI.out.2.1, by have := hI.out.2.2.1; omega, hI.out.2.2.2.1, hI.out.2.2.2.2⟩⟩
      · obtain ⟨m, hm, hm2⟩ : ∃ m : Nat, bits .and .i64 zi 127 = (m : Int) ∧ m ≤ 127 := by
          have h : 0 ≤ bits .and .i64 zi 127 ∧ bits .and .i64 zi 127 ≤ 127 := and_low zi 127 (by decide)
          exact ⟨(bits .and .i64 zi 127).toNat, by have := h.1; omega, by have := h.2; omega⟩
        replace hno := hidden hno
        replace hok := hidden hok
        go_upto_region 9 with fail
        refine wp_last (dw_push nb noff ns.length nc ib ioff zs.length ic i m w1.heap.size s zi la lc L wr (hidden hI.out.1) (by have := hI.out.2.2.1; omega) (by omega) (by omega) (hidden d0) (hidden d1) c1' c2' hm hm2 hsz _ _ _ _ _ _ _ _ _ _ _ _ _ _ _ _ _ _ _ _ _ _ _ _ _ _ _ _ _ _ _ _ _ _ _ _ _ _ _ _ _ _ _ _ _ _ _ _ _ _ _ _ _ _ _ _ _ _ _ _ _ _ _ _ _ _ _ _ _ _ _ _ _ _ _ _ _ _ _ _ _ _ _ _ _ _ _ _ _ _ _ _ _ _ _ _ _ _ _ _ _ _ _ _ _ _ _ _ _ _ _ _ _ _ _ _ _ _ _ _ _ _ _ _ _ _ _ _ _ _ _ _ _ _ _ _ _ _ _ _ _ _ _ _ _ _ _ _ _ _ _ _ _ _ _ _ _ _ _ _ _ _ _ _ _ _ _ _ _ _ _ _ _ _ _ _ _ _ _ _ _ _ _ _ _ _ _ _ _ _ _ (hidden ?kkpush) (hidden ?qppush))
        case qppush =>
          intro _ a a' _ h e
          cases a
          cases a'
          cases e
          exact h
        case kkpush =>
          intro v58 v59 v60 v61 v62 v63 v64 v65 v66 v67 v68 v69 v70 v71 v' w6 hE6
          have hE := hidden (show RecOwn 64 w1.heap.size w6 v' (L ++ [⟨s, m + 1⟩]) ∧ GoodL (L ++ [⟨s, m + 1⟩]) ∧ (L ++ [(⟨s, m + 1⟩ : Rec)]).length ≤ i + 1 ∧ (∀ r ∈ L ++ [(⟨s, m + 1⟩ : Rec)], r.id ≤ 128) ∧ Below w1.heap.size w1 w6 from
            ⟨hE6.1, hI.out.2.1.put ⟨hok.out, by show 1 ≤ m + 1; omega, by show m + 1 < _; omega⟩ hno.out, by have := hI.out.2.2.1; simp; omega, fun r hr => by
              rcases List.mem_append.1 hr with hr | hr
              · exact hI.out.2.2.2.1 r hr
              · obtain rfl := List.mem_singleton.1 hr
                show m + 1 ≤ 128
                omega, hI.out.2.2.2.2.trans hE6.2⟩)
          clear hE6 d0 d1
          dsimp only
          go_wp2
          go_roundg (21 - (i + 1))
          case measure => rw [hgk.out]; omega
          case rel => exact ⟨i + 1, _, by omega, rfl, by go_num, hidden hE.out⟩
  case rest =>
    rename World => w2
    obtain ⟨L, hO, hgl, hL, hid, hB2⟩ := hcut
    obtain ⟨la, lc, rfl⟩ := hO.form
    have hb2 : Below w.heap.size w w2 := hB1.out.trans (hB2.mono hs1)
    have hD2 := h1.out.b.over hah.out hdl hB2
    have hdl2 : db < w2.heap.size := Nat.lt_of_lt_of_le hdl hB2.size
    by_cases hL0 : L.length = 0
    · rw [hL0]
      have kA2 := hidden (kA.out w2 hb2)
      replace hb2 := hidden hb2
      clear hO hB2 hD2
      go_wp2_with fail
      refine (kA2.out).mono ?_
      rintro ev w3 ⟨rfl, hB3⟩
      dsimp only
      have hE := hidden (hb2.out.trans (hB3.mono hb2.out.size))
      clear hB3
      go_wp2
      go_ret
      exact ⟨rfl, hE.out⟩
    · have kB := hidden (lbytes_calls hO.at (by omega) (fun r hr => ⟨(hgl.each r hr).len, by have := hid r hr; omega⟩))
      have hL0' : ¬ (L.length : Int) = 0 := by omega
      have hrl := recsL_len hgl.each
      have hrr := recsL_range hgl.each
      replace hO := hidden hO
      replace hb2 := hidden hb2
      replace hD2 := hidden hD2
      replace hrr := hidden hrr
      have hs2 := hB2.size
      clear hB2
      obtain ⟨LB, hLB⟩ : ∃ LB, (recsL L).length = LB := ⟨_, rfl⟩
      rw [hLB] at hrl
      have hmb : E.mb < w2.heap.size := by have := hD2.out.ahead; exact this.2.2.2.2.1
      obtain ⟨TXT, hTXT⟩ : ∃ TXT, ofBytes (recsL L) = TXT := ⟨_, rfl⟩
      rw [hTXT] at kB
      have kC := hidden (fun (wx : World) (hx : E.mb < wx.heap.size) => bytes_ofF E.mb wx (recsL L) hrr.out (by omega) hx)
      rw [hLB, hTXT] at kC
      replace hTXT := hidden hTXT
      have hLB1 : 32 ≤ LB := by omega
      have hLB2 : LB ≤ 640 := by omega
      replace hrl := hidden hrl
      go_wp2_with fail
      refine (kB.out).mono ?_
      rintro ev w3 ⟨rfl, hB3⟩
      dsimp only
      obtain ⟨bcap, w4, hcv, hbc, hfz, hB4⟩ := kC.out w3 (Nat.lt_of_lt_of_le hmb hB3.size)
      have hb24 : Below w2.heap.size w2 w4 := hB3.trans (hB4.mono hB3.size)
      have hD4 := hD2.out.more hb24
      have hah4 := hidden (hD2.out.ahead.mono hB3.size)
      have hdb4 : db < w3.heap.size := Nat.lt_of_lt_of_le hdl2 hB3.size
      have hw3 : w2.heap.size ≤ w3.heap.size := hB3.size
      have hw4 : w3.heap.size < w4.heap.size := (hbc.lt0 (by rw [hLB]; omega))
      have kW := DB.write hD4 ok.out (at_ := 0) hbc (by rw [hLB]; omega) (by rw [hLB]; omega) (S2 := LB) (by show max ([] : List Int).length _ = _; simp; omega)
      have e0 : putD (recsL []) (recsL L) 0 LB = recsL L := by
        have := putD_end [] (recsL L)
        rw [hLB] at this
        show putD [] (recsL L) 0 LB = recsL L
        simpa using this
      rw [e0] at kW
      replace kW := hidden kW
      have hbc4 := hidden (And.intro hbc hfz)
      generalize hbb : w3.heap.size = bb at *
      clear hbc hfz hD4 hB3 hB4 kB kC e0 hbb
      replace hb24 := hidden hb24
      go_wp2_with fail
      refine (kW.out).mono ?_
      rintro ev w5 ⟨rfl, hD5, hA5⟩
      dsimp only
      have kL := hidden (dList_calls hD5 ok.out (parse_recs hgl) (by omega))
      have hO5 := hidden ((hO.out.below hb24.out).keep hA5 (by simp; have := hah.out; exact this.2.2.2.2.1))
      have hbc5 := hidden (And.intro (hbc4.out.1.keep hA5) (fun (j : Nat) (hj : j < LB) => (hA5.frozen (p := ⟨bb, j, none⟩) hw4 (by simp; omega)).trans (hbc4.out.2 j hj)))
      have hb5 : Below w.heap.size w w5 := by have := hD5.below; rw [hw0.out] at this; exact this
      have hw5 : w4.heap.size ≤ w5.heap.size := hA5.size
      replace hD5 := hidden hD5
      clear kW hcv hbc4 hA5
      go_wp2_with fail
      refine (kL.out).mono ?_
      rintro ev w6 ⟨xv, rfl, hX, hB6⟩
      dsimp only
      have hXl : (sortS (L.map Rec.s)).length = L.length := by rw [sortS_len, List.length_map]
      obtain ⟨xa, xc, hxv⟩ := hX.form
      rw [hXl] at hxv
      subst hxv
      have kS := hidden (listed_calls (hO5.out.below hB6).at (by omega))
      have hE6 := hidden (And.intro hX hB6)
      clear kL hX hB6
      go_wp2_with fail
      refine (kS.out).mono ?_
      rintro ev w7 ⟨uv, rfl, hU, hB7⟩
      dsimp only
      have kT := sameT_calls _ _ _ _ w7 (hE6.out.1.below hB7).at hU.at (by omega) (by omega)
      obtain ⟨ua, uc, huv⟩ := hU.form
      rw [hXl] at huv
      subst huv
      rw [decide_eq_true rfl] at kT
      replace kT := hidden kT
      clear hXl
      have hb7 : Below w5.heap.size w5 w7 := hE6.out.2.trans (hB7.mono hE6.out.2.size)
      replace hb7 := hidden hb7
      clear kS hU hB7 hE6
      go_wp2_with fail
      refine (kT.out).mono ?_
      rintro ev w8 ⟨rfl, hB8⟩
      dsimp only
      have hb8 : Below w5.heap.size w5 w8 := hb7.out.trans (hB8.mono hb7.out.size)
      have hbc8 := hidden (And.intro (hbc5.out.1.keep (Apart.of_below hb8)) (fun (j : Nat) (hj : j < LB) => ((Apart.of_below (bs := []) hb8).frozen (p := ⟨bb, j, none⟩) (show bb < w5.heap.size by omega) (by simp)).trans (hbc5.out.2 j hj)))
      have hD8 := hidden (hD5.out.more hb8)
      have hb08 := hidden (hb5.trans (hb8.mono hb5.size))
      have hw8 : w5.heap.size ≤ w8.heap.size := hb8.size
      clear kT hB8 hb8 hb7 hbc5 hD5 hO5
      obtain ⟨j, hj, hjL⟩ : ∃ j : Nat, (bits .and .i64 zat 65535).tmod (LB : Int) = (j : Int) ∧ j < LB := by
        have h : 0 ≤ bits .and .i64 zat 65535 ∧ bits .and .i64 zat 65535 ≤ 65535 := and_low zat 65535 (by decide)
        have h0 := Int.tmod_nonneg (LB : Int) h.1
        have h1 := Int.tmod_lt_of_pos (bits .and .i64 zat 65535) (b := (LB : Int)) (by omega)
        exact ⟨((bits .and .i64 zat 65535).tmod (LB : Int)).toNat, by omega, by omega⟩
      have cj := hbc8.out.1.cell0 (j := j) (by rw [hLB]; exact hjL)
      have fj := hbc8.out.2 j hjL
      generalize (recsL L).getD j 0 = zj at cj
      obtain ⟨y, hy, hy1⟩ := xor_byte zj zby
      obtain ⟨n, hn, hnL⟩ : ∃ n : Nat, (bits .and .i64 zcut 65535).tmod ((LB : Int) + 1) = (n : Int) ∧ n ≤ LB := by
        have h : 0 ≤ bits .and .i64 zcut 65535 ∧ bits .and .i64 zcut 65535 ≤ 65535 := and_low zcut 65535 (by decide)
        have h0 := Int.tmod_nonneg ((LB : Int) + 1) h.1
        have h1 := Int.tmod_lt_of_pos (bits .and .i64 zcut 65535) (b := (LB : Int) + 1) (by omega)
        exact ⟨((bits .and .i64 zcut 65535).tmod ((LB : Int) + 1)).toNat, by omega, by omega⟩
      have hj9 : (j : Int) < (LB : Int) := by omega
      have hLBp : ¬ (LB : Int) = 0 := by omega
      have hLBq : ¬ (LB : Int) + 1 = 0 := by omega
      obtain ⟨zs', hzs'⟩ : ∃ zs', (recsL L).set j y = zs' := ⟨_, rfl⟩
      have hbc9 := hbc8.out.1.set (j := j) (by rw [hLB]; exact hjL) hy1
      rw [hzs'] at hbc9
      have hzl : zs'.length = LB := by rw [← hzs', List.length_set, hLB]
      have hb9 : Below bb w8 (w8.setCell ⟨bb, j, none⟩ (.int .u8 y)) := (Below.refl bb w8).setCell (p := ⟨bb, j, none⟩) (Nat.le_refl _) _
      have hD9 := hD8.out.over hah4.out hdb4 hb9
      have kW2 := DB.write hD9 ok.out (at_ := 0) hbc9 (by omega) (by omega) (S2 := LB) (by rw [hLB, hzl]; omega)
      have e1 : putD (recsL L) zs' 0 LB = zs' := by
        have := putD_over (recsL L) zs' 0 (by omega)
        rw [hLB, hzl, List.drop_of_length_le (by omega)] at this
        simpa using this
      rw [e1] at kW2
      replace kW2 := hidden kW2
      have hzr := hidden hbc9.range
      have hbel9 := hidden (hb08.out.trans (hb9.mono (Nat.le_trans hs1 (Nat.le_trans hs2 hw3))))
      replace hj := hidden hj
      generalize hw9 : w8.setCell ⟨bb, j, none⟩ (.int .u8 y) = w9 at *
      clear hbc9 hbc8 hb9 hD9 e1 hzs'
      replace hj := hj.out
      go_wp2_with fail
      refine (kW2.out).mono ?_
      rintro ev w10 ⟨rfl, hD10, hA10⟩
      dsimp only
      have kCt := DB.cut hD10 ok.out (S2 := n) (by omega)
      rw [cutL_less zs' n (by omega)] at kCt
      replace kCt := hidden kCt
      clear kW2 hA10 hD10 cj fj hy
      go_wp2_with fail
      refine (kCt.out).mono ?_
      rintro ev w11 ⟨rfl, hD11, hA11⟩
      dsimp only
      have hb11 : Below w.heap.size w w11 := by have := hD11.below; rw [hw0.out] at this; exact this
      have hbr : ∀ z ∈ zs'.take n, 0 ≤ z ∧ z ≤ 255 := fun z hz => hzr.out z (List.mem_of_mem_take hz)
      have hbl : (zs'.take n).length = n := by rw [List.length_take]; omega
      obtain ⟨bs, hbs⟩ : ∃ bs, zs'.take n = bs := ⟨_, rfl⟩
      rw [hbs] at hD11 hbr hbl
      clear kCt hA11 hbel9 hzr hbs
      cases hp : parseB bs with
      | none =>
        have kL2 := hidden (dList_form hD11 ok.out hp)
        replace hb11 := hidden hb11
        clear hD11
        go_wp2_with fail
        refine (kL2.out).mono ?_
        rintro ev w12 ⟨bk, rfl, hc, hB12⟩
        dsimp only
        have hb12 : Below w.heap.size w w12 := hb11.out.trans (hB12.mono hb11.out.size)
        have kI := hidden (law_is 3 rfl w12 sDir ⟨#[]⟩ [] (flt bk) hc (kGT.out _ hb12))
        replace hb12 := hidden hb12
        clear kL2 hc hB12
        go_wp2_with fail
        refine (kI.out).mono ?_
        rintro ev w13 ⟨rfl, hB13⟩
        dsimp only
        have hb13 := hb12.out.trans (hB13.mono hb12.out.size)
        have kA3 := hidden (kA.out w13 hb13)
        replace hb13 := hidden hb13
        clear kI hB13
        go_wp2_with fail
        refine (kA3.out).mono ?_
        rintro ev w14 ⟨rfl, hB14⟩
        dsimp only
        have hE := hidden (hb13.out.trans (hB14.mono hb13.out.size))
        clear hB14
        go_wp2
        go_ret
        exact ⟨rfl, hE.out⟩
      | some M =>
        obtain ⟨hgM, hm32, hMl⟩ := parse_good hbr hp
        have hinv := parse_inv hbr hp
        rw [hbl] at hm32 hMl
        obtain ⟨ML, hML⟩ : ∃ ML, M.length = ML := ⟨_, rfl⟩
        rw [hML] at hMl
        have hMb : ML ≤ 20 := by omega
        have hDL : DL E db M w11 := ⟨by rw [hinv]; exact hD11, hgM⟩
        have kL2 := hidden (dList_calls hD11 ok.out hp (by omega))
        have hXl2 : (sortS (M.map Rec.s)).length = ML := by rw [sortS_len, List.length_map, hML]
        replace hMl := hidden hMl
        replace hm32 := hidden hm32
        replace hML := hidden hML
        replace hb11 := hidden hb11
        replace hDL := hidden hDL
        clear hD11 hinv hp hbr
        go_wp2_with fail
        refine (kL2.out).mono ?_
        rintro ev w12 ⟨xv, rfl, hX, hB12⟩
        dsimp only
        obtain ⟨xa2, xc2, hxv⟩ := hX.form
        rw [hXl2] at hxv
        subst hxv
        replace hXl2 := hidden hXl2
        have hb12 := hidden (hb11.out.trans (hB12.mono hb11.out.size))
        have hDL12 := hidden (hDL.out.more hB12)
        have hXt := hidden hX.at
        have hfr := hidden (fun (h0 : 0 < (sortS (M.map Rec.s)).length) => hX.first h0)
        clear kL2 hX hB12 hDL hb11
        go_wp2_with fail
        go_loopg [19] 21 (fun gk q wr => ∃ i : Nat, i ≤ ML ∧ gk = 21 - i ∧ q = .int .i64 i ∧ Hid (Below w12.heap.size w12 wr))
        case atStart => exact ⟨0, by omega, rfl, rfl, hidden (Below.refl _ _)⟩
        case round =>
          obtain ⟨i, hi, hgk, rfl, hI⟩ := hrel
          replace hgk := hidden hgk
          by_cases hlt : i < ML
          · obtain ⟨xb, rfl⟩ := hfr.out (by have := hXl2.out; omega)
            obtain ⟨x, hx⟩ : ∃ x, (sortS (M.map Rec.s))[i]? = some x := ⟨_, List.getElem?_eq_getElem (by have := hXl2.out; omega)⟩
            obtain ⟨a2, c2, e2, -, hcl⟩ := hXt.out
            obtain ⟨rfl, -, -⟩ := Value.slice.inj e2
            obtain ⟨b2, off2, e3, hb2', hcl2⟩ := hcl (by intro e; rw [e] at hx; simp at hx)
            obtain ⟨rfl, rfl, -⟩ := Addr.mk.inj (Option.some.inj e3)
            clear e2 e3
            have hxm : x ∈ M.map Rec.s := (sortS_perm _).mem_iff.1 (List.mem_of_getElem? hx)
            obtain ⟨r, hr, hrx⟩ := List.mem_map.1 hxm
            have hok : okB x = true := by rw [← hrx]; exact (hgM.each r hr).ok
            have dx := (hI.out.cell (p := ⟨xb, 0 + i, none⟩) hb2').trans (hcl2 i x hx)
            rw [Nat.zero_add] at dx
            have hiM : (i : Int) < (ML : Int) := by omega
            obtain ⟨ri, hri⟩ := List.getElem?_of_mem hr
            have kFd := hidden (fun (wx : World) (hwx : Below wr.heap.size wr wx) => show Calls Tryz.prog 31 #[ptr db, .string (mkB x)] wx _ from by rw [← hrx]; exact dFind_at (hDL12.out.more (hI.out.trans (hwx.mono hI.out.size))) ok.out hri)
            rcases Nat.eq_zero_or_pos i with hi0 | hi0
            · clear hcl hcl2
              replace hi0 := hidden hi0
              go_upto_region 28 with fail
              refine dw_first xb i ML xc2 x wr (hidden dx) hok hiM hi0.out _ _ _ _ _ _ _ _ _ _ _ _ _ _ _ _ _ _ _ _ _ _ _ _ _ _ _ _ _ _ _ _ _ _ _ _ _ _ _ _ _ _ _ _ _ _ _ _ _ _ _ _ _ _ _ _ _ _ _ _ _ _ _ _ _ _ _ _ _ _ _ _ _ _ _ _ _ _ _ _ _ _ _ _ _ _ _ _ _ _ _ _ _ _ _ _ _ _ _ _ _ _ _ _ _ _ _ _ _ _ _ _ _ _ _ _ _ _ _ _ _ _ _ _ _ _ _ _ _ _ _ _ _ _ _ _ _ _ _ _ _ _ _ _ _ _ _ _ _ _ _ _ _ _ _ _ _ _ _ _ _ _ _ _ _ _ _ _ _ _ _ _ _ _ _ _ _ _ _ _ _ _ _ _ _ _ _ _ _ _ _ _ _ (hidden ?kkfirst) (hidden ?qpfirst)
              case qpfirst =>
                intro _ a a' _ h e
                cases a
                cases a'
                cases e
                exact h
              case kkfirst =>
                intro v147 v148 v149 v150 v151 v152 v153 v154 v155 v156 v157 v158 v159 v160 v161 v162 v163 v164 v165 v166 v167 w6 hE6
                dsimp only
                have d6 := (hE6.cell (p := ⟨xb, i, none⟩) (lt_of_cell dx)).trans dx
                have kF6 := hidden (kFd.out w6 hE6)
                have hb6 := hidden (hI.out.trans (hE6.mono hI.out.size))
                clear hE6 dx kFd
                go_wp2_with fail
                refine (kF6.out).mono ?_
                rintro ev w7 ⟨rfl, hB7⟩
                dsimp only
                have hE := hidden (hb6.out.trans (hB7.mono hb6.out.size))
                clear hB7 kF6
                go_wp2
                go_roundg (21 - (i + 1))
                case measure => rw [hgk.out]; omega
                case rel => exact ⟨i + 1, hlt, rfl, by go_num, hidden hE.out⟩
            · obtain ⟨k, rfl⟩ : ∃ k, i = k + 1 := ⟨i - 1, by omega⟩
              obtain ⟨y2, hy2⟩ : ∃ y, (sortS (M.map Rec.s))[k]? = some y := ⟨_, List.getElem?_eq_getElem (by have := hXl2.out; omega)⟩
              have dy := (hI.out.cell (p := ⟨xb, 0 + k, none⟩) hb2').trans (hcl2 k y2 hy2)
              rw [Nat.zero_add] at dy
              have hyx := sortS_lt hgM.nodup hy2 hx
              clear hcl hcl2
              generalize hK : k + 1 = i at *
              have hki : i = k + 1 := hK.symm
              replace hK := hidden hK
              replace hki := hidden hki
              go_upto_region 28 with fail
              refine dw_next xb i ML xc2 x wr (hidden dx) hok hiM k y2 hki.out (hidden dy) hyx (by omega) _ _ _ _ _ _ _ _ _ _ _ _ _ _ _ _ _ _ _ _ _ _ _ _ _ _ _ _ _ _ _ _ _ _ _ _ _ _ _ _ _ _ _ _ _ _ _ _ _ _ _ _ _ _ _ _ _ _ _ _ _ _ _ _ _ _ _ _ _ _ _ _ _ _ _ _ _ _ _ _ _ _ _ _ _ _ _ _ _ _ _ _ _ _ _ _ _ _ _ _ _ _ _ _ _ _ _ _ _ _ _ _ _ _ _ _ _ _ _ _ _ _ _ _ _ _ _ _ _ _ _ _ _ _ _ _ _ _ _ _ _ _ _ _ _ _ _ _ _ _ _ _ _ _ _ _ _ _ _ _ _ _ _ _ _ _ _ _ _ _ _ _ _ _ _ _ _ _ _ _ _ _ _ _ _ _ _ _ _ _ _ _ _ (hidden ?kknext) (hidden ?qpnext)
              case qpnext =>
                intro _ a a' _ h e
                cases a
                cases a'
                cases e
                exact h
              case kknext =>
                intro v147 v148 v149 v150 v151 v152 v153 v154 v155 v156 v157 v158 v159 v160 v161 v162 v163 v164 v165 v166 v167 w6 hE6
                dsimp only
                have d6 := (hE6.cell (p := ⟨xb, i, none⟩) (lt_of_cell dx)).trans dx
                have kF6 := hidden (kFd.out w6 hE6)
                have hb6 := hidden (hI.out.trans (hE6.mono hI.out.size))
                clear hE6 dx kFd
                go_wp2_with fail
                refine (kF6.out).mono ?_
                rintro ev w7 ⟨rfl, hB7⟩
                dsimp only
                have hE := hidden (hb6.out.trans (hB7.mono hb6.out.size))
                clear hB7 kF6
                go_wp2
                go_roundg (21 - (i + 1))
                case measure => rw [hgk.out]; omega
                case rel => exact ⟨i + 1, hlt, rfl, by go_num, hidden hE.out⟩
          · obtain rfl : i = ML := by omega
            have hb13 := hb12.out.trans (hI.out.mono hb12.out.size)
            have kA3 := hidden (kA.out wr hb13)
            replace hb13 := hidden hb13
            have q1 : (n : Int).tmod 32 = 0 := by have := hm32.out; rw [Int.tmod_eq_emod_of_nonneg (by omega)]; omega
            have q2 : (n : Int).tdiv 32 = (i : Int) := by have := hMl.out; rw [Int.tdiv_eq_ediv_of_nonneg (by omega)]; omega
            go_wp2_with fail
            refine (kA3.out).mono ?_
            rintro ev w14 ⟨rfl, hB14⟩
            dsimp only
            have hE := hidden (hb13.out.trans (hB14.mono hb13.out.size))
            clear hB14
            go_wp2
            go_ret
            exact ⟨rfl, hE.out⟩
end Go.Proofs.YtdkpffpjbpfdnaaGreatDoor
