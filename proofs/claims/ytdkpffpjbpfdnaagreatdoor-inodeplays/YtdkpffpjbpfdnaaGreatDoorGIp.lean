/- stands. -/
import Derived.Test.YtdkpffpjbpfdnaaGreatDoorGIm
import Derived.Test.YtdkpffpjbpfdnaaGreatDoorGIn
import Derived.Test.YtdkpffpjbpfdnaaGreatDoorGIo
namespace Go.Proofs.YtdkpffpjbpfdnaaGreatDoor
open Go.RowKit Go.Extern.Stop Go.Stop Go.Extern Go.Maps Go.Sort Go.Shelf
set_option maxRecDepth 100000

theorem Had.set {sb : Nat} {w1 wx : World} {S : Nat → Bool} (h : Had sb w1 S wx) (X : Nat) (hX : X < 200) : Had sb w1 (fun i => if i = X then true else S i) (wx.setCell ⟨sb, X, none⟩ (.bool true)) :=
  ⟨h.s.set X hX, h.b.setCell (p := ⟨sb, X, none⟩) (Nat.le_refl _) (.bool true), by simpa using h.l⟩
theorem usedN_le {E : TE} {mem : Nat → Int} {M : Chg} {N : Nat → Nd} {D : Nat → List Int} (hI : Ino E mem M N D) (htn : E.tn = 6) (_ : E.Ok) : ∀ j, 1 ≤ j → j ≤ 7 → usedN N j ≤ 33 * j
  | 0, h, _ => absurd h (by omega)
  | 1, _, _ => by simp [usedN]
  | j + 2, _, h7 => by
    have ih := usedN_le hI htn ‹_› (j + 1) (by omega) (by omega)
    have hx := (hI.says (j + 1) (by omega) (by omega)).1
    have hb := blk_range ((N (j + 1)).size : Int)
    have hl := hx.2.2.1
    have e : usedN N (j + 2) = usedN N (j + 1) + (N (j + 1)).list.length := by
      conv => lhs; unfold usedN
      rw [if_pos (by omega)]
    omega
section
variable {E : TE} {mem : Nat → Int} {writes : Int} {M : Chg} {w w' : World} {N : Nat → Nd} {D : Nat → List Int}
set_option maxHeartbeats 4000000 in
theorem stands_calls (h : E.St mem writes M w) (ok : E.Ok) (hkk : Hid (E.kk = E.k)) (hI : Ino E mem M N D) (htn : E.tn = 6) (hfr : E.fr = 20) (hk60 : E.k ≤ 60) (RV : Array Value) (T : Nat → ByteArray) (hR : ∀ id, id ≤ 6 → RV[2 * id]? = some (.int .i64 ((N id).kind : Nat)) ∧ RV[2 * id + 1]? = some (.string (T id))) (hT : ∀ id, 1 ≤ id → id ≤ 6 → (N id).kind ≠ 0 → T id = ofBytes (D id)) (hu : freeN (bitM mem M E.ma) E.k + usedN N 7 = E.k) (hGT : GT w) (hid : Idle 120 mem) (hwr : 0 ≤ writes) :
    Calls Tryz.prog 22 #[ptr E.ab, ptr E.tb, .agg RV, .int .i64 (E.k : Int)] w fun e w' => e = .returned (.bool true) ∧ Below w.heap.size w w' := by
  have hlts := h.lts
  obtain ⟨w1, hw1, hB1, hrow⟩ : ∃ w1, w.alloc (.cells RV 31) = w1 ∧ Below w.heap.size w w1 ∧ ∀ j x, RV[j]? = some x → w1.cell? ⟨w.heap.size, j, none⟩ = some x := ⟨_, rfl, (Below.refl _ _).alloc (Nat.le_refl _) _, fun j x hx => by rw [cells_new]; exact hx⟩
  go_enter Tryz.func22, Tryz.ntmps22
  go_upto_region 2 with fail
  go_cut [11] (fun q wx => q = ptr w1.heap.size ∧ SeenAt w1.heap.size 200 (fun _ => false) wx ∧ Below w1.heap.size w1 wx ∧ w1.heap.size < wx.heap.size)
  case first =>
    go_wp2
    go_meet
    case rel =>
      refine ⟨rfl, ⟨fun i hi => ?_, fun i hi => ?_⟩, (Below.refl _ _).alloc (Nat.le_refl _) _, by simp⟩
      · rw [cells_new]
        have e : (Array.replicate 200 (Value.bool false))[i]? = some (.bool false) := by simp [hi]
        exact e
      · simp
  case rest =>
    rename World => w2
    obtain ⟨rfl, hs2, hB2, hlt2⟩ := hcut
    have hA1 : E.Ahead w1.heap.size := TE.Ahead.mono hlts hB1.size
    have kSt := hidden (fun (wx : World) (hx : Below w1.heap.size w1 wx) => (h.more hB1).over hA1 hx)
    have hlim : 0 ≤ writes ∧ writes ≤ ((writes.toNat : Nat) : Int) := ⟨hwr, by omega⟩
    have kS8 := hidden (fun (wx : World) (hx : Below w1.heap.size w1 wx) => show S8 E (fun j => (N j).kind) D (freeN (bitM mem M E.ma) E.k) writes.toNat wx from ⟨mem, writes, M, N, kSt.out wx hx, hI, hid, hlim, fun _ => rfl, rfl⟩)
    have kRow := hidden (fun (wx : World) (hx : Below w1.heap.size w1 wx) (id : Nat) (hi : id ≤ 6) => show wx.cell? ⟨w.heap.size, id * 2, none⟩ = some (.int .i64 ((N id).kind : Nat)) ∧ wx.cell? ⟨w.heap.size, id * 2 + 1, none⟩ = some (.string (T id)) from by
      have hlt : w.heap.size < w1.heap.size := by rw [← hw1]; simp
      have r1 := hrow _ _ (hR id hi).1
      have r2 := hrow _ _ (hR id hi).2
      rw [Nat.mul_comm 2 id] at r1 r2
      exact ⟨(hx.cell (p := ⟨w.heap.size, id * 2, none⟩) hlt).trans r1, (hx.cell (p := ⟨w.heap.size, id * 2 + 1, none⟩) hlt).trans r2⟩)
    have kGT := hidden (fun (wx : World) (hx : Below w1.heap.size w1 wx) => GT.below (GT.below hGT hB1) hx)
    have hB01 := hidden hB1
    have ok' := hidden ok
    have hI' := hidden hI
    have hT' := hidden hT
    have hu' := hidden hu
    generalize hsb : w1.heap.size = sb at *
    clear h hR hrow hGT hw1 hlim hid hwr hlts hA1 ok hI hT hu hB1
    have hst := hidden (Had.mk (seen_congr (T := seenF N 1 0) hs2 (fun i _ => (seenF_start N i).symm)) hB2 hlt2)
    clear hs2 hB2 hlt2
    go_wp2_with fail
    go_loopg [9, 10, 12] 7 (fun gk a9 a10 a12 wr => ∃ id : Nat, 1 ≤ id ∧ id ≤ 7 ∧ gk = 8 - id ∧ a9 = .int .i64 ((cntN (fun j => (N j).kind) id : Nat) : Int) ∧ a10 = .int .i64 ((usedN N id : Nat) : Int) ∧ a12 = .int .i64 (id : Int) ∧ Hid (Had sb w1 (seenF N id 0) wr))
    case atStart => exact ⟨1, by omega, by omega, rfl, rfl, rfl, rfl, hst⟩
    case round =>
      obtain ⟨id, hi1, hi7, hgk, rfl, rfl, rfl, hJ⟩ := hrel
      replace hgk := hidden hgk
      clear hst
      by_cases hle : id ≤ 6
      · have hle' : (id : Int) ≤ 6 := by omega
        have hc6 := cntN_le (fun j => (N j).kind) id
        have kKd := hidden (Ino.kind (kSt.out _ hJ.out.b) ok'.out hI'.out hi1 (by rw [htn]; exact hle))
        go_wp2_with fail
        refine (kKd.out).mono ?_
        rintro ev w4 ⟨rfl, hB4⟩
        have hJ4 := hidden (hJ.out.more hB4)
        have hr4 := kRow.out _ hJ4.out.b id hle
        have r0 := hr4.1
        clear kKd hB4 hJ hr4
        by_cases hk : (N id).kind = 0
        · rw [hk] at r0 ⊢
          have kZ := hidden (Ino.size_none (kSt.out _ hJ4.out.b) ok'.out hI'.out hi1 (by rw [htn]; exact hle) hk)
          have hcs : cntN (fun j => (N j).kind) (id + 1) = cntN (fun j => (N j).kind) id + 1 := by
            conv => lhs; unfold cntN
            rw [if_pos ⟨hi1, hk⟩]
          have hus : usedN N (id + 1) = usedN N id := by
            have hl : (N id).list = [] := by
              rcases (hI'.out.says id hi1 (by rw [htn]; exact hle)).1.1 with hh | hh
              · exact hh.2.2
              · omega
            conv => lhs; unfold usedN
            rw [if_pos hi1, hl]; rfl
          have hsn : seenF N (id + 1) 0 = seenF N id 0 := by
            have hl : (N id).list = [] := by
              rcases (hI'.out.says id hi1 (by rw [htn]; exact hle)).1.1 with hh | hh
              · exact hh.2.2
              · omega
            have := seenF_next N id hi1
            rw [hl] at this
            exact this.symm
          replace hcs := hidden hcs
          replace hus := hidden hus
          replace hsn := hidden hsn
          go_wp2_with fail
          refine (kZ.out).mono ?_
          rintro ev w5 ⟨fb, rfl, hch, hB5⟩
          have hJ5 := hidden (hJ4.out.more hB5)
          have kIs := hidden (law_is 11 (by decide) w5 sInode _ [] _ hch (kGT.out _ hJ5.out.b))
          have kNu := hidden (num_calls (id : Int) ⟨by omega, by omega⟩ w5)
          clear kZ hch hB5 hJ4 r0
          generalize itoaB (id : Int) = nm at *
          go_wp2_with fail
          refine (kNu.out).mono ?_
          rintro ev wq ⟨rfl, hwq⟩
          subst wq
          go_wp2_with fail
          refine (kIs.out).mono ?_
          rintro ev w6 ⟨rfl, hB6⟩
          have hJ6 := hidden (hJ5.out.more hB6)
          clear hB6 kIs kNu hJ5
          go_wp2
          go_roundg (8 - (id + 1))
          case measure => rw [hgk.out]; omega
          case rel => exact ⟨id + 1, by omega, by omega, rfl, by rw [hcs.out]; go_num, by rw [hus.out], by go_num, hidden (by rw [hsn.out]; exact hJ6.out)⟩
        · have hk' : ¬ (((N id).kind : Nat) : Int) = 0 := by omega
          have hlt7 : (id : Int) < 7 := by omega
          have hTd := hT'.out id hi1 hle hk
          have hids : id ≤ E.tn := by rw [htn]; exact hle
          have kSz := hidden (S8.size ok'.out (kS8.out _ hJ4.out.b) (id := id) hi1 hids hk)
          have hDl := (kS8.out _ hJ4.out.b).len hi1 hids
          have hTs : (T id).size = (D id).length := by rw [hTd, ofB_size]
          have hxo := (hI'.out.says id hi1 hids).1
          have hNl : ((N id).list.length : Int) = blk ((D id).length : Int) := by
            rw [← hI'.out.data id hi1 hids, bytesF_len]; exact hxo.2.2.1
          have hbr := blk_range ((D id).length : Int)
          obtain ⟨KD, hKD⟩ : ∃ KD : Int, KD = (((N id).kind : Nat) : Int) := ⟨_, rfl⟩
          rw [← hKD] at r0 hk' ⊢
          replace hKD := hidden hKD
          go_wp2_with fail
          refine (kSz.out).mono ?_
          rintro ev w5 ⟨rfl, hB5⟩
          have hJ5 := hidden (hJ4.out.more hB5)
          have kRd := S8.read ok'.out (kS8.out _ hJ5.out.b) (id := id) hi1 hids hk 0 5000 (by omega) (by omega)
          rw [List.drop_zero, List.take_of_length_le (by omega)] at kRd
          replace kRd := hidden kRd
          clear kSz hB5 hJ4 r0
          go_wp2_with fail
          refine (kRd.out).mono ?_
          rintro ev w6 ⟨v, rfl, hV, hB6⟩
          have hJ6 := hidden (hJ5.out.more hB6)
          have hVC := hidden (hV.toC (m := sb) (by have := hJ5.out.l; omega))
          have hsb6 : sb < w6.heap.size := hJ6.out.l
          have kBk := hidden (Ino.blocks (kSt.out _ hJ6.out.b) ok'.out hI'.out hi1 hids hk)
          clear kRd hV hB6 hJ5
          go_wp2_with fail
          refine (kBk.out).mono ?_
          rintro ev w7 ⟨lv, rfl, hK7, hB7⟩
          have hJ7 := hidden (hJ6.out.more hB7)
          have hV7 := hidden (hVC.out.keep (Apart.of_below (bs := [sb]) hB7))
          have hfo := hK7.form
          obtain ⟨la, lc, rfl, hlc⟩ := hfo
          have hsl := sortL_len (N id).list
          have kc1 := hidden (fun (wx : World) (hx : SBel w7 wx) => show wx.cell? ⟨w.heap.size, id * 2 + 1, none⟩ = some (.string (T id)) from (kRow.out _ (hJ7.out.more hx.out).b id hle).2)
          have kcv := hidden (fun (wx : World) (hx : SBel w7 wx) => (by rw [hTd]; exact conv_bytes _ _ _ (hV7.out.keep (Apart.of_below (bs := [sb]) hx.out)).at : (convert 44 9 v).run Tryz.prog wx = .ok (.string (T id)) wx))
          have kBl := hidden (fun (wx : World) => refblocks_calls ((D id).length : Int) wx)
          rw [← hNl] at kBl
          have hlcH := hidden hlc
          have hK7' := hidden hK7
          have hcsn : cntN (fun j => (N j).kind) (id + 1) = cntN (fun j => (N j).kind) id := by
            conv => lhs; unfold cntN
            rw [if_neg (fun hh => hk hh.2)]; rfl
          have husn : usedN N (id + 1) = usedN N id + (N id).list.length := by
            conv => lhs; unfold usedN
            rw [if_pos hi1]
          replace hcsn := hidden hcsn
          replace husn := hidden husn
          rw [hsl]
          replace hsl := hidden hsl
          have hLL : (N id).list.length ≤ 33 := by omega
          clear kBk hB7 hJ6 hVC hV7 hlc hK7 hTd hNl hbr hxo
          replace hk := hidden hk
          generalize hLg : (N id).list.length = LL at *
          generalize hDg : (D id).length = DL at *
          generalize T id = TX at *
          go_upto_region 17 with fail
          refine st_row w.heap.size id DL LL lc la v TX w7 hlt7 hTs kc1 kcv kBl _ _ _ _ _ _ _ _ _ _ _ _ _ _ _ _ _ _ _ _ _ _ _ _ _ _ _ _ _ _ _ _ _ _ _ _ _ _ _ _ _ _ _ _ _ _ _ _ _ _ _ _ _ _ _ _ _ _ _ _ _ _ _ _ _ _ _ _ _ _ _ _ _ _ _ _ _ _ _ _ _ _ _ _ _ _ _ _ _ _ _ _ _ _ _ _ _ _ _ _ _ _ _ _ _ _ _ _ _ _ _ _ _ _ _ _ _ _ _ _ _ _ _ _ _ _ _ _ _ _ _ _ _ _ _ _ _ _ _ _ _ _ _ _ _ _ _ _ _ _ _ _ _ _ _ _ _ _ _ _ _ _ _ _ _ _ _ _ _ _ _ _ _ _ _ _ _ _ _ _ _ _ _ _ _ _ _ _ _ _ _ _ _ _ _ _ _ _ _ _ _ _ _ _ _ _ _ _ (hidden ?kk) (hidden ?qp)
          case qp =>
            intro _ a a' _ h e
            cases a
            cases a'
            cases e
            exact h
          case kk =>
            intro y83 y84 y85 y86 y87 y88 y89 y90 y91 y92 y93 y94 y95 y96 y97 y98 y99 y100 y101 y102 y103 y104 y105 y106 y107 y108 y109 y110 y111 y112 y113 y114 y115 y116 w8 hB8
            dsimp only
            have hJ8 := hidden (And.intro (hJ7.out.more hB8) (Apart.of_below (bs := [sb]) hB8))
            have kcl := hidden (fun (wx : World) (hx : Apart [sb] w7 wx) (k : Nat) (hk : k < LL) => show wx.cell? ⟨(la.getD ⟨0, 0, none⟩).block, k, none⟩ = some (.int .i64 ((sortL (N id).list).getD k 0)) from by
              obtain ⟨lb, e, h1, h2, h3⟩ := hlcH.out (by intro e; have := hsl.out; rw [e] at this; simp at this; omega)
              subst e
              exact (hx.cell (p := ⟨lb, k, none⟩) h2 (by simp; omega)).trans (h3 k (by rw [hsl.out]; exact hk)))
            have hla := hidden (fun (h0 : 0 < LL) => show la = some ⟨(la.getD ⟨0, 0, none⟩).block, 0, none⟩ from by
              obtain ⟨lb, e, -⟩ := hlcH.out (by intro e; have := hsl.out; rw [e] at this; simp at this; omega)
              rw [e]; rfl)
            clear hB8 kc1 kcv kBl hK7' hlcH
            go_wp2_with fail
            go_loopg [23] LL (fun gi q wr => ∃ i : Nat, i ≤ LL ∧ gi = LL - i ∧ q = .int .i64 (i : Int) ∧ Hid (Had sb w1 (seenF N id i) wr ∧ Apart [sb] w7 wr))
            case atStart => exact ⟨0, by omega, rfl, rfl, hJ8⟩
            case round =>
              obtain ⟨i, hiL, hgi, rfl, hJr⟩ := hrel
              replace hgi := hidden hgi
              clear hJ8 hJ7
              by_cases hlt : i < LL
              · have hlt' : (i : Int) < (LL : Int) := by omega
                obtain ⟨bi, hbi1, hbi2, hbi3⟩ := hI'.out.mine id hi1 hids _ (sortL_at (N id).list i (by rw [hLg]; exact hlt))
                obtain ⟨X, hXe⟩ : ∃ X : Nat, (sortL (N id).list).getD i 0 = (X : Int) := ⟨E.fr + bi, by rw [hbi2]; rfl⟩
                rw [hXe, hfr] at hbi2
                have hX200 : X < 200 := by omega
                have hX200' : (X : Int) < 200 := by omega
                have hX0 : ¬ (X : Int) < 20 := by omega
                have hXk : ¬ 20 + (E.k : Int) ≤ (X : Int) := by omega
                have hwk : IntKind.i64.wrap (20 + (E.k : Int)) = 20 + (E.k : Int) := wrap_pos _ (by omega) (by omega)
                replace hbi2 := hidden hbi2
                have hnew := seenF_new N id i (by rw [hLg]; exact hlt) (hI'.out.nodup id hi1 hids) (fun j a b z hz => hI'.out.apart id j hi1 hids a (by rw [htn]; omega) (by omega) z hz) X hXe.symm
                have hse := seenF_step N id i (by rw [hLg]; exact hlt) X hXe.symm
                have kl := hidden (fun (wx : World) (hx : SBel wr wx) => show wx.cell? ⟨(la.getD ⟨0, 0, none⟩).block, i, none⟩ = some (.int .i64 (X : Int)) from by rw [← hXe]; exact kcl.out _ (hJr.out.2.trans (Apart.of_below (bs := [sb]) hx.out)) i hlt)
                have kh := hidden (fun (wx : World) (hx : SBel wr wx) => show wx.cell? ⟨sb, X, none⟩ = some (.bool false) from by rw [← hnew]; exact (hJr.out.1.more hx.out).s.cell X hX200)
                obtain ⟨lb, hlb⟩ : ∃ lb, (la.getD ⟨0, 0, none⟩).block = lb := ⟨_, rfl⟩
                have hlaE := hla.out (by omega)
                rw [hlb] at hlaE kl
                have kcl0 := kcl
                rw [hlb] at kcl0
                clear kcl
                have kcl := kcl0
                clear kcl0
                subst hlaE
                clear hlb hla
                go_upto_region 22 with fail
                by_cases hi0 : i = 0
                · subst hi0
                  refine st_first lb LL lc 0 sb E.k X wr hlt' hX0 hXk hX200' hwk kl kh (by omega) rfl _ _ _ _ _ _ _ _ _ _ _ _ _ _ _ _ _ _ _ _ _ _ _ _ _ _ _ _ _ _ _ _ _ _ _ _ _ _ _ _ _ _ _ _ _ _ _ _ _ _ _ _ _ _ _ _ _ _ _ _ _ _ _ _ _ _ _ _ _ _ _ _ _ _ _ _ _ _ _ _ _ _ _ _ _ _ _ _ _ _ _ _ _ _ _ _ _ _ _ _ _ _ _ _ _ _ _ _ _ _ _ _ _ _ _ _ _ _ _ _ _ _ _ _ _ _ _ _ _ _ _ _ _ _ _ _ _ _ _ _ _ _ _ _ _ _ _ _ _ _ _ _ _ _ _ _ _ _ _ _ _ _ _ _ _ _ _ _ _ _ _ _ _ _ _ _ _ _ _ _ _ _ _ _ _ _ _ _ _ _ _ _ _ _ _ _ _ _ _ _ _ _ _ _ _ _ _ _ _ _ _ _ (hidden ?kk) (hidden ?qp)
                  case qp =>
                    intro _ a a' _ h e
                    cases a
                    cases a'
                    cases e
                    exact h
                  case kk =>
                    intro z124 z125 z126 z127 z128 z129 z130 z131 z132 z133 z134 z135 z136 z137 z138 z139 z140 z141 z142 z143 z144 z145 z146 z147 z148 z149 z150 z151 z152 z153 z154 z155 z156 z157 z158 z159 z160 w9 hB9
                    dsimp only
                    have hJ9 := hidden (hJr.out.1.more hB9)
                    have hA9 := hidden (hJr.out.2.trans (Apart.of_below (bs := [sb]) hB9))
                    have d9 := kcl.out _ hA9.out 0 hlt
                    rw [hXe] at d9
                    have hf9 := hJ9.out.s.free X hX200
                    have hc9 := hJ9.out.s.cell X hX200
                    have hset := hidden (hJ9.out.set X hX200)
                    have hst9 := hidden (hA9.out.setCell (p := ⟨sb, X, none⟩) (by simp) (.bool true))
                    have d10 := kcl.out _ hst9.out 0 hlt
                    rw [hXe] at d10
                    have kTk := hidden (taken_calls (kSt.out _ hset.out.b).c ok'.out.live (kSt.out _ hset.out.b).m ok'.out.fit bi (Nat.lt_of_lt_of_le hbi1 ok'.out.le) (X : Int) (by have := hbi2.out; omega))
                    rw [hbi3] at kTk
                    rw [← hse] at hset
                    clear hB9
                    go_wp2_with fail
                    refine (kTk.out).mono ?_
                    rintro ev w10 ⟨rfl, hB10⟩
                    have hJ10 := hidden (And.intro (hset.out.more hB10) (hst9.out.trans (Apart.of_below (bs := [sb]) hB10)))
                    clear hB10 kTk d10 d9 hc9 hf9
                    go_wp2
                    go_roundg (LL - (0 + 1))
                    case measure => rw [hgi.out]; omega
                    case rel => exact ⟨0 + 1, by omega, rfl, by first | rfl | go_num, hJ10⟩
                · obtain ⟨Y, hYe, hYX⟩ : ∃ Y : Nat, (sortL (N id).list).getD (i - 1) 0 = (Y : Int) ∧ Y < X := by
                    obtain ⟨bj, b1, b2, -⟩ := hI'.out.mine id hi1 hids _ (sortL_at (N id).list (i - 1) (by rw [hLg]; omega))
                    have hs := sortL_step (N id).list (hI'.out.nodup id hi1 hids) i (by omega) (by rw [hLg]; exact hlt)
                    refine ⟨E.fr + bj, by rw [b2]; rfl, ?_⟩
                    rw [b2, hXe] at hs
                    omega
                  have kp := hidden (fun (wx : World) (hx : SBel wr wx) => show wx.cell? ⟨lb, i - 1, none⟩ = some (.int .i64 (Y : Int)) from by rw [← hYe]; exact kcl.out _ (hJr.out.2.trans (Apart.of_below (bs := [sb]) hx.out)) (i - 1) (by omega))
                  refine st_next lb LL lc i sb E.k X wr hlt' hX0 hXk hX200' hwk kl kh (i - 1) Y (by omega) (by omega) (by omega) (wrap_pos _ (by omega) (by omega)) (by omega) kp _ _ _ _ _ _ _ _ _ _ _ _ _ _ _ _ _ _ _ _ _ _ _ _ _ _ _ _ _ _ _ _ _ _ _ _ _ _ _ _ _ _ _ _ _ _ _ _ _ _ _ _ _ _ _ _ _ _ _ _ _ _ _ _ _ _ _ _ _ _ _ _ _ _ _ _ _ _ _ _ _ _ _ _ _ _ _ _ _ _ _ _ _ _ _ _ _ _ _ _ _ _ _ _ _ _ _ _ _ _ _ _ _ _ _ _ _ _ _ _ _ _ _ _ _ _ _ _ _ _ _ _ _ _ _ _ _ _ _ _ _ _ _ _ _ _ _ _ _ _ _ _ _ _ _ _ _ _ _ _ _ _ _ _ _ _ _ _ _ _ _ _ _ _ _ _ _ _ _ _ _ _ _ _ _ _ _ _ _ _ _ _ _ _ _ _ _ _ _ _ _ _ _ _ _ _ _ _ _ _ _ _ (hidden ?kk) (hidden ?qp)
                  case qp =>
                    intro _ a a' _ h e
                    cases a
                    cases a'
                    cases e
                    exact h
                  case kk =>
                    intro z124 z125 z126 z127 z128 z129 z130 z131 z132 z133 z134 z135 z136 z137 z138 z139 z140 z141 z142 z143 z144 z145 z146 z147 z148 z149 z150 z151 z152 z153 z154 z155 z156 z157 z158 z159 z160 w9 hB9
                    dsimp only
                    have hJ9 := hidden (hJr.out.1.more hB9)
                    have hA9 := hidden (hJr.out.2.trans (Apart.of_below (bs := [sb]) hB9))
                    have d9 := kcl.out _ hA9.out i hlt
                    rw [hXe] at d9
                    have hf9 := hJ9.out.s.free X hX200
                    have hc9 := hJ9.out.s.cell X hX200
                    have hset := hidden (hJ9.out.set X hX200)
                    have hst9 := hidden (hA9.out.setCell (p := ⟨sb, X, none⟩) (by simp) (.bool true))
                    have d10 := kcl.out _ hst9.out i hlt
                    rw [hXe] at d10
                    have kTk := hidden (taken_calls (kSt.out _ hset.out.b).c ok'.out.live (kSt.out _ hset.out.b).m ok'.out.fit bi (Nat.lt_of_lt_of_le hbi1 ok'.out.le) (X : Int) (by have := hbi2.out; omega))
                    rw [hbi3] at kTk
                    rw [← hse] at hset
                    clear hB9
                    go_wp2_with fail
                    refine (kTk.out).mono ?_
                    rintro ev w10 ⟨rfl, hB10⟩
                    have hJ10 := hidden (And.intro (hset.out.more hB10) (hst9.out.trans (Apart.of_below (bs := [sb]) hB10)))
                    clear hB10 kTk d10 d9 hc9 hf9
                    go_wp2
                    go_roundg (LL - (i + 1))
                    case measure => rw [hgi.out]; omega
                    case rel => exact ⟨i + 1, by omega, rfl, by go_num, hJ10⟩
              · obtain rfl : i = LL := by omega
                have hlt' : ¬ (i : Int) < (i : Int) := by omega
                have hJe := hidden (show Had sb w1 (seenF N (id + 1) 0) wr from by rw [← seenF_next N id hi1, hLg]; exact hJr.out.1)
                have hub : usedN N id ≤ 1000 := by have := usedN_le hI'.out htn ok'.out id hi1 (by omega); omega
                clear hJr
                go_wp2
                go_roundg (8 - (id + 1))
                case measure => rw [hgk.out]; omega
                case rel => exact ⟨id + 1, by omega, by omega, rfl, by rw [hcsn.out], by rw [husn.out]; go_num, by go_num, hJe⟩
      · obtain rfl : id = 7 := by omega
        have hle' : ¬ ((7 : Nat) : Int) ≤ 6 := by omega
        have kFr := hidden (S8.mfree ok'.out hkk.out (kS8.out _ hJ.out.b))
        have hJ0 := hidden hJ.out
        clear hJ
        obtain ⟨KE, hKE⟩ : ∃ KE : Int, KE = (E.k : Int) := ⟨_, rfl⟩
        obtain ⟨UU, hUU⟩ : ∃ UU : Int, UU = ((usedN N 7 : Nat) : Int) := ⟨_, rfl⟩
        obtain ⟨FF, hFF⟩ : ∃ FF : Int, FF = ((freeN (bitM mem M E.ma) E.k : Nat) : Int) := ⟨_, rfl⟩
        have hsu : KE - UU = FF := by have := hu'.out; omega
        have hwu : IntKind.i64.wrap (KE - UU) = FF := by rw [hsu]; exact wrap_pos _ (by omega) (by have := hu'.out; omega)
        rw [← hFF] at kFr
        rw [← hKE, ← hUU]
        replace hKE := hidden hKE
        replace hUU := hidden hUU
        replace hFF := hidden hFF
        go_wp2_with fail
        refine (kFr.out).mono ?_
        rintro ev w4 ⟨rfl, hB4⟩
        have hJ4 := hidden (hJ0.out.more hB4)
        have kLf := hidden (Ino.left (kSt.out _ hJ4.out.b) ok'.out hI'.out)
        rw [htn] at kLf
        clear kFr hB4 hJ0
        go_wp2_with fail
        refine (kLf.out).mono ?_
        rintro ev w5 ⟨rfl, hB5⟩
        have hJ5 := hidden (hJ4.out.more hB5)
        have hEe := hidden (hB01.out.trans (hJ5.out.b.mono (by have := hB01.out.size; omega)))
        clear kLf hB5 hJ4
        generalize cntN (fun j => (N j).kind) 7 = CC at *
        clear hkk hle' hi1 hi7 hk60 htn hfr hgk kGT kRow kSt kS8 hu' hI' hT' ok' hB01 hsu hKE hUU hFF
        go_wp2
        go_ret
        exact ⟨rfl, hEe.out⟩
end
end Go.Proofs.YtdkpffpjbpfdnaaGreatDoor
