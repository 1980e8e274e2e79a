/- lay, walked. -/
import Derived.Test.YtpofmiecjkghgaaGreatDoorGVap
namespace Go.Proofs.YtpofmiecjkghgaaGreatDoor
open Go.RowKit Go.Extern.Stop Go.Stop Go.Extern Go.Maps Go.Sort Go.Shelf
set_option maxRecDepth 100000
set_option maxHeartbeats 4000000
section
variable {E : TE} {mem : Nat -> Int} {writes : Int} {M : Chg} {w w' : World}
theorem ilay_calls (h : E.St mem writes M w) (ok : E.Ok) {v bv : Value} {ks zs : List Int} (hv : IntsAt w v ks) (K S : Int) (at_ : Nat) (hbv : BytesC E.mb w bv zs) (hzl : zs.length <= 4000) (hat : at_ <= 4000) (hnd : ks.Nodup) (hmine : ∀ z ∈ ks, ∃ i, (i < E.k /\ E.U i) /\ z = E.fr + (i : Int))
    (hfit : ∀ q, at_ < 128 * (q + 1) -> 128 * q < at_ + zs.length -> idxN q < ks.length) :
    Calls Tryz.prog 226 #[ptr E.tb, nodeV K S v, .int .i64 at_, bv] w fun e w' => e = .returned .nilIface /\ ∃ M', Laid mem M M' ks at_ zs /\ E.St mem writes M' w' /\ Apart [E.mb] w w' := by
  have hBa : Below w.heap.size w (w.alloc (.cells #[.int .i64 K, .int .i64 S, v] 151)) := (Below.refl _ _).alloc (Nat.le_refl _) _
  have hN : NdAt (w.alloc (.cells #[.int .i64 K, .int .i64 S, v] 151)) w.heap.size K S v := ⟨by simp, by simp, by simp⟩
  have kP := hidden (pieces_calls (hv.below hBa) K S at_ zs.length (by omega) (by omega) hfit)
  have hpos : Hid (∀ z ∈ ks, 0 <= z) := hidden (fun z hz => by obtain ⟨i, _, e⟩ := hmine z hz; omega)
  have hinA : Hid (∀ z ∈ ks, z.toNat ∈ E.A /\ ((z.toNat : Nat) : Int) = z) := hidden (fun z hz => by
    obtain ⟨i, hi, e⟩ := hmine z hz
    have : z.toNat = E.fr + i := by omega
    exact ⟨this ▸ ok.data i hi.1 hi.2, by omega⟩)
  have hbv0 := hidden hbv
  obtain ⟨ab, capb, rfl, hbl, -⟩ := hbv
  obtain ⟨av, cv, rfl, -⟩ := hv
  have hsa : (w.alloc (.cells #[.int .i64 K, .int .i64 S, .slice av ks.length cv] 151)).heap.size = w.heap.size + 1 := by simp
  generalize hwa : w.alloc (.cells #[.int .i64 K, .int .i64 S, .slice av ks.length cv] 151) = wa at *
  have n0 := hN.c0
  have n1 := hN.c1
  have n2 := hN.c2
  replace h := hidden h
  replace ok := hidden ok
  replace hfit := hidden hfit
  replace hnd := hidden hnd
  replace hBa := hidden hBa
  clear hN hmine
  generalize hPs : pcsL ks zs.length at_ zs.length = ps at *
  replace hPs := hidden hPs
  have hmb : E.mb < w.heap.size := h.out.lts.2.2.2.2.1
  have hlt : E.tb < w.heap.size := h.out.t.lt
  generalize hzL : zs.length = ZL at *
  replace hzL := hidden hzL
  go_enter Tryz.func226, Tryz.ntmps226
  go_wp2_with fail
  refine (kP.out).mono ?_
  rintro ev w1 ⟨pv, rfl, hPc, hB1⟩
  have hB01 := hBa.out.trans (hB1.mono hBa.out.size)
  have hs1 := hB1.size
  obtain ⟨pa, pcap, rfl, hpf⟩ := hPc.form
  have hpl : ps.length <= ZL := by rw [<- hPs.out]; exact pcsL_len _ _ _ _
  have hpf' := hidden (fun (wx : World) (hx : Apart [E.mb] w1 wx) (j : Nat) (hj : j < ps.length) => show ∃ b, pa = some ⟨b, 0, none⟩ /\ b < wx.heap.size /\ wx.cell? ⟨b, j * 3, none⟩ = some (.int .i64 (ps.getD j (0, 0, 0)).1) /\ wx.cell? ⟨b, j * 3 + 1, none⟩ = some (.int .i64 (ps.getD j (0, 0, 0)).2.1) /\ wx.cell? ⟨b, j * 3 + 2, none⟩ = some (.int .i64 (ps.getD j (0, 0, 0)).2.2) from by
    obtain ⟨b, h1, h2, h3⟩ := hpf (by intro e; rw [e] at hj; simp at hj)
    have hbb := (hPc.row.lt b (by rw [h1]; rfl)).1
    obtain ⟨e1, e2, e3⟩ := h3 j hj
    have hnm : b ∉ [E.mb] := by simp; omega
    exact ⟨b, h1, Nat.lt_of_lt_of_le h2 hx.size, (hx.cell (p := ⟨b, j * 3, none⟩) h2 hnm).trans e1, (hx.cell (p := ⟨b, j * 3 + 1, none⟩) h2 hnm).trans e2, (hx.cell (p := ⟨b, j * 3 + 2, none⟩) h2 hnm).trans e3⟩)
  have hS1 := hidden (h.out.more hB01)
  have hb1 := hidden (hbv0.out.keep (Apart.of_below hB01))
  have hA01 := hidden (Apart.of_below (bs := [E.mb]) hB01)
  have hmb1 : E.mb < w1.heap.size := by have := hB01.size; omega
  clear h hbv0 kP hPc hB1 hB01 hpf n0 n1 n2 hwa
  generalize hPL : ps.length = PL at *
  replace hPL := hidden hPL
  go_wp2_with fail
  go_loopg [3, 19] (PL + 1) (fun gk bv q wr => ∃ (j f c : Nat) (M' : Chg), j <= PL /\ gk = PL + 1 - j /\ q = .int .i64 j /\ c <= ZL /\ ZL - c <= f /\ Hid (ps.drop j = pcsL ks f (at_ + c) (ZL - c)) /\ Hid (BytesC E.mb wr bv (zs.drop c) /\ Laid mem M M' ks at_ (zs.take c) /\ E.St mem writes M' wr /\ Apart [E.mb] w1 wr))
  case atStart => exact ⟨0, ZL, 0, M, by omega, rfl, rfl, by omega, by omega, hidden hPs.out.symm, hidden ⟨hb1.out, Laid.nil _ _ _ _, hS1.out, Apart.refl _ _⟩⟩
  case round =>
    obtain ⟨j, f, c, M', hj, hgk, rfl, hc, hcf, hdr, hI⟩ := hrel
    replace hgk := hidden hgk
    obtain ⟨i1, i2, i3, i4⟩ := hI.out
    by_cases hlt' : j < PL
    · have hjl : j < ps.length := by rw [hPL.out]; exact hlt'
      have hd := hdr.out
      rw [List.drop_eq_getElem_cons hjl] at hd
      have hN0 : 0 < ZL - c := by
        rcases Nat.eq_zero_or_pos (ZL - c) with h0 | h0
        · rw [h0] at hd
          cases f with
          | zero => cases hd
          | succ f => rw [pcsL, if_pos rfl] at hd; cases hd
        · exact h0
      obtain ⟨f', rfl⟩ : ∃ f', f = f' + 1 := ⟨f - 1, by omega⟩
      rw [pcsL, if_neg (by omega)] at hd
      obtain ⟨hd1, hd2⟩ := List.cons.inj hd
      have hgd : ps.getD j (0, 0, 0) = (ks.getD (idxN ((at_ + c) / 128)) 0, (((at_ + c) % 128 : Nat) : Int), ((min ((at_ + c) % 128 + (ZL - c)) 128 : Nat) : Int)) := by
        rw [List.getD_eq_getElem?_getD, List.getElem?_eq_getElem hjl]
        exact hd1
      have hst := stepN_pos (at_ := at_ + c) hN0
      have hq := hfit.out ((at_ + c) / 128) (by omega) (by omega)
      obtain ⟨hzA, hzz⟩ := hinA.out _ (getD_mem hq)
      obtain ⟨pb, rfl, hpb, e1, e2, e3⟩ := hpf'.out _ i4 j hlt'
      rw [hgd] at e1 e2 e3
      simp only at e1 e2 e3
      have hdl : (zs.drop c).length = ZL - c := by rw [List.length_drop, hzL.out]
      have hyl : ((zs.drop c).take (stepN (at_ + c) (ZL - c))).length = stepN (at_ + c) (ZL - c) := by rw [List.length_take]; omega
      have hrl : (at_ + c) % 128 + stepN (at_ + c) (ZL - c) <= 128 := by unfold stepN; omega
      have t4 : ((min ((at_ + c) % 128 + (ZL - c)) 128 : Nat) : Int) - (((at_ + c) % 128 : Nat) : Int) = ((stepN (at_ + c) (ZL - c) : Nat) : Int) := by unfold stepN; omega
      have hr7 : (at_ + c) % 128 < 128 := by omega
      have hm8 : min ((at_ + c) % 128 + (ZL - c)) 128 <= 128 := by omega
      have htk : Hid (zs.take c ++ (zs.drop c).take (stepN (at_ + c) (ZL - c)) = zs.take (c + stepN (at_ + c) (ZL - c))) := hidden (List.take_add).symm
      have hlc : Hid ((zs.take c).length = c) := hidden (by rw [List.length_take, hzL.out]; omega)
      have hdd : Hid ((zs.drop c).drop (stepN (at_ + c) (ZL - c)) = zs.drop (c + stepN (at_ + c) (ZL - c))) := hidden (List.drop_drop)
      have hnx : Hid (ps.drop (j + 1) = pcsL ks f' (at_ + (c + stepN (at_ + c) (ZL - c))) (ZL - (c + stepN (at_ + c) (ZL - c)))) := hidden (by rw [hd2]; congr 1 <;> omega)
      have hLaid : Hid (∀ M'', (∀ k, nowM mem M'' k = if k = (ks.getD (idxN ((at_ + c) / 128)) 0).toNat then layL (nowM mem M' (ks.getD (idxN ((at_ + c) / 128)) 0).toNat) ((at_ + c) % 128) ((zs.drop c).take (stepN (at_ + c) (ZL - c))) else nowM mem M' k) -> Laid mem M M'' ks at_ (zs.take (c + stepN (at_ + c) (ZL - c)))) := hidden (fun M'' hM => by
        have := i2.step (M'' := M'') (ys := (zs.drop c).take (stepN (at_ + c) (ZL - c))) hnd.out hpos.out i3.row (by rw [hlc.out, hyl]; exact hrl) (by rw [hlc.out]; exact hq) (by rw [hlc.out]; exact hM)
        rw [htk.out] at this
        exact this)
      obtain ⟨ba, bcap, hbvE, hbc1, hbc2, hbc3, hbc4, hbc5⟩ := i1
      obtain ⟨bb, boff, rfl, hbb1, hbb2, hbb3⟩ := hbc5 (by intro e; rw [e] at hdl; simp at hdl; omega)
      have i1 : BytesC E.mb wr (.slice (some ⟨bb, boff, none⟩) (ZL - c) bcap) (zs.drop c) := ⟨_, bcap, by rw [hdl], hbc1, hbc2, hbc3, hbc4, hbc5⟩
      rw [hdl] at hbvE hbc1
      subst hbvE
      have hB7 : Below wr.heap.size wr (wr.alloc (.cells #[.int .i64 (ks.getD (idxN ((at_ + c) / 128)) 0), .int .i64 (((at_ + c) % 128 : Nat) : Int), .int .i64 ((min ((at_ + c) % 128 + (ZL - c)) 128 : Nat) : Int)] 238)) := (Below.refl _ _).alloc (Nat.le_refl _) _
      have kW := hidden (fun (wx : World) (hx : Below wr.heap.size wr wx) => (i3.more hx).write ok.out hzA ((at_ + c) % 128) _ _ ((i1.take (stepN (at_ + c) (ZL - c)) (by omega)).keep (Apart.of_below hx)).at (by rw [hyl]; exact hrl))
      rw [hzz] at kW
      have hfin : Hid (c + stepN (at_ + c) (ZL - c) <= ZL /\ ZL - (c + stepN (at_ + c) (ZL - c)) <= f') := hidden (by omega)
      have hbl2 : stepN (at_ + c) (ZL - c) <= ZL - c := by omega
      have hst0 : 0 < stepN (at_ + c) (ZL - c) := by omega
      have hst1 : stepN (at_ + c) (ZL - c) <= 128 := by omega
      have hdrop := hidden (fun (wx : World) (hx : Apart [E.mb] wr wx) (a' : Option Addr) (L' c' : Nat) (h1 : L' = (zs.drop c).length - stepN (at_ + c) (ZL - c)) (h2 : c' = bcap - stepN (at_ + c) (ZL - c)) (h3 : a' = some ⟨bb, boff + stepN (at_ + c) (ZL - c), none⟩ \/ (bcap - stepN (at_ + c) (ZL - c) = 0 /\ a' = some ⟨bb, boff, none⟩)) => (i1.keep hx).drop (stepN (at_ + c) (ZL - c)) (by omega) a' L' c' h1 h2 h3)
      rw [hdd.out, hdl] at hdrop
      have c0 := i3.t.c0
      have hltb := i3.t.lt
      have d0 : (wr.alloc (.cells #[.int .i64 (ks.getD (idxN ((at_ + c) / 128)) 0), .int .i64 (((at_ + c) % 128 : Nat) : Int), .int .i64 ((min ((at_ + c) % 128 + (ZL - c)) 128 : Nat) : Int)] 238)).cell? ⟨E.tb, 0, none⟩ = some (ptr E.cb) := (hB7.cell (p := ⟨E.tb, 0, none⟩) hltb).trans c0
      generalize (zs.drop c).take (stepN (at_ + c) (ZL - c)) = ys at *
      generalize stepN (at_ + c) (ZL - c) = st at *
      generalize min ((at_ + c) % 128 + (ZL - c)) 128 = tt at *
      generalize (at_ + c) % 128 = r at *
      generalize ks.getD (idxN ((at_ + c) / 128)) 0 = z at *
      have g0 : (wr.alloc (.cells #[.int .i64 z, .int .i64 (r : Int), .int .i64 (tt : Int)] 238)).cell? ⟨wr.heap.size, 0, none⟩ = some (.int .i64 z) := by simp
      have g1 : (wr.alloc (.cells #[.int .i64 z, .int .i64 (r : Int), .int .i64 (tt : Int)] 238)).cell? ⟨wr.heap.size, 1, none⟩ = some (.int .i64 r) := by simp
      have g2 : (wr.alloc (.cells #[.int .i64 z, .int .i64 (r : Int), .int .i64 (tt : Int)] 238)).cell? ⟨wr.heap.size, 2, none⟩ = some (.int .i64 tt) := by simp
      have hs7 : (wr.alloc (.cells #[.int .i64 z, .int .i64 (r : Int), .int .i64 (tt : Int)] 238)).heap.size = wr.heap.size + 1 := by simp
      generalize hw7 : wr.alloc (.cells #[.int .i64 z, .int .i64 (r : Int), .int .i64 (tt : Int)] 238) = w7 at *
      have hBd := hidden (hB7.trans ((below_drew1 w7).mono hB7.size))
      have hltb7 : E.tb < w7.heap.size := by omega
      have i4' := hidden i4
      clear i1 i2 i3 i4 hI hd hd1 hd2 hgd hdr htk hlc hdd hyl hbc2 hbc3 hbc4 hbc5 hbb1 hbb2 hbb3 hpf' hinA hfit hB7 hpb hzA hzz hq hpos hnd
      have hZb : ZL - c <= 4000 := by omega
      have hjb : j < 100000 := by omega
      clear hjl hN0 hcf hpl hst hrl hPs hPL hsa hmb hmb1 hs1 hat hlt
      replace hfin := hidden hfin.out
      go_upto_region 5 with fail
      clear e1 e2 e3 hw7
      go_cut [12] (fun p wx => p = .nilIface /\ ∃ M'', Laid mem M M'' ks at_ (zs.take (c + st)) /\ E.St mem writes M'' wx /\ Apart [E.mb] wr wx)
      case first =>
        go_region_with (go_at_call 170; refine (kW.out _ hBd.out).mono ?_; rintro ev w8 ⟨rfl, M'', hS8, hA8, hM8⟩; have hE8 := hidden (And.intro (hLaid.out M'' hM8) (And.intro hS8 ((Apart.of_below hBd.out).trans hA8))); clear hS8 hA8 hM8)
        all_goals (go_wp2; go_meet; case rel => exact ⟨rfl, M'', hE8.out⟩)
      case rest =>
        rename World => w8
        obtain ⟨rfl, M'', hcut⟩ := hcut
        replace hcut := hidden hcut
        clear kW hLaid g0 g1 g2 d0
        by_cases hcap : bcap - st = 0
        · have hE9 : Hid (BytesC E.mb w8 (.slice (some ⟨bb, boff, none⟩) (ZL - c - st) (bcap - st)) (zs.drop (c + st)) /\ Laid mem M M'' ks at_ (zs.take (c + st)) /\ E.St mem writes M'' w8 /\ Apart [E.mb] w1 w8) := hidden ⟨hdrop.out _ hcut.out.2.2 _ _ _ rfl rfl (Or.inr ⟨hcap, rfl⟩), hcut.out.1, hcut.out.2.1, i4'.out.trans hcut.out.2.2⟩
          rw [hcap] at hE9
          clear hdrop hcut
          go_wp2
          go_roundg (PL + 1 - (j + 1))
          case measure => rw [hgk.out]; omega
          case rel => exact ⟨j + 1, f', c + st, M'', by omega, rfl, by go_num, hfin.out.1, hfin.out.2, hnx, hE9⟩
        · have hE9 : Hid (BytesC E.mb w8 (.slice (some ⟨bb, boff + st, none⟩) (ZL - c - st) (bcap - st)) (zs.drop (c + st)) /\ Laid mem M M'' ks at_ (zs.take (c + st)) /\ E.St mem writes M'' w8 /\ Apart [E.mb] w1 w8) := hidden ⟨hdrop.out _ hcut.out.2.2 _ _ _ rfl rfl (Or.inl rfl), hcut.out.1, hcut.out.2.1, i4'.out.trans hcut.out.2.2⟩
          clear hdrop hcut
          go_wp2
          go_roundg (PL + 1 - (j + 1))
          case measure => rw [hgk.out]; omega
          case rel => exact ⟨j + 1, f', c + st, M'', by omega, rfl, by go_num, hfin.out.1, hfin.out.2, hnx, hE9⟩
    · obtain rfl : j = PL := by omega
      have hc0 : c = ZL := by
        have hd := hdr.out
        rw [List.drop_of_length_le (by rw [hPL.out]; omega)] at hd
        rcases Nat.eq_zero_or_pos (ZL - c) with h0 | h0
        · omega
        · cases f with
          | zero => omega
          | succ f => rw [pcsL, if_neg (by omega)] at hd; cases hd
      subst hc0
      rw [List.take_of_length_le (by rw [hzL.out]; omega)] at i2
      have hE := hidden (And.intro i2 (And.intro i3 (hA01.out.trans i4)))
      clear i1 i2 i3 i4 hI
      go_wp2
      go_ret
      exact ⟨rfl, M', hE.out⟩
end
end Go.Proofs.YtpofmiecjkghgaaGreatDoor
