/- The journal's settle. -/
import Derived.Test.YtpofmiecjkghgaaGreatDoorGJqp
namespace Go.Proofs.YtpofmiecjkghgaaGreatDoor
open Go.RowKit Go.Extern.Stop Go.Stop Go.Extern
set_option maxRecDepth 100000
set_option maxHeartbeats 8000000
theorem settle_calls {w0 : World} {d g n : Nat} {mem : Nat -> Int} {writes left : Int} {w : World} (h : Sys w0 d g n mem writes left w) (jb at_ most : Nat) (hj : JAt jb d at_ most w) (hjd : jb ≠ d /\ jb ≠ g) (hat : at_ < n) (l : Grp) (own : Nat) (hg : Good n at_ own l) (h1 : 1 <= l.length) (v : Value) (hv : GOff d g w v (up l)) (hl : LeftOk left) (hw : 0 <= writes /\ writes < 500000000) :
    Calls Tryz.prog 245 #[ptr jb, v] w fun e w' => ∃ r, e = .returned r /\ Wrote w0 d g n (settleWs at_ l) mem writes left r w w' := by
  have hfew := h.disk.few
  have hS := hidden h
  have hV := hidden hv
  have hJ := hidden hj
  have hllen := hg.few
  have hgd := hidden hg
  have hwl : Hid (∀ k, k <= l.length -> (settleWs at_ l).take k = l.take k) := hidden fun k hk => by rw [settleWs, List.take_append_of_le_length hk]
  have hsl : Hid ((settleWs at_ l).length = l.length + 1) := hidden (by simp [settleWs])
  obtain ⟨a, cap, rfl, -, hc⟩ := hv.at
  obtain ⟨gb, off, rfl, -, -⟩ := hc (by intro e; have := up_len l; rw [e] at this; simp at this; omega)
  rw [up_len] at hV ⊢
  clear hc h hv hj hg
  go_enter Tryz.func245, Tryz.ntmps245
  go_wp2
  go_loopg [10] l.length (fun gk q wr => ∃ k : Nat, k <= l.length /\ gk = l.length - k /\ q = .int .i64 k /\ Hid (Mid w0 d g n (settleWs at_ l) k mem writes left w wr))
  case atStart => exact ⟨0, by omega, rfl, rfl, hidden ⟨Apart.refl _ _, left, by simpa [laid] using hS.out, hl, fun e => e⟩⟩
  case round =>
    obtain ⟨k, hk, hgk, rfl, hI⟩ := hrel
    replace hgk := hidden hgk
    obtain ⟨left', hS', hl', hll⟩ := hI.out.out
    have hA := hI.out.apart
    have hJ' := hJ.out.keep hA (by simp; exact hjd)
    have hj0 := hJ'.c0
    have hj1 := hJ'.c1
    clear hI
    by_cases hlt : k < l.length
    · obtain ⟨hc1, da, dcap, hc2, hDt⟩ := (hV.out wr hA).cells k (by rw [up_len]; exact hlt)
      rw [up_get] at hc1 hc2 hDt
      simp only at hc1 hc2 hDt
      rw [hgd.out.len k hlt] at hc2 hDt
      have hno := hgd.out.no k hlt
      have hdl := hgd.out.len k hlt
      have hjl := hJ'.lt
      have hwk := hwl.out (k + 1) (by omega)
      rw [take_snoc l k hlt, <- hwl.out k hk] at hwk
      replace hwk := hidden hwk
      replace hDt := hidden hDt
      generalize dat l k = D at hDt hwk hdl
      generalize nob l k = X at hc1 hno hwk
      replace hS' := hidden hS'
      replace hA := hidden hA
      replace hll := hidden hll
      replace hdl := hidden hdl
      go_upto_region 4 with fail
      have hBa : Below wr.heap.size wr (wr.alloc (.cells #[.int .i64 X, .slice da 128 dcap] 255)) := (Below.refl _ _).alloc (Nat.le_refl _) _
      have e0 : (wr.alloc (.cells #[.int .i64 X, .slice da 128 dcap] 255)).cell? ⟨wr.heap.size, 0, none⟩ = some (.int .i64 X) := by simp
      have e1 : (wr.alloc (.cells #[.int .i64 X, .slice da 128 dcap] 255)).cell? ⟨wr.heap.size, 1, none⟩ = some (.slice da 128 dcap) := by simp
      generalize wr.alloc (.cells #[.int .i64 X, .slice da 128 dcap] 255) = w2 at hBa e0 e1 ⊢
      have j0 := (hBa.cell (p := ⟨jb, 0, none⟩) hjl).trans hj0
      have kW : ∀ wx, Below w2.heap.size w2 wx -> Calls Tryz.prog 105 #[ptr d, .int .i64 X, .slice da 128 dcap] wx fun e w' => ∃ r, e = .returned r /\ Wrote w0 d g n [(X, D)] (laid ((settleWs at_ l).take k) mem) (writes + k) left' r wr w' := fun wx hx => by
        have hBx : Below wr.heap.size wr wx := hBa.trans (hx.mono hBa.size)
        refine (write_out (hS'.out.more hBx) X hno _ D (hDt.out.below hBx) hdl.out hl' (by omega)).mono ?_
        rintro e w' ⟨r, rfl, hW⟩
        refine ⟨r, rfl, (Apart.of_below hBx).trans hW.apart, ?_⟩
        rcases hW.out with h | ⟨k2, b, i2, h1, h2, h3, h4, h5⟩
        · exact Or.inl h
        · exact Or.inr ⟨k2, b, i2, h1, h2, h3, Nat.le_trans hBx.size h4, h5⟩
      replace kW := hidden kW
      have hB0 := hidden (Below.refl w2.heap.size w2)
      generalize wr.heap.size = lb at e0 e1 ⊢
      clear hBa hj0 hj1 hc1 hc2 hjl
      go_cut [7] (fun r wx => Wrote w0 d g n [(X, D)] (laid ((settleWs at_ l).take k) mem) (writes + k) left' r wr wx)
      case first =>
        go_region_with (go_at_call 105; refine (kW.out _ (Below.refl _ _).drew).mono ?_; rintro ev w3 ⟨r, rfl, hW⟩)
        all_goals (replace hW := hidden hW; go_wp2; go_meet; case rel => exact hW.out)
      case rest =>
        clear kW hB0 e0 e1 j0
        have hW := hidden hcut
        rcases hcut.out with ⟨rfl, -⟩ | ⟨-, b4, -, -, rfl, -⟩
        · have hE := hidden (Mid.next hA.out hll.out hwk.out hW.out)
          clear hcut hW
          go_wp2
          go_roundg (l.length - (k + 1))
          case measure => rw [hgk.out]; omega
          case rel => exact ⟨k + 1, hlt, rfl, by go_num, hE⟩
        · have hE := hidden (Mid.fail (ws := settleWs at_ l) (by rw [hsl.out]; omega) hA.out hll.out hW.out (by intro e; cases e))
          clear hcut hW
          go_wp2
          go_ret
          exact ⟨_, rfl, hE.out⟩
    · obtain rfl : k = l.length := by omega
      have hmk := fun w => make_block w
      have kW : ∀ wx, Below wr.heap.size wr wx -> Calls Tryz.prog 105 #[ptr d, .int .i64 at_, .slice (some ⟨wx.heap.size, 0, none⟩) 128 128] (wx.alloc (.cells (Array.replicate 128 (.int .u8 0)) 5)) fun e w' => ∃ r, e = .returned r /\ Wrote w0 d g n (settleWs at_ l) mem writes left r w w' := fun wx hx => by
        have hx2 : Below wr.heap.size wr (wx.alloc (.cells (Array.replicate 128 (.int .u8 0)) 5)) := hx.alloc hx.size _
        have hz := (ownB_zero wx wx.heap.size (Nat.le_refl _) 128 (by omega)).bytes
        refine (write_out (hS'.more hx2) at_ hat _ zeroB hz (by simp) hl' (by omega)).mono ?_
        rintro e w' ⟨r, rfl, hW⟩
        refine ⟨r, rfl, Mid.last (hA.trans (Apart.of_below hx2)) hll ?_ (by rw [hsl.out]; omega) hW⟩
        rw [hwl.out l.length (Nat.le_refl _), List.take_length]
        rfl
      replace kW := hidden kW
      clear hS' hA hll hJ'
      have hjl : jb < wr.heap.size := lt_of_cell (a := ⟨jb, 0, none⟩) hj0
      have hmk2 := hmk wr.drew
      go_upto_region 8 with fail
      go_cut [4] (fun r wx => Wrote w0 d g n (settleWs at_ l) mem writes left r w wx)
      case first =>
        go_region_with (go_at_call 105; refine (kW.out _ (Below.refl _ _).drew).mono ?_; rintro ev w3 ⟨r, rfl, hW⟩)
        all_goals (replace hW := hidden hW; go_wp2; go_meet; case rel => exact hW.out)
      case rest =>
        have hE := hidden hcut
        clear kW hcut
        go_wp2
        go_ret
        exact ⟨_, rfl, hE.out⟩
end Go.Proofs.YtpofmiecjkghgaaGreatDoor
