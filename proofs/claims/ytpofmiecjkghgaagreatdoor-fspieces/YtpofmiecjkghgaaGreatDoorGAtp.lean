/- alloc's turn. -/
import Derived.Test.YtpofmiecjkghgaaGreatDoorGAmp
namespace Go.Proofs.YtpofmiecjkghgaaGreatDoor
open Go.RowKit Go.Extern.Stop Go.Stop Go.Extern
set_option maxRecDepth 100000
set_option maxHeartbeats 4000000
section
variable {w0 : World} {d g n jb cb mb at_ most : Nat} {blocks : Int} {mem : Nat -> Int} {writes left : Int} {M : Chg} {w w' : World}
theorem turn_calls (h : CSt w0 d g n jb cb mb at_ most blocks mem writes left M w) (hl : left ≠ 0) {ab ma fr k : Nat} (hm : MpAt ab cb ma fr k w) (hf : Fits n blocks ma fr k) (i : Nat) (hi : i < k) (hh : (hasM (homeA ma i : Nat) M || decide (M.length < most)) = true) (hM : M.length <= 100000) :
    Calls Tryz.prog 290 #[ptr ab, .int .i64 i] w fun e w' => e = .returned .nilIface /\ CSt w0 d g n jb cb mb at_ most blocks mem writes left (turnM mem M ma i) w' /\ Apart [mb] w w' := by
  have hk2 := hf.k2
  have hma := hf.low
  obtain ⟨hn1, hn2⟩ := hf.home hi
  have hab := hm.lt
  have hlt := spotA_lt i
  have hBt := hidden (bits_calls h hl hm hf i hi)
  have kH := hidden (fun (wx : World) (hx : Below w.heap.size w wx) => home_calls i ma ab (by omega) (by omega) wx (hm.below hx).c1)
  have kc := hidden (fun (wx : World) (hx : Below w.heap.size w wx) => (hm.below hx).c0)
  have kS := hidden (fun (wx : World) => spot_calls i (by omega) wx)
  have kW := hidden (fun (wx : World) (hx : Below w.heap.size w wx) (fz : Nat × Nat) => cwrite_calls (h.more (hx.alloc hx.size (.cells #[.int .u8 (bits .xor .u8 (byteA mem M ma i) (2 ^ (i % 8)))] 5 fz))) hl (homeA ma i) (spotA i) hn1 hn2 _ [bits .xor .u8 (byteA mem M ma i) (2 ^ (i % 8))] (lit_bytes wx [bits .xor .u8 (byteA mem M ma i) (2 ^ (i % 8))] (by intro z hz; obtain rfl := List.mem_singleton.1 hz; exact xor_bit_range _ _) (by simp) fz) (by simp; omega) hh hM)
  have hX := hidden (show turnM mem M ma i = putM (homeA ma i : Nat) (layL (nowM mem M (homeA ma i)) (spotA i) [bits .xor .u8 (byteA mem M ma i) (2 ^ (i % 8))]) M from rfl)
  rw [hX.out]
  have hLc : ∀ (wx : World) (b : Nat), Lie wx b (nowM mem M (homeA ma i)) -> wx.cell? ⟨b, spotA i, none⟩ = some (.int .u8 (byteA mem M ma i)) := fun wx b hL => hL.cell _ hlt
  have hx2 := hidden (show bits .xor .u8 (byteA mem M ma i) (2 ^ (i % 8)) = bits .xor .u8 (byteA mem M ma i) (2 ^ (i % 8)) from rfl)
  have kS' : ∀ wx, Calls Tryz.prog 210 #[.int .i64 i] wx fun e w' => e = .returned (.tuple #[.int .i64 (spotA i : Nat), .int .u8 (2 ^ (i % 8))]) /\ Below wx.heap.size wx w' := kS.out
  have kH' : ∀ wx, Below w.heap.size w wx -> Calls Tryz.prog 209 #[ptr ab, .int .i64 i] wx fun e w' => e = .returned (.int .i64 (homeA ma i : Nat)) /\ w' = wx := kH.out
  clear kS kH hX hx2 h hm hf hh hn1 hn2
  generalize (2 : Int) ^ (i % 8) = bt at kW kS' ⊢
  generalize nowM mem M (homeA ma i) = zs at hBt kW hLc ⊢
  generalize byteA mem M ma i = x at kW hLc ⊢
  generalize homeA ma i = ho at kW kH' ⊢
  generalize spotA i = sp at kW hlt hLc kS' ⊢
  replace hLc := hidden hLc
  replace kS' := hidden kS'
  replace kH' := hidden kH'
  go_enter Tryz.func290, Tryz.ntmps290
  go_wp2_with fail
  refine (hBt.out).mono ?_
  rintro ev w1 ⟨b, rfl, hL1, hb1, hB1⟩
  clear hBt
  replace hL1 := hidden hL1
  replace hB1 := hidden hB1
  go_wp2_with fail
  refine (kS'.out _).mono ?_
  rintro ev w2 ⟨rfl, hB2⟩
  have hB02 := hidden (hB1.out.trans (hB2.mono hB1.out.size))
  have hL2 := hL1.out.below hB2
  have cb2 := hLc.out _ _ hL2
  have c0 := kc.out _ hB02.out
  have hbl := hL2.lt
  have hab2 : ab < w2.heap.size := Nat.lt_of_lt_of_le hab hB02.out.size
  clear hB2 hL2 hL1 hB1 kS' hLc
  have hBd := hidden (hB02.out.trans ((below_drew1 w2).mono hB02.out.size))
  go_upto_region 5 with fail
  go_cut [4] (fun x3 wx => x3 = .nilIface /\ CSt w0 d g n jb cb mb at_ most blocks mem writes left (putM (ho : Nat) (layL zs sp [bits .xor .u8 x bt]) M) wx /\ Apart [mb] w wx)
  case first =>
    go_region_with (first
      | (go_at_call 209; refine (kH'.out _ (by first | exact hBd.out | exact hBd.out.alloc hBd.out.size _)).mono ?_; rintro ev w3 ⟨rfl, rfl⟩)
      | (go_at_call 170; refine (kW.out _ hBd.out _).mono ?_; rintro ev w3 ⟨rfl, hC3, hA3⟩))
    all_goals (go_wp2; go_meet; case rel => exact ⟨rfl, hC3, (Apart.of_below (hBd.out.alloc hBd.out.size _)).trans hA3⟩)
  case rest =>
    obtain ⟨rfl, hE⟩ := hcut
    replace hE := hidden hE
    go_wp2
    go_ret
    exact ⟨rfl, hE.out⟩
end
end Go.Proofs.YtpofmiecjkghgaaGreatDoor
