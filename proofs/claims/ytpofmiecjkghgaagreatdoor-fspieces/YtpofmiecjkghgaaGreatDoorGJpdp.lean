/- The journal's underWay. -/
import Derived.Test.YtpofmiecjkghgaaGreatDoorGJqp
namespace Go.Proofs.YtpofmiecjkghgaaGreatDoor
open Go.RowKit Go.Extern.Stop Go.Stop Go.Extern
set_option maxRecDepth 100000
theorem under_dead {w0 : World} {d g n : Nat} {mem : Nat -> Int} {writes : Int} {w : World} (h : Sys w0 d g n mem writes 0 w) (jb at_ most : Nat) (hj : JAt jb d at_ most w) (hat : at_ < n) :
    Calls Tryz.prog 244 #[ptr jb] w fun e w' => ∃ b, e = .returned (.tuple #[.slice none 0 0, flt b]) /\ Chain w' [(sDisk, itoaB at_)] (num 50) (flt b) /\ w.heap.size <= b /\ Below w.heap.size w w' := by
  have hfew := h.disk.few
  have hB0 : Below w.heap.size w w.drew := (Below.refl _ _).drew
  have kR := hidden (read_bad (h.more hB0).disk at_ 50 ⟨by omega, by omega⟩ (h.more hB0).ground (reach_dead n at_ hat))
  have j0 := hj.c0
  have j1 := hj.c1
  clear h hj
  replace hB0 := hidden hB0
  go_enter Tryz.func244, Tryz.ntmps244
  go_upto_region 1 with fail
  go_cut [4, 5] (fun x y wx => x = .slice none 0 0 /\ ∃ b, y = flt b /\ Chain wx [(sDisk, itoaB at_)] (num 50) (flt b) /\ w.heap.size <= b /\ Below w.heap.size w wx)
  case first =>
    go_region_with (go_at_call 94; refine (kR.out).mono ?_; rintro ev w3 ⟨b3, rfl, hE⟩; replace hE := hidden hE)
    all_goals (go_wp2; go_meet; case rel => exact ⟨rfl, b3, rfl, hE.out.1, hE.out.2.1, hB0.out.trans (hE.out.2.2.mono hB0.out.size)⟩)
  case rest =>
    obtain ⟨rfl, b, rfl, hE⟩ := hcut
    replace hE := hidden hE
    clear kR
    go_wp2
    go_ret2
    exact ⟨b, rfl, hE.out⟩
theorem under_idle {w0 : World} {d g n : Nat} {mem : Nat -> Int} {writes left : Int} {w : World} (h : Sys w0 d g n mem writes left w) (hl : left ≠ 0) (jb at_ most : Nat) (hj : JAt jb d at_ most w) (hat : at_ < n) (hi : Idle at_ mem) :
    Calls Tryz.prog 244 #[ptr jb] w fun e w' => e = .returned (.tuple #[.slice none 0 0, .nilIface]) /\ Below w.heap.size w w' := by
  have hfew := h.disk.few
  have hB0 : Below w.heap.size w w.drew := (Below.refl _ _).drew
  have kR := hidden (sys_read (h.more hB0) at_ hat hl)
  rw [show blockL mem at_ = zeroB from hi] at kR
  have j0 := hj.c0
  have j1 := hj.c1
  clear h hj hi
  replace hB0 := hidden hB0
  go_enter Tryz.func244, Tryz.ntmps244
  go_upto_region 1 with fail
  go_cut [4, 5] (fun x y wx => y = .nilIface /\ BytesAt wx x zeroB /\ Below w.heap.size w wx)
  case first =>
    go_region_with (go_at_call 94; refine (kR.out).mono ?_; rintro ev w3 ⟨b3, rfl, hE, -, -, -, hB3⟩; replace hE := hidden hE; replace hB3 := hidden hB3)
    all_goals (go_wp2; go_meet; case rel => exact ⟨rfl, hE.out, hB0.out.trans (hB3.out.mono hB0.out.size)⟩)
  case rest =>
    obtain ⟨rfl, hb, hB⟩ := hcut
    have hG := hidden (get_calls zeroB _ 0 _ hb (by simp) (by simp))
    rw [zero_count] at hG
    replace hB := hidden hB
    clear kR hb
    go_wp2_with fail
    refine (hG.out).mono ?_
    rintro ev w4 ⟨rfl, rfl⟩
    clear hG
    go_wp2_with fail
    go_quiet (fail)
    go_wp2
    go_ret2
    exact ⟨rfl, below_drewN hB.out nq⟩
end Go.Proofs.YtpofmiecjkghgaaGreatDoor
